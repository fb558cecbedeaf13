import PyProof.Rows.All
import Wide.All
import OpenK.AllK
import Wide.FinOn
import HandS.ForMost
import HandS.Wide
import HandS.Walk
import HandS.Zip
import HandS.IsInst
import HandS.Defaults
import HandS.Style
import HandS.Deep
import HandS.FStrTup
import Flt.Len
import PyProof.ReprRoads
import PyProof.NoPylong
import HandS.ExcOwn
import HandS.ExcIs
import HandS.ExcValue
import HandS.WordsExc
import KE.KExcIs
import HandS.TupLe
import PyProof.P3In
import HandS.ExcInit
import KE.KExcSuper
import HandS.Star
import HandS.Small
import KE.DataFind
import HandS.StrMore
import HandS.FStr
import HandS.WideBits
import HandS.RevTup
import HandS.Rev
import HandS.SortKw
import KE.DataMinMax
import HandS.Codes
import KE.IntTextLaws
import HandS.TryOnly
import HandS.DictComp
import HandS.Conv
import HandS.SetFor
import HandS.Strs
import PyProof.Rows.ListMulR
import HandS.TupAny
import KE.KTryMore
import HandS.SortInts
import PyProof.ExcBaseAll.LookupError
import PyProof.ExcBaseAll.ValueError
import PyProof.ExcBaseAll.ZeroDivisionError
import PySem.Challenge.RW_downweigh_k22_programs_written
set_option Elab.async false
set_option linter.all false
set_option maxRecDepth 100000
set_option maxHeartbeats 4000000
namespace DL
open PySem PySem.Spec PyProof.Rows L2
def dctK (kvs : List (Str × Int)) : List (Key × V) := kvs.map fun kv => (.inr kv.1, .int kv.2)
inductive D where
  | non
  | bl (b : Bool)
  | int (i : Int)
  | str (x : Str)
  | lst (xs : List D)
  | tup (xs : List D)
  | fro (xs : List D)
  | edic
  | dct (kvs : List (Str × Int))
  | opq (v : V)
  | exc (c : Str) (ns : List Str) (xs : List D)
def Sub (H H' : Hp) : Prop := ∀ b o, H b = some o → H' b = some o
theorem Sub.refl (H : Hp) : Sub H H := fun _ _ h => h
theorem Sub.trans {H H1 H2 : Hp} (a : Sub H H1) (b : Sub H1 H2) : Sub H H2 := fun c o h => b c o (a c o h)
theorem Sub.new {H : Hp} {p : Addr} {o : HO} (h : H p = none) : Sub H (upd H p o) := fun b u e => by
  rw [upd_ne (ne_of_none e h)]; exact e
theorem Sub.none {H H' : Hp} (s : Sub H H') {p : Addr} (h : H' p = none) : H p = none := by
  cases e : H p with
  | none => rfl
  | some o => rw [s p o e] at h; cases h
theorem Sub.sqL {K : PySem.W.Frag} {H H' : Hp} {a : Addr} {xs : List V} (e : Sub H H') (h : SqL K H a xs) : SqL K H' a xs := by
  rcases h with (h | ⟨o, h⟩) | h
  · exact .inl (.inl (e _ _ h))
  · exact .inl (.inr ⟨o, e _ _ h⟩)
  · exact .inr h
theorem Sub.sqT {K : PySem.W.Frag} {H H' : Hp} {a : Addr} {xs : List V} (e : Sub H H') (h : SqT K H a xs) : SqT K H' a xs := by
  rcases h with (h | ⟨o, h⟩) | h
  · exact .inl (.inl (e _ _ h))
  · exact .inl (.inr ⟨o, e _ _ h⟩)
  · exact .inr h
/-- an exception's object at a: its class, its dict -/
def ExH (cv : Value) (d : Option Addr) (a : Addr) : HO := .ext fun h => ∃ (oe : Obj) (fv : Array Value), h.get? a = some oe ∧ Zc cv d oe ∧ oe.data = .fields fv
/-- what its dict holds -/
def XD (F : Hp) (d : Option Addr) (ns : List Str) (vs : List V) : Prop := (d = none ∧ ns = [] ∧ vs = []) ∨ ∃ dx, d = some dx ∧ F dx = some (.xd (ns.zip vs)) ∧ ns.length = vs.length ∧ ns ≠ []
theorem XD.mono {F F' : Hp} {d : Option Addr} {ns : List Str} {vs : List V} (e : Sub F F') (h : XD F d ns vs) : XD F' d ns vs := by
  rcases h with h | ⟨dx, h1, h2, h3⟩
  · exact .inl h
  · exact .inr ⟨dx, h1, e _ _ h2, h3⟩
mutual
inductive DR (K : PySem.W.Frag) (F : Hp) : V → D → Prop
  | non : DR K F .non .non
  | bl (b : Bool) : DR K F (.bl b) (.bl b)
  | int (i : Int) : DR K F (.int i) (.int i)
  | str (x : Str) : DR K F (.str x) (.str x)
  | lst {a : Addr} {xs : List V} {ds : List D} : F a = some (.lst xs) → DRs K F xs ds → DR K F (.ref a) (.lst ds)
  | tup {a : Addr} {xs : List V} {ds : List D} : SqT K F a xs → DRs K F xs ds → DR K F (.ref a) (.tup ds)
  | fro {a : Addr} {xs : List V} {ds : List D} : SqL K F a xs → DRs K F xs ds → DR K F (.ref a) (.fro ds)
  | edic {a : Addr} : F a = some (.dK []) → DR K F (.ref a) .edic
  | dct {a : Addr} {kvs : List (Str × Int)} : F a = some (.dK (dctK kvs)) → DR K F (.ref a) (.dct kvs)
  | opq (v : V) : DR K F v (.opq v)
  | exc {a : Addr} {c : Str} {cv : Value} {d : Option Addr} {ns : List Str} {vs : List V} {ds : List D} : PySem.W.nsIn K mainGlobals c = some (some cv) → F a = some (ExH cv d a) → XD F d ns vs → DRs K F vs ds → DR K F (.ref a) (.exc c ns ds)
inductive DRs (K : PySem.W.Frag) (F : Hp) : List V → List D → Prop
  | nil : DRs K F [] []
  | cons {v : V} {vs : List V} {d : D} {ds : List D} : DR K F v d → DRs K F vs ds → DRs K F (v :: vs) (d :: ds)
end
section
variable {K : PySem.W.Frag} {F F' H H' : Hp} {v : V} {d : D} {vs : List V} {ds : List D}
mutual
theorem DR.mono (e : Sub F F') : ∀ {v : V} {d : D}, DR K F v d → DR K F' v d
  | _, _, .non => .non
  | _, _, .bl b => .bl b
  | _, _, .int i => .int i
  | _, _, .str x => .str x
  | _, _, .lst h hs => .lst (e _ _ h) (DRs.mono e hs)
  | _, _, .tup h hs => .tup (e.sqT h) (DRs.mono e hs)
  | _, _, .fro h hs => .fro (e.sqL h) (DRs.mono e hs)
  | _, _, .edic h => .edic (e _ _ h)
  | _, _, .dct h => .dct (e _ _ h)
  | _, _, .opq v => .opq v
  | _, _, .exc h0 h hx hs => .exc h0 (e _ _ h) (hx.mono e) (DRs.mono e hs)
theorem DRs.mono (e : Sub F F') : ∀ {vs : List V} {ds : List D}, DRs K F vs ds → DRs K F' vs ds
  | _, _, .nil => .nil
  | _, _, .cons h hs => .cons (DR.mono e h) (DRs.mono e hs)
end
theorem DRs.length : ∀ {vs : List V} {ds : List D}, DRs K F vs ds → vs.length = ds.length
  | _, _, .nil => rfl
  | _, _, .cons _ h => by simp [DRs.length h]
theorem DRs.get : ∀ {vs : List V} {ds : List D} {i : Nat} {d : D}, DRs K F vs ds → ds[i]? = some d → ∃ v, vs[i]? = some v ∧ DR K F v d
  | _, _, _, _, .nil, e => by simp at e
  | _, _, 0, _, .cons r _, e => by simp at e; subst e; exact ⟨_, rfl, r⟩
  | _, _, i + 1, d, .cons _ t, e => by
    obtain ⟨u, h1, h2⟩ := DRs.get (i := i) (d := d) t (by simpa using e)
    exact ⟨u, by simpa using h1, h2⟩
theorem DRs.getV : ∀ {vs : List V} {ds : List D} {i : Nat} {v : V}, DRs K F vs ds → vs[i]? = some v → ∃ d, ds[i]? = some d ∧ DR K F v d
  | _, _, _, _, .nil, e => by simp at e
  | _, _, 0, _, .cons r _, e => by simp at e; subst e; exact ⟨_, rfl, r⟩
  | _, _, i + 1, d, .cons _ t, e => by
    obtain ⟨u, h1, h2⟩ := DRs.getV (i := i) (v := d) t (by simpa using e)
    exact ⟨u, by simpa using h1, h2⟩
theorem DRs.append : ∀ {xs ys : List V} {ds es : List D}, DRs K F xs ds → DRs K F ys es → DRs K F (xs ++ ys) (ds ++ es)
  | _, _, _, _, .nil, s => s
  | _, _, _, _, .cons r t, s => .cons r (DRs.append t s)
theorem DRs.take : ∀ {xs : List V} {ds : List D} (n : Nat), DRs K F xs ds → DRs K F (xs.take n) (ds.take n)
  | _, _, 0, _ => by simp; exact .nil
  | _, _, _ + 1, .nil => .nil
  | _, _, n + 1, .cons r t => .cons r (DRs.take n t)
theorem DRs.drop : ∀ {xs : List V} {ds : List D} (n : Nat), DRs K F xs ds → DRs K F (xs.drop n) (ds.drop n)
  | _, _, 0, r => r
  | _, _, _ + 1, .nil => .nil
  | _, _, n + 1, .cons _ t => DRs.drop n t
theorem DRs.set {x : V} {u : D} (r : DR K F x u) : ∀ {xs : List V} {us : List D} (i : Nat), DRs K F xs us → DRs K F (xs.set i x) (us.set i u)
  | _, _, _, .nil => .nil
  | _, _, 0, .cons _ t => .cons r t
  | _, _, i + 1, .cons q t => .cons q (DRs.set r i t)
theorem DRs.ints : ∀ (ns : List Int), DRs K F (ns.map V.int) (ns.map D.int)
  | [] => .nil
  | n :: r => .cons (.int n) (DRs.ints r)
end
abbrev DS := List (Option D)
abbrev MS := List (Addr × List D)
/-- address 1 (the modules) is tracked from the start: nothing of ours lies there -/
def OneR (K : PySem.W.Frag) (F : Hp) : Prop := K.lookup sysModules = none ∧ ∃ o φ, F sysModules = some (.frz o (.ext φ))
theorem OneR.mono {K : PySem.W.Frag} {F F' : Hp} (h : OneR K F) (s : Sub F F') : OneR K F' := let ⟨a, o, φ, b⟩ := h; ⟨a, o, φ, s _ _ b⟩
structure Rel (K : PySem.W.Frag) (F H : Hp) (ms : MS) : Prop where
  sub : Sub F H
  mu : ∀ p ∈ ms, F p.1 = none ∧ ∃ vs, H p.1 = some (.lst vs) ∧ DRs K F vs p.2
  nd : (ms.map (·.1)).Nodup
  one : OneR K F
inductive Sl (K : PySem.W.Frag) (F : Hp) : L2.St → DS → Prop
  | nil : Sl K F [] []
  | sm {v : V} {d : D} {σ : L2.St} {ds : DS} : DR K F v d → Sl K F σ ds → Sl K F (some v :: σ) (some d :: ds)
  | nn {o : Option V} {σ : L2.St} {ds : DS} : Sl K F σ ds → Sl K F (o :: σ) (none :: ds)
def slot : DS → Nat → Option D
  | [], _ => none
  | o :: _, 0 => o
  | _ :: r, n + 1 => slot r n
def setSlot : DS → Nat → D → DS
  | [], _, _ => []
  | _ :: r, 0, d => some d :: r
  | o :: r, n + 1, d => o :: setSlot r n d
section
variable {K : PySem.W.Frag} {F F' H H' : Hp} {ms : MS} {σ : L2.St} {ds : DS}
theorem Sl.mono (e : Sub F F') : ∀ {σ : L2.St} {ds : DS}, Sl K F σ ds → Sl K F' σ ds
  | _, _, .nil => .nil
  | _, _, .sm h r => .sm (h.mono e) (Sl.mono e r)
  | _, _, .nn r => .nn (Sl.mono e r)
theorem Sl.get : ∀ {σ : L2.St} {ds : DS} {i : Nat} {d : D}, Sl K F σ ds → slot ds i = some d → ∃ v, σ[i]? = some (some v) ∧ DR K F v d
  | _, _, i, _, .nil, e => by cases i <;> cases e
  | _, _, 0, _, .sm h r, e => by cases e; exact ⟨_, rfl, h⟩
  | _, _, 0, _, .nn r, e => by cases e
  | _, _, i + 1, _, .sm h r, e => Sl.get (i := i) r e
  | _, _, i + 1, _, .nn r, e => Sl.get (i := i) r e
theorem Sl.set {v : V} {d : D} (h : DR K F v d) : ∀ {σ : L2.St} {ds : DS} (i : Nat), Sl K F σ ds → Sl K F (σ.set i (some v)) (setSlot ds i d)
  | _, _, i, .nil => by cases i <;> exact .nil
  | _, _, 0, .sm _ r => .sm h r
  | _, _, 0, .nn r => .sm h r
  | _, _, i + 1, .sm q r => .sm q (Sl.set h i r)
  | _, _, i + 1, .nn r => .nn (Sl.set h i r)
theorem Sl.len : ∀ {σ : L2.St} {ds : DS}, Sl K F σ ds → σ.length = ds.length
  | _, _, .nil => rfl
  | _, _, .sm _ r => by simp [Sl.len r]
  | _, _, .nn r => by simp [Sl.len r]
theorem Rel.new {p : Addr} {o : HO} (R : Rel K F H ms) (hp : H p = none) : Rel K (upd F p o) (upd H p o) ms := by
  refine ⟨fun b u e => ?_, fun q hq => ?_, R.nd, R.one.mono (Sub.new (R.sub.none hp))⟩
  · by_cases hb : b = p
    · subst hb; rw [upd_same] at e ⊢; exact e
    · rw [upd_ne hb] at e ⊢; exact R.sub b u e
  · obtain ⟨h1, vs, h2, h3⟩ := R.mu q hq
    have hne : q.1 ≠ p := ne_of_none h2 hp
    exact ⟨by rw [upd_ne hne]; exact h1, vs, by rw [upd_ne hne]; exact h2, h3.mono (Sub.new (R.sub.none hp))⟩
theorem Rel.ext (R : Rel K F H ms) (s : Sub H H') : Rel K F H' ms :=
  ⟨R.sub.trans s, fun q hq => let ⟨h1, vs, h2, h3⟩ := R.mu q hq; ⟨h1, vs, s _ _ h2, h3⟩, R.nd, R.one⟩
theorem Rel.lay {p : Addr} {o : HO} (R : Rel K F H ms) (hp : H p = none) : Rel K F (upd H p o) ms := R.ext (Sub.new hp)
end
/-- one step: what was known stays, what is not ours is left as it was -/
structure Stp (F H : Hp) (ms : MS) (F' H' : Hp) (ms' : MS) : Prop where
  sub : Sub F F'
  keep : ∀ a o, H a = some o → F a = none → (∀ p ∈ ms, p.1 ≠ a) → H' a = some o
  newF : ∀ a o, F' a = some o → F a = some o ∨ H a = none ∨ ∃ p ∈ ms, p.1 = a
  newM : ∀ p ∈ ms', (∃ q ∈ ms, q.1 = p.1) ∨ H p.1 = none ∨ ∃ o, F p.1 = some o
section
variable {K : PySem.W.Frag} {F F1 F2 H H1 H2 : Hp} {ms m1 m2 : MS}
theorem Stp.refl : Stp F H ms F H ms := ⟨Sub.refl F, fun _ _ h _ _ => h, fun _ _ h => .inl h, fun p hp => .inl ⟨p, hp, rfl⟩⟩
theorem Stp.trans (a : Stp F H ms F1 H1 m1) (b : Stp F1 H1 m1 F2 H2 m2) : Stp F H ms F2 H2 m2 := by
  have kp : ∀ c o, H c = some o → F c = none → (∀ p ∈ ms, p.1 ≠ c) → H1 c = some o ∧ F1 c = none ∧ ∀ p ∈ m1, p.1 ≠ c := fun c o h1 h2 h3 => by
    refine ⟨a.keep c o h1 h2 h3, ?_, fun p hp e => ?_⟩
    · cases e : F1 c with
      | none => rfl
      | some u =>
        rcases a.newF c u e with z | z | ⟨p, hp, z⟩
        · rw [h2] at z; cases z
        · rw [h1] at z; cases z
        · exact absurd z (h3 p hp)
    · rcases a.newM p hp with ⟨q, hq, z⟩ | z | ⟨u, z⟩
      · exact h3 q hq (z.trans e)
      · rw [e, h1] at z; cases z
      · rw [e, h2] at z; cases z
  have bk : ∀ c, H1 c = none → F c = none → H c = none ∨ ∃ p ∈ ms, p.1 = c := fun c h1 h2 => by
    cases e : H c with
    | none => exact .inl rfl
    | some u =>
      by_cases hq : ∃ p ∈ ms, p.1 = c
      · exact .inr hq
      · have z := a.keep c u e h2 fun p hp z => hq ⟨p, hp, z⟩
        rw [h1] at z; cases z
  refine ⟨a.sub.trans b.sub, fun c o h1 h2 h3 => ?_, fun c o h => ?_, fun p hp => ?_⟩
  · obtain ⟨x, y, z⟩ := kp c o h1 h2 h3
    exact b.keep c o x y z
  · cases ef : F c with
    | some u =>
      have z := b.sub c u (a.sub c u ef)
      rw [h] at z
      exact .inl z.symm
    | none =>
      refine .inr ?_
      rcases b.newF c o h with z | z | ⟨p, hp, z⟩
      · rcases a.newF c o z with y | y | y
        · rw [ef] at y; cases y
        · exact .inl y
        · exact .inr y
      · exact bk c z ef
      · rcases a.newM p hp with ⟨q, hq, y⟩ | y | ⟨u, y⟩
        · exact .inr ⟨q, hq, y.trans z⟩
        · exact .inl (z ▸ y)
        · rw [z, ef] at y; cases y
  · cases ef : F p.1 with
    | some u => exact .inr (.inr ⟨u, rfl⟩)
    | none =>
      rcases b.newM p hp with ⟨q, hq, z⟩ | z | ⟨u, z⟩
      · rcases a.newM q hq with ⟨q2, hq2, z2⟩ | z2 | ⟨u, z2⟩
        · exact .inl ⟨q2, hq2, z2.trans z⟩
        · exact .inr (.inl (z ▸ z2))
        · rw [z, ef] at z2; cases z2
      · rcases bk p.1 z ef with y | y
        · exact .inr (.inl y)
        · exact .inl y
      · rcases a.newF p.1 u z with y | y | y
        · rw [ef] at y; cases y
        · exact .inr (.inl y)
        · exact .inl y
theorem Stp.new {p : Addr} {o : HO} (R : Rel K F H ms) (hp : H p = none) : Stp F H ms (upd F p o) (upd H p o) ms := by
  refine ⟨Sub.new (R.sub.none hp), fun a u h1 h2 h3 => ?_, fun a u h => ?_, fun q hq => .inl ⟨q, hq, rfl⟩⟩
  · rw [upd_ne (ne_of_none h1 hp)]; exact h1
  · by_cases e : a = p
    · subst e; exact .inr (.inl hp)
    · rw [upd_ne e] at h; exact .inl h
end
abbrev DE := DS → MS → (D → MS → Prop) → Prop
abbrev DA := DS → MS → (List D → MS → Prop) → Prop
abbrev DT := DS → MS → (Bool → MS → Prop) → Prop
def lift (K : PySem.W.Frag) (de : DE) : TE := fun σ H Q => ∃ F ds ms P, Rel K F H ms ∧ Sl K F σ ds ∧ de ds ms P ∧
  ∀ d ms' v F' H', P d ms' → Rel K F' H' ms' → Stp F H ms F' H' ms' → DR K F' v d → Q v H'
def liftA (K : PySem.W.Frag) (de : DA) : TA := fun σ H Q => ∃ F ds ms P, Rel K F H ms ∧ Sl K F σ ds ∧ de ds ms P ∧
  ∀ xs ms' vs F' H', P xs ms' → Rel K F' H' ms' → Stp F H ms F' H' ms' → DRs K F' vs xs → Q vs H'
def liftT (K : PySem.W.Frag) (de : DT) : TT := fun σ H Q => ∃ F ds ms P, Rel K F H ms ∧ Sl K F σ ds ∧ de ds ms P ∧
  ∀ b ms' F' H', P b ms' → Rel K F' H' ms' → Stp F H ms F' H' ms' → Q b H'
abbrev PD (X : Cx) (e : Expr) (de : DE) : Prop := PE X e (lift X.K de)
abbrev PDA (X : Cx) (es : List Expr) (de : DA) : Prop := PA X es (liftA X.K de)
abbrev PDT (X : Cx) (e : Expr) (de : DT) : Prop := PT X e (liftT X.K de)
theorem peImp {X : Cx} {e : Expr} {t t' : TE} (h : PE X e t) (hi : ∀ σ H Q, t' σ H Q → t σ H Q) : PE X e t' := ⟨fun pins s σ H Q I hq => h.run pins s σ H Q I (hi σ H Q hq)⟩
theorem paImp {X : Cx} {e : List Expr} {t t' : TA} (h : PA X e t) (hi : ∀ σ H Q, t' σ H Q → t σ H Q) : PA X e t' := ⟨fun pos pins s σ H Q I hq => h.run pos pins s σ H Q I (hi σ H Q hq)⟩
theorem ptImp {X : Cx} {e : Expr} {t t' : TT} (h : PT X e t) (hi : ∀ σ H Q, t' σ H Q → t σ H Q) : PT X e t' := ⟨fun pins s σ H Q I hq => h.run pins s σ H Q I (hi σ H Q hq)⟩
theorem pwImp {X : Cx} {e : Expr} {t t' : TT} (h : PW X e t) (hi : ∀ σ H Q, t' σ H Q → t σ H Q) : PW X e t' := ⟨fun wh pins s σ H Q I hq => h.run wh pins s σ H Q I (hi σ H Q hq)⟩
theorem psImp {X : Cx} {e : Stmt} {t t' : TS} (h : PS X e t) (hi : ∀ D σ H, t' D σ H → t D σ H) : PS X e t' := ⟨fun pins s σ H D I hq => h.run pins s σ H D I (hi D σ H hq)⟩
theorem pssImp {X : Cx} {e : List Stmt} {t t' : TS} (h : PSs X e t) (hi : ∀ D σ H, t' D σ H → t D σ H) : PSs X e t' := ⟨fun pins s σ H D I hq => h.run pins s σ H D I (hi D σ H hq)⟩
def dC (d : D) : DE := fun _ ms P => P d ms
def dVar (i : Nat) : DE := fun ds ms P => match slot ds i with
  | some d => P d ms
  | none => False
section
variable {X : Cx} {K : PySem.W.Frag}
theorem lift_c {v : V} {d : D} (h : ∀ F, DR K F v d) : ∀ σ H Q, lift K (dC d) σ H Q → tC v σ H Q := fun σ H Q ⟨F, ds, ms, P, R, S, h1, h2⟩ =>
  h2 d ms v F H h1 R Stp.refl (h F)
theorem pd_int {i j pos} : PD X (.Constant (.int i) j pos) (dC (.int i)) := peImp pe_int (lift_c fun _ => .int i)
theorem pd_bl {b j pos} : PD X (.Constant (.bool b) j pos) (dC (.bl b)) := peImp pe_bl (lift_c fun _ => .bl b)
theorem pd_non {j pos} : PD X (.Constant .none j pos) (dC .non) := peImp pe_non (lift_c fun _ => .non)
theorem pd_str {x j pos} : PD X (.Constant (.str x) j pos) (dC (.str x)) := peImp pe_str (lift_c fun _ => .str x)
theorem pd_glob {x : Str} {v : V} {d : D} {u : Value} {pos : Pos} (hg : Gl X x) (hm : X.mg x = some u) (r : RelV v u) (h : ∀ F, DR X.K F v d) (hd : (x == ("__debug__" : Str)) = false := by decide) : PD X (.Name x pos) (dC d) :=
  peImp (pe_glob hg hm r hd) (lift_c h)
theorem pd_var (i : Nat) {x : Str} {pos : Pos} (hN : X.N[i]? = some x := by rfl) (hv : Vis X.env.scope x := by first | exact Or.inl rfl | exact Or.inr (Or.inl rfl) | exact Or.inr (Or.inr rfl)) (hd : (x == ("__debug__" : Str)) = false := by decide)
    (hcd : (x == ("__classdict__" : Str)) = false := by decide) : PD X (.Name x pos) (dVar i) :=
  peImp (pe_var hN hv hd hcd) fun σ H Q ⟨F, ds, ms, P, R, S, h1, h2⟩ => by
    unfold dVar at h1
    cases e : slot ds i with
    | none => rw [e] at h1; exact h1.elim
    | some d =>
      rw [e] at h1
      obtain ⟨v, hv, hr⟩ := S.get e
      exact ⟨v, hv, h2 d ms v F H h1 R Stp.refl hr⟩
end
abbrev OF := D → D → MS → (D → MS → Prop) → Prop
def OpD (K : PySem.W.Frag) (r : R2) (f : OF) : Prop := ∀ (F H : Hp) (ms : MS) (x y : V) (dx dy : D) (P : D → MS → Prop) (Q : VK), Rel K F H ms → DR K F x dx → DR K F y dy → f dx dy ms P →
  (∀ d ms' v F' H', P d ms' → Rel K F' H' ms' → Stp F H ms F' H' ms' → DR K F' v d → Q v H') → r x y H Q
def dOp (f : OF) (da db : DE) : DE := fun ds ms P => da ds ms fun x m1 => db ds m1 fun y m2 => f x y m2 P
section
variable {X : Cx} {K : PySem.W.Frag} {da db dc : DE} {a b c : Expr} {pos : Pos}
theorem lift_op {r : R2} {f : OF} (hf : OpD K r f) : ∀ σ H Q, lift K (dOp f da db) σ H Q → tOp r (lift K da) (lift K db) σ H Q := fun σ H Q ⟨F, ds, ms, P, R, S, h1, h2⟩ =>
  ⟨F, ds, ms, _, R, S, h1, fun dx m1 x F1 H1 p1 R1 s1 r1 => ⟨F1, ds, m1, _, R1, S.mono s1.sub, p1, fun dy m2 y F2 H2 p2 R2 s2 r2 =>
    hf F2 H2 m2 x y dx dy P Q R2 (r1.mono s2.sub) r2 p2 fun d m3 v F3 H3 p3 R3 s3 r3 => h2 d m3 v F3 H3 p3 R3 (s1.trans (s2.trans s3)) r3⟩⟩
theorem pd_op {op : Operator} {r : R2} {f : OF} (ho : OpR X (binaryOp op) r) (hf : OpD X.K r f) (ha : PD X a da) (hb : PD X b db) : PD X (.BinOp a op b pos) (dOp f da db) :=
  peImp (pe_op ho ha hb) (lift_op hf)
theorem pd_cmp {op : CmpOp} {r : R2} {f : OF} (ho : OpR X (compareOp op) r) (hf : OpD X.K r f) (ha : PD X a da) (hb : PD X b db) (hm : behindInMarks op b = false := by first | exact nomark _ | rfl) : PD X (.Compare a [op] [b] pos) (dOp f da db) :=
  peImp (pe_cmpR ho ha hb hm) (lift_op hf)
theorem pd_ix {r : R2} {f : OF} (hr : IxR X r) (hf : OpD X.K r f) (ha : PD X a da) (hb : PD X b db) (hs : PlainIx b := by exact fun _ _ => rfl) : PD X (.Subscript a b pos) (dOp f da db) :=
  peImp (pe_ix hr ha hb hs) (lift_op hf)
end
/-- ints in, a value out, under a condition -/
def fI (C : Int → Int → Prop) (g : Int → Int → D) : OF := fun x y ms P => match x, y with
  | .int i, .int j => C i j ∧ P (g i j) ms
  | _, _ => False
theorem opd_I {K : PySem.W.Frag} {C C' : Int → Int → Prop} {g : Int → Int → V} {g' : Int → Int → D} (hC : ∀ i j, C i j → C' i j) (hg : ∀ F i j, DR K F (g i j) (g' i j)) : OpD K (rI C' g) (fI C g') := by
  intro F H ms x y dx dy P Q R rx ry h q
  cases rx <;> cases ry <;> try exact h.elim
  exact ⟨_, _, rfl, rfl, hC _ _ h.1, q _ _ _ F H h.2 R Stp.refl (hg F _ _)⟩
theorem opd_I0 {K : PySem.W.Frag} {g : Int → Int → V} {g' : Int → Int → D} (hg : ∀ F i j, DR K F (g i j) (g' i j)) : OpD K (rI0 g) (fI (fun _ _ => True) g') := by
  intro F H ms x y dx dy P Q R rx ry h q
  cases rx <;> cases ry <;> try exact h.elim
  exact ⟨_, _, rfl, rfl, q _ _ _ F H h.2 R Stp.refl (hg F _ _)⟩
end DL
namespace DL
open PySem PySem.Spec PyProof.Rows L2
def aNil : DA := fun _ ms P => P [] ms
def aCons (de : DE) (da : DA) : DA := fun ds ms P => de ds ms fun x m1 => da ds m1 fun xs m2 => P (x :: xs) m2
section
variable {X : Cx} {K : PySem.W.Frag} {da db dc : DE} {a b c e : Expr} {es : List Expr} {pos : Pos} {aa : DA}
theorem pda_nil : PDA X [] aNil := paImp pa_nil fun σ H Q ⟨F, ds, ms, P, R, S, h1, h2⟩ => h2 [] ms [] F H h1 R Stp.refl .nil
theorem pda_cons (ha : PD X e da) (hr : PDA X es aa) (hs : starEach (e :: es) X.env = (false, eval e X.env) :: starEach es X.env := by rfl) : PDA X (e :: es) (aCons da aa) :=
  paImp (pa_cons ha hr hs) fun σ H Q ⟨F, ds, ms, P, R, S, h1, h2⟩ =>
    ⟨F, ds, ms, _, R, S, h1, fun dx m1 x F1 H1 p1 R1 s1 r1 => ⟨F1, ds, m1, _, R1, S.mono s1.sub, p1, fun xs m2 vs F2 H2 p2 R2 s2 r2 =>
      h2 _ m2 (x :: vs) F2 H2 p2 R2 (s1.trans s2) (.cons (r1.mono s2.sub) r2)⟩⟩
def dTup (da : DA) : DE := fun ds ms P => da ds ms fun xs m => xs.length ≤ sizeLine ∧ P (.tup xs) m
def dLst (da : DA) : DE := fun ds ms P => da ds ms fun xs m => xs.length ≤ sizeLine ∧ P (.lst xs) m
/-- a list that is to be changed -/
def dLstM (da : DA) : DE := fun ds ms P => da ds ms fun xs m => xs.length ≤ sizeLine ∧ ∀ p, (∀ q ∈ m, q.1 ≠ p) → P (.opq (.ref p)) ((p, xs) :: m)
theorem Rel.newTup {F H : Hp} {ms : MS} {p : Addr} {vs : List V} {xs : List D} (R : Rel K F H ms) (hp : H p = none) (r : DRs K F vs xs) : DR K (upd F p (.tup vs)) (.ref p) (.tup xs) :=
  .tup (SqT.of upd_same) (r.mono (Sub.new (R.sub.none hp)))
theorem Rel.newLst {F H : Hp} {ms : MS} {p : Addr} {vs : List V} {xs : List D} (R : Rel K F H ms) (hp : H p = none) (r : DRs K F vs xs) : DR K (upd F p (.lst vs)) (.ref p) (.lst xs) :=
  .lst upd_same (r.mono (Sub.new (R.sub.none hp)))
theorem Rel.newMut {F H : Hp} {ms : MS} {p : Addr} {vs : List V} {xs : List D} (R : Rel K F H ms) (hp : H p = none) (r : DRs K F vs xs) : (∀ q ∈ ms, q.1 ≠ p) ∧ Rel K F (upd H p (.lst vs)) ((p, xs) :: ms) := by
  have hne : ∀ q ∈ ms, q.1 ≠ p := fun q hq => by
    obtain ⟨h1, ws, h2, h3⟩ := R.mu q hq
    exact ne_of_none h2 hp
  refine ⟨hne, R.sub.trans (Sub.new hp), fun q hq => ?_, ?_, R.one⟩
  · rcases List.mem_cons.mp hq with rfl | hq
    · exact ⟨R.sub.none hp, vs, upd_same, r⟩
    · obtain ⟨h1, ws, h2, h3⟩ := R.mu q hq
      exact ⟨h1, ws, by rw [upd_ne (hne q hq)]; exact h2, h3⟩
  · rw [List.map_cons, List.nodup_cons]
    refine ⟨fun hm => ?_, R.nd⟩
    obtain ⟨q, hq, e⟩ := List.mem_map.mp hm
    exact hne q hq e
theorem Stp.newMut {F H : Hp} {ms : MS} {p : Addr} {vs : List V} {xs : List D} (hp : H p = none) : Stp F H ms F (upd H p (.lst vs)) ((p, xs) :: ms) :=
  ⟨Sub.refl F, fun a u h1 _ _ => by rw [upd_ne (ne_of_none h1 hp)]; exact h1, fun _ _ h => .inl h, fun q hq => by
    rcases List.mem_cons.mp hq with rfl | hq
    · exact .inr (.inl hp)
    · exact .inl ⟨q, hq, rfl⟩⟩
theorem pd_tup {x1} (h : PDA X es aa) : PD X (.Tuple es x1 pos) (dTup aa) := peImp (pe_tup h) fun σ H Q ⟨F, ds, ms, P, R, S, h1, h2⟩ =>
  ⟨F, ds, ms, _, R, S, h1, fun xs m vs F1 H1 p1 R1 s1 r1 => ⟨by rw [r1.length]; exact p1.1, fun p hp =>
    h2 _ m _ (upd F1 p (.tup vs)) _ p1.2 (R1.new hp) (s1.trans (Stp.new R1 hp)) (R1.newTup hp r1)⟩⟩
theorem pd_lst (h : PDA X es aa) : PD X (.List es pos) (dLst aa) := peImp (pe_lst h) fun σ H Q ⟨F, ds, ms, P, R, S, h1, h2⟩ =>
  ⟨F, ds, ms, _, R, S, h1, fun xs m vs F1 H1 p1 R1 s1 r1 => ⟨by rw [r1.length]; exact p1.1, fun p hp =>
    h2 _ m _ (upd F1 p (.lst vs)) _ p1.2 (R1.new hp) (s1.trans (Stp.new R1 hp)) (R1.newLst hp r1)⟩⟩
theorem pd_lstM (h : PDA X es aa) : PD X (.List es pos) (dLstM aa) := peImp (pe_lst h) fun σ H Q ⟨F, ds, ms, P, R, S, h1, h2⟩ =>
  ⟨F, ds, ms, _, R, S, h1, fun xs m vs F1 H1 p1 R1 s1 r1 => ⟨by rw [r1.length]; exact p1.1, fun p hp =>
    h2 _ ((p, xs) :: m) _ F1 _ (p1.2 p (R1.newMut hp r1).1) (R1.newMut hp r1).2 (s1.trans (Stp.newMut hp)) (.opq _)⟩⟩
def dTest (da : DE) : DT := fun ds ms P => da ds ms fun x m => match x with
  | .bl b => P b m
  | _ => False
theorem pdt_val (h : PD X e da) (he : ∀ whole, isTrue e X.env whole = (do let v ← whole; standAt e.pos; holding [v] (truthy v)) := by intro _; rfl) : PDT X e (dTest da) :=
  ptImp (pt_val h he) fun σ H Q ⟨F, ds, ms, P, R, S, h1, h2⟩ =>
    ⟨F, ds, ms, _, R, S, h1, fun d m v F1 H1 p1 R1 s1 r1 => by
      cases d with
      | bl b => cases r1; exact ⟨b, rfl, h2 b m F1 H1 p1 R1 s1⟩
      | _ => exact p1.elim⟩
theorem pdt_cmp {op : CmpOp} {r : R2} {f : OF} (ho : OpR X (compareOp op) r) (hf : OpD X.K r f) (ha : PD X a da) (hb : PD X b db) (hm : behindInMarks op b = false := by first | exact nomark _ | rfl) : PDT X (.Compare a [op] [b] pos) (dTest (dOp f da db)) :=
  ptImp (pt_cmpR ho ha hb hm) fun σ H Q ⟨F, ds, ms, P, R, S, h1, h2⟩ =>
    lift_op hf σ H _ ⟨F, ds, ms, _, R, S, h1, fun d m v F1 H1 p1 R1 s1 r1 => by
      cases d with
      | bl b => cases r1; exact ⟨b, rfl, h2 b m F1 H1 p1 R1 s1⟩
      | _ => exact p1.elim⟩
/-- a value's truth -/
def truD : D → MS → (Bool → Prop) → Prop := fun x ms P => match x with
  | .non => P false
  | .bl b => P b
  | .int i => P (i != 0)
  | .str y => y.length ≤ sizeLine ∧ P ((y.length : Int) != 0)
  | .lst xs => P (!xs.isEmpty)
  | .fro xs => P (!xs.isEmpty)
  | .tup xs => P (!xs.isEmpty)
  | _ => False
def dTru (da : DE) : DT := fun ds ms P => da ds ms fun x m => truD x m fun b => P b m
theorem isEmpty_of' {F : Hp} {vs : List V} {xs : List D} (r : DRs K F vs xs) : (!xs.isEmpty) = !vs.isEmpty := by cases r <;> rfl
theorem pdt_tru (h : PD X e da) (he : ∀ whole, isTrue e X.env whole = (do let v ← whole; standAt e.pos; holding [v] (truthy v)) := by intro _; rfl) : PDT X e (dTru da) :=
  ptImp (pt_truth h he) fun σ H Q ⟨F, ds, ms, P, R, S, h1, h2⟩ =>
    ⟨F, ds, ms, _, R, S, h1, fun d m v F1 H1 p1 R1 s1 r1 => by
      cases r1 with
      | non => exact ⟨_, rfl, h2 _ m F1 H1 p1 R1 s1⟩
      | bl b => exact ⟨_, rfl, h2 _ m F1 H1 p1 R1 s1⟩
      | int i => exact ⟨_, rfl, h2 _ m F1 H1 p1 R1 s1⟩
      | str x => exact ⟨_, ⟨p1.1, rfl⟩, h2 _ m F1 H1 p1.2 R1 s1⟩
      | lst h hs => exact ⟨_, .inl ⟨_, SqL.of (R1.sub _ _ h), isEmpty_of' hs⟩, h2 _ m F1 H1 p1 R1 s1⟩
      | tup h hs => exact ⟨_, .inr (.inl ⟨_, R1.sub.sqT h, isEmpty_of' hs⟩), h2 _ m F1 H1 p1 R1 s1⟩
      | fro h hs => exact ⟨_, .inl ⟨_, R1.sub.sqL h, isEmpty_of' hs⟩, h2 _ m F1 H1 p1 R1 s1⟩
      | edic h => exact p1.elim
      | dct h => exact p1.elim
      | opq v => exact p1.elim
      | exc _ _ _ _ => exact p1.elim⟩
def dNot (dt : DT) : DT := fun ds ms P => dt ds ms fun b m => P (!b) m
def dAnd (dt du : DT) : DT := fun ds ms P => dt ds ms fun b m => if b = true then du ds m P else P false m
def dOr (dt du : DT) : DT := fun ds ms P => dt ds ms fun b m => if b = true then P true m else du ds m P
variable {dt du : DT} {rest : List Expr}
theorem pdt_not (h : PDT X e dt) : PDT X (.UnaryOp .Not e pos) (dNot dt) := ptImp (pt_not h) fun σ H Q ⟨F, ds, ms, P, R, S, h1, h2⟩ =>
  ⟨F, ds, ms, _, R, S, h1, fun b m F1 H1 p1 R1 s1 => h2 _ m F1 H1 p1 R1 s1⟩
abbrev PDW (X : Cx) (e : Expr) (dt : DT) : Prop := PW X e (liftT X.K dt)
theorem pdw_and1 (h : PDT X e dt) : PDW X (.BoolOp .And [e] pos) dt := pw_and1 h
theorem pdw_or1 (h : PDT X e dt) : PDW X (.BoolOp .Or [e] pos) dt := pw_or1 h
theorem pdw_and (h : PDT X a dt) (hb : PDW X (.BoolOp .And (b :: rest) pos) du) : PDW X (.BoolOp .And (a :: b :: rest) pos) (dAnd dt du) := pwImp (pw_and h hb) fun σ H Q ⟨F, ds, ms, P, R, S, h1, h2⟩ =>
  ⟨F, ds, ms, _, R, S, h1, fun k m F1 H1 p1 R1 s1 => by
    cases k with
    | true =>
      rw [if_pos rfl] at p1 ⊢
      exact ⟨F1, ds, m, P, R1, S.mono s1.sub, p1, fun k2 m2 F2 H2 p2 R2 s2 => h2 k2 m2 F2 H2 p2 R2 (s1.trans s2)⟩
    | false =>
      rw [if_neg Bool.false_ne_true] at p1 ⊢
      exact h2 _ m F1 H1 p1 R1 s1⟩
theorem pdw_or (h : PDT X a dt) (hb : PDW X (.BoolOp .Or (b :: rest) pos) du) : PDW X (.BoolOp .Or (a :: b :: rest) pos) (dOr dt du) := pwImp (pw_or h hb) fun σ H Q ⟨F, ds, ms, P, R, S, h1, h2⟩ =>
  ⟨F, ds, ms, _, R, S, h1, fun k m F1 H1 p1 R1 s1 => by
    cases k with
    | false =>
      rw [if_neg Bool.false_ne_true] at p1 ⊢
      exact ⟨F1, ds, m, P, R1, S.mono s1.sub, p1, fun k2 m2 F2 H2 p2 R2 s2 => h2 k2 m2 F2 H2 p2 R2 (s1.trans s2)⟩
    | true =>
      rw [if_pos rfl] at p1 ⊢
      exact h2 _ m F1 H1 p1 R1 s1⟩
theorem pdt_w (h : PDW X e dt) : PDT X e dt := h.pt
def dAndV (da db : DE) : DE := fun ds ms P => da ds ms fun x m => match x with
  | .bl b => if b = true then db ds m P else P (.bl false) m
  | _ => False
def dOrV (da db : DE) : DE := fun ds ms P => da ds ms fun x m => match x with
  | .bl b => if b = true then P (.bl true) m else db ds m P
  | _ => False
def dNotV (da : DE) : DE := fun ds ms P => da ds ms fun x m => match x with
  | .bl b => P (.bl (!b)) m
  | _ => False
theorem pd_one {op} (h : PD X e da) : PD X (.BoolOp op [e] pos) da := pe_one h
theorem pd_and (h : PD X a da) (hb : PD X (.BoolOp .And (b :: rest) pos) db) : PD X (.BoolOp .And (a :: b :: rest) pos) (dAndV da db) := peImp (pe_and h hb) fun σ H Q ⟨F, ds, ms, P, R, S, h1, h2⟩ =>
  ⟨F, ds, ms, _, R, S, h1, fun k m v F1 H1 p1 R1 s1 r1 => by
    cases k with
    | bl k =>
      cases r1
      refine ⟨k, rfl, ?_⟩
      cases k with
      | true =>
        simp only [if_true] at p1 ⊢
        exact ⟨F1, ds, m, P, R1, S.mono s1.sub, p1, fun k2 m2 v2 F2 H2 p2 R2 s2 r2 => h2 k2 m2 v2 F2 H2 p2 R2 (s1.trans s2) r2⟩
      | false =>
        simp only [if_neg Bool.false_ne_true] at p1 ⊢
        exact h2 _ m _ F1 H1 p1 R1 s1 (.bl false)
    | _ => exact p1.elim⟩
theorem pd_or (h : PD X a da) (hb : PD X (.BoolOp .Or (b :: rest) pos) db) : PD X (.BoolOp .Or (a :: b :: rest) pos) (dOrV da db) := peImp (pe_or h hb) fun σ H Q ⟨F, ds, ms, P, R, S, h1, h2⟩ =>
  ⟨F, ds, ms, _, R, S, h1, fun k m v F1 H1 p1 R1 s1 r1 => by
    cases k with
    | bl k =>
      cases r1
      refine ⟨k, rfl, ?_⟩
      cases k with
      | false =>
        simp only [if_neg Bool.false_ne_true] at p1 ⊢
        exact ⟨F1, ds, m, P, R1, S.mono s1.sub, p1, fun k2 m2 v2 F2 H2 p2 R2 s2 r2 => h2 k2 m2 v2 F2 H2 p2 R2 (s1.trans s2) r2⟩
      | true =>
        simp only [if_true] at p1 ⊢
        exact h2 _ m _ F1 H1 p1 R1 s1 (.bl true)
    | _ => exact p1.elim⟩
theorem pd_not (h : PD X e da) : PD X (.UnaryOp .Not e pos) (dNotV da) := peImp (pe_not h) fun σ H Q ⟨F, ds, ms, P, R, S, h1, h2⟩ =>
  ⟨F, ds, ms, _, R, S, h1, fun k m v F1 H1 p1 R1 s1 r1 => by
    cases k with
    | bl k => cases r1; exact ⟨k, rfl, h2 _ m _ F1 H1 p1 R1 s1 (.bl _)⟩
    | _ => exact p1.elim⟩
def dIf (dt : DT) (da db : DE) : DE := fun ds ms P => dt ds ms fun b m => if b = true then da ds m P else db ds m P
theorem pd_ifExp (hc : PDT X c dt) (ha : PD X a da) (hb : PD X b db) : PD X (.IfExp c a b pos) (dIf dt da db) := peImp (pe_ifExp hc ha hb) fun σ H Q ⟨F, ds, ms, P, R, S, h1, h2⟩ =>
  ⟨F, ds, ms, _, R, S, h1, fun k m F1 H1 p1 R1 s1 => by
    cases k with
    | true =>
      rw [if_pos rfl] at p1 ⊢
      exact ⟨F1, ds, m, P, R1, S.mono s1.sub, p1, fun k2 m2 v2 F2 H2 p2 R2 s2 r2 => h2 k2 m2 v2 F2 H2 p2 R2 (s1.trans s2) r2⟩
    | false =>
      rw [if_neg Bool.false_ne_true] at p1 ⊢
      exact ⟨F1, ds, m, P, R1, S.mono s1.sub, p1, fun k2 m2 v2 F2 H2 p2 R2 s2 r2 => h2 k2 m2 v2 F2 H2 p2 R2 (s1.trans s2) r2⟩⟩
def dNeg (da : DE) : DE := fun ds ms P => da ds ms fun x m => match x with
  | .int i => P (.int (-i)) m
  | _ => False
theorem pd_neg (h : PD X e da) : PD X (.UnaryOp .USub e pos) (dNeg da) := peImp (pe_un un_neg h) fun σ H Q ⟨F, ds, ms, P, R, S, h1, h2⟩ =>
  ⟨F, ds, ms, _, R, S, h1, fun k m v F1 H1 p1 R1 s1 r1 => by
    cases k with
    | int k => cases r1; exact ⟨k, rfl, h2 _ m _ F1 H1 p1 R1 s1 (.int _)⟩
    | _ => exact p1.elim⟩
end
structure EN where
  nx : DS → MS → Prop
  rt : D → MS → Prop
  bk : DS → MS → Prop := fun _ _ => False
  ct : DS → MS → Prop := fun _ _ => False
  ex : Str → List Str → List D → DS → MS → Prop := fun _ _ _ _ _ => False
abbrev DTS := EN → DS → MS → Prop
def liftS (K : PySem.W.Frag) (t : DTS) : TS := fun D σ H => ∃ F ds ms E, Rel K F H ms ∧ Sl K F σ ds ∧ t E ds ms ∧
  (∀ ds' ms' σ' F' H', E.nx ds' ms' → Rel K F' H' ms' → Stp F H ms F' H' ms' → Sl K F' σ' ds' → D.nx σ' H') ∧
  (∀ d ms' v F' H', E.rt d ms' → Rel K F' H' ms' → Stp F H ms F' H' ms' → DR K F' v d → D.rt v H') ∧
  (∀ ds' ms' σ' F' H', E.bk ds' ms' → Rel K F' H' ms' → Stp F H ms F' H' ms' → Sl K F' σ' ds' → D.bk σ' H') ∧
  (∀ ds' ms' σ' F' H', E.ct ds' ms' → Rel K F' H' ms' → Stp F H ms F' H' ms' → Sl K F' σ' ds' → D.ct σ' H')
abbrev PDS (X : Cx) (st : Stmt) (t : DTS) : Prop := PS X st (liftS X.K t)
abbrev PDSs (X : Cx) (st : List Stmt) (t : DTS) : Prop := PSs X st (liftS X.K t)
def dNext : DTS := fun E ds ms => E.nx ds ms
def dBreak : DTS := fun E ds ms => E.bk ds ms
def dCont : DTS := fun E ds ms => E.ct ds ms
def dSeq (t u : DTS) : DTS := fun E ds ms => t { E with nx := u E } ds ms
def dRet (de : DE) : DTS := fun E ds ms => de ds ms E.rt
def dRetN : DTS := fun E ds ms => E.rt .non ms
def dDrop (de : DE) : DTS := fun E ds ms => de ds ms fun _ m => E.nx ds m
def dIfS (c : DT) (t u : DTS) : DTS := fun E ds ms => c ds ms fun b m => if b = true then t E ds m else u E ds m
def dNever : DTS := fun _ _ _ => False
section
variable {X : Cx} {K : PySem.W.Frag} {da db dc : DE} {a b c e : Expr} {es : List Expr} {pos : Pos} {aa : DA} {st : Stmt} {rest : List Stmt} {t u : DTS} {dt : DT}
theorem pds_nil : PDSs X [] dNext := pssImp pss_nil fun D σ H ⟨F, ds, ms, E, R, S, h, n, r, k, q⟩ => n ds ms σ F H h R Stp.refl S
theorem lift_seq : ∀ D σ H, liftS K (dSeq t u) D σ H → tSeq (liftS K t) (liftS K u) D σ H := fun D σ H ⟨F, ds, ms, E, R, S, h, n, r, k, q⟩ =>
  ⟨F, ds, ms, { E with nx := u E }, R, S, h, fun ds1 m1 σ1 F1 H1 h1 R1 s1 S1 => ⟨F1, ds1, m1, E, R1, S1, h1,
    fun ds2 m2 σ2 F2 H2 h2 R2 s2 S2 => n ds2 m2 σ2 F2 H2 h2 R2 (s1.trans s2) S2, fun d m2 v F2 H2 h2 R2 s2 r2 => r d m2 v F2 H2 h2 R2 (s1.trans s2) r2,
    fun ds2 m2 σ2 F2 H2 h2 R2 s2 S2 => k ds2 m2 σ2 F2 H2 h2 R2 (s1.trans s2) S2, fun ds2 m2 σ2 F2 H2 h2 R2 s2 S2 => q ds2 m2 σ2 F2 H2 h2 R2 (s1.trans s2) S2⟩, r, k, q⟩
theorem pds_cons (h1 : PDS X st t) (h2 : PDSs X rest u) : PDSs X (st :: rest) (dSeq t u) := pssImp (pss_cons h1 h2) lift_seq
theorem pds_one (h1 : PDS X st t) : PDSs X [st] t := pss_one h1
theorem pds_cont : PDS X (.Continue pos) dCont := psImp ps_continue fun D σ H ⟨F, ds, ms, E, R, S, h, n, r, k, q⟩ => q ds ms σ F H h R Stp.refl S
theorem pds_never : PDS X st dNever := psImp ps_never fun D σ H ⟨F, ds, ms, E, R, S, h, n, r, k, q⟩ => h
theorem pds_expr (he : PD X e da) (hs : swapsWith e none pos.line X.env = pure false := by rfl) : PDS X (.Expr e pos) (dDrop da) := psImp (ps_expr he hs) fun D σ H ⟨F, ds, ms, E, R, S, h, n, r, k, q⟩ =>
  ⟨F, ds, ms, _, R, S, h, fun d m v F1 H1 p1 R1 s1 r1 => n ds m σ F1 H1 p1 R1 s1 (S.mono s1.sub)⟩
theorem pds_ret (he : PD X e da) : PDS X (.Return (some e) pos) (dRet da) := psImp (ps_ret he) fun D σ H ⟨F, ds, ms, E, R, S, h, n, r, k, q⟩ =>
  ⟨F, ds, ms, _, R, S, h, fun d m v F1 H1 p1 R1 s1 r1 => r d m v F1 H1 p1 R1 s1 r1⟩
theorem pds_if {x y : List Stmt} (hc : PDT X c dt) (ha : PDSs X x t) (hb : PDSs X y u) : PDS X (.If c x y pos) (dIfS dt t u) := psImp (ps_if hc ha hb) fun D σ H ⟨F, ds, ms, E, R, S, h, n, r, k, q⟩ =>
  ⟨F, ds, ms, _, R, S, h, fun b m F1 H1 p1 R1 s1 => by
    have mk : ∀ {w : DTS}, w E ds m → liftS X.K w D σ H1 := fun {w} hw => ⟨F1, ds, m, E, R1, S.mono s1.sub, hw,
      fun ds2 m2 σ2 F2 H2 h2 R2 s2 S2 => n ds2 m2 σ2 F2 H2 h2 R2 (s1.trans s2) S2, fun d m2 v F2 H2 h2 R2 s2 r2 => r d m2 v F2 H2 h2 R2 (s1.trans s2) r2,
      fun ds2 m2 σ2 F2 H2 h2 R2 s2 S2 => k ds2 m2 σ2 F2 H2 h2 R2 (s1.trans s2) S2, fun ds2 m2 σ2 F2 H2 h2 R2 s2 S2 => q ds2 m2 σ2 F2 H2 h2 R2 (s1.trans s2) S2⟩
    cases b with
    | true => rw [if_pos rfl] at p1; exact iteT (mk p1)
    | false => rw [if_neg Bool.false_ne_true] at p1; exact iteF (mk p1)⟩
abbrev DG := D → DS → (DS → Prop) → Prop
abbrev DGs := List D → DS → (DS → Prop) → Prop
structure TgD (K : PySem.W.Frag) (g : TG) (dg : DG) (vs : List Nat) : Prop where
  snd : ∀ (v : V) (σ : L2.St) (F H : Hp) (Q : L2.St → Hp → Prop) (d : D) (ds : DS) (P : DS → Prop), Sub F H → Sl K F σ ds → DR K F v d → dg d ds P → (∀ ds' σ', P ds' → Sl K F σ' ds' → Q σ' H) → g v σ H Q
  wip : ∀ (v : V) (σ : L2.St) (H : Hp) (Q : L2.St → Hp → Prop), g v σ H Q → g v σ H fun σ2 H2 => wipe σ2 vs = wipe σ vs ∧ Q σ2 H2
structure TgsD (K : PySem.W.Frag) (g : TGs) (dg : DGs) (vs : List Nat) : Prop where
  snd : ∀ (xs : List V) (σ : L2.St) (F H : Hp) (Q : L2.St → Hp → Prop) (d : List D) (ds : DS) (P : DS → Prop), Sub F H → Sl K F σ ds → DRs K F xs d → dg d ds P → (∀ ds' σ', P ds' → Sl K F σ' ds' → Q σ' H) → g xs σ H Q
  wip : ∀ (v : List V) (σ : L2.St) (H : Hp) (Q : L2.St → Hp → Prop), g v σ H Q → g v σ H fun σ2 H2 => wipe σ2 vs = wipe σ vs ∧ Q σ2 H2
def sName (i : Nat) : DG := fun d ds P => P (setSlot ds i d)
def sNil : DGs := fun xs ds P => match xs with
  | [] => P ds
  | _ => False
def sCons (g : DG) (gs : DGs) : DGs := fun xs ds P => match xs with
  | x :: r => g x ds fun ds1 => gs r ds1 P
  | [] => False
def sTup (n : Nat) (gs : DGs) : DG := fun d ds P => match d with
  | .tup xs => xs.length = n ∧ gs xs ds P
  | _ => False
theorem wipe_set {σ : L2.St} {o : Option V} {i : Nat} : ∀ {vs : List Nat}, i ∈ vs → wipe (σ.set i o) vs = wipe σ vs
  | [], h => absurd h (by simp)
  | v :: vs, h => by
    show (wipe (σ.set i o) vs).set v none = (wipe σ vs).set v none
    by_cases hv : i = v
    · subst hv
      have key : ∀ (ws : List Nat), (wipe (σ.set i o) ws).set i none = (wipe σ ws).set i none := by
        intro ws
        induction ws with
        | nil => show (σ.set i o).set i none = σ.set i none; rw [List.set_set]
        | cons w ws ih =>
          show ((wipe (σ.set i o) ws).set w none).set i none = ((wipe σ ws).set w none).set i none
          by_cases hw : w = i
          · subst hw; rw [List.set_set, List.set_set, ih]
          · rw [List.set_comm _ _ hw, List.set_comm _ _ hw, ih]
      exact key vs
    · rw [wipe_set ((List.mem_cons.mp h).resolve_left hv)]
theorem tg_name {i : Nat} {vs : List Nat} (h : i ∈ vs) : TgD K (gName i) (sName i) vs :=
  ⟨fun v σ F H Q d ds P sb S r hp q => q _ _ hp (S.set r i), fun v σ H Q h1 => ⟨wipe_set h, h1⟩⟩
theorem tgs_nil {vs : List Nat} : TgsD K gNil sNil vs :=
  ⟨fun xs σ F H Q d ds P sb S r hp q => by
    cases r with
    | nil => exact ⟨rfl, q _ _ hp S⟩
    | cons _ _ => exact hp.elim, fun v σ H Q h1 => ⟨h1.1, rfl, h1.2⟩⟩
theorem tgs_cons {g : TG} {gs : TGs} {dg : DG} {dgs : DGs} {vs : List Nat} (h : TgD K g dg vs) (hs : TgsD K gs dgs vs)
    (mg : ∀ v σ H (Q Q' : L2.St → Hp → Prop), (∀ s h, Q s h → Q' s h) → g v σ H Q → g v σ H Q') : TgsD K (gCons g gs) (sCons dg dgs) vs := by
  refine ⟨fun xs σ F H Q d ds P sb S r hp q => ?_, fun v σ H Q h1 => ?_⟩
  · cases r with
    | nil => exact hp.elim
    | cons r rs => exact ⟨_, _, rfl, h.snd _ _ F H _ _ _ _ sb S r hp fun ds1 σ1 h1 S1 => hs.snd _ _ F H _ _ _ _ sb S1 rs h1 q⟩
  · obtain ⟨x, r, e, h2⟩ := h1
    refine ⟨x, r, e, mg _ _ _ _ _ (fun σ1 H1 z => ?_) (h.wip _ _ _ _ h2)⟩
    obtain ⟨z1, z2⟩ := z
    have z3 := hs.wip _ _ _ _ z2
    rw [z1] at z3
    exact z3
theorem tg_tup {gs : TGs} {dgs : DGs} {vs : List Nat} {n : Nat} (hs : TgsD K gs dgs vs) : TgD K (gTup K n gs) (sTup n dgs) vs := by
  refine ⟨fun v σ F H Q d ds P sb S r hp q => ?_, fun v σ H Q h1 => ?_⟩
  · cases r with
    | tup h rs => exact ⟨_, _, rfl, sb.sqT h, by rw [rs.length]; exact hp.1, hs.snd _ _ F H _ _ _ _ sb S rs hp.2 q⟩
    | _ => exact hp.elim
  · obtain ⟨a, xs, e, h2, h3, h4⟩ := h1
    exact ⟨a, xs, e, h2, h3, hs.wip _ _ _ _ h4⟩
def MonG (g : TG) : Prop := ∀ v σ H (Q Q' : L2.St → Hp → Prop), (∀ s h, Q s h → Q' s h) → g v σ H Q → g v σ H Q'
def MonGs (g : TGs) : Prop := ∀ v σ H (Q Q' : L2.St → Hp → Prop), (∀ s h, Q s h → Q' s h) → g v σ H Q → g v σ H Q'
theorem mon_name {i : Nat} : MonG (gName i) := fun v σ H Q Q' h q => h _ _ q
theorem mon_nil : MonGs gNil := fun v σ H Q Q' h q => ⟨q.1, h _ _ q.2⟩
theorem mon_cons {g : TG} {gs : TGs} (a : MonG g) (b : MonGs gs) : MonGs (gCons g gs) := fun v σ H Q Q' h q =>
  let ⟨x, r, e, z⟩ := q; ⟨x, r, e, a _ _ _ _ _ (fun s hh z => b _ _ _ _ _ h z) z⟩
theorem mon_tup {gs : TGs} {n : Nat} (b : MonGs gs) : MonG (gTup K n gs) := fun v σ H Q Q' h q =>
  let ⟨a, xs, e, h2, h3, h4⟩ := q; ⟨a, xs, e, h2, h3, b _ _ _ _ _ h h4⟩
def dAsg (de : DE) (g : DG) : DTS := fun E ds ms => de ds ms fun d m => g d ds fun ds1 => E.nx ds1 m
theorem lift_asg {g : TG} {dg : DG} {vs : List Nat} (hg : TgD K g dg vs) : ∀ D σ H, liftS K (dAsg da dg) D σ H → tAsg (lift K da) g D σ H := fun D σ H ⟨F, ds, ms, E, R, S, h, n, r, k, q⟩ =>
  ⟨F, ds, ms, _, R, S, h, fun d m v F1 H1 p1 R1 s1 r1 => hg.snd v σ F1 H1 _ d ds _ R1.sub (S.mono s1.sub) r1 p1 fun ds1 σ1 h1 S1 => n ds1 m σ1 F1 H1 h1 R1 s1 S1⟩
theorem pds_set {i : Nat} {x : Str} {pos' : Pos} (hN : X.N.Nodup) (hi : X.N[i]? = some x) (hx : Loc X.env.scope x) (he : PD X e da) (hs : swapsWith e (some (.Name x pos')) pos.line X.env = pure false := by rfl)
    (hf : X.fn x = true ∨ X.env.scope.names.lookup x = some .local := by first | exact .inl rfl | exact .inr rfl | assumption) : PDS X (.Assign [.Name x pos'] e pos) (dAsg da (sName i)) :=
  psImp (ps_set hN hi hx he hs hf) (lift_asg (vs := [i]) (tg_name (by simp)))
theorem pds_asg {tg : Expr} {g : TG} {dg : DG} {vs : List Nat} (he : PD X e da) (hg : PG X tg g) (hd : TgD X.K g dg vs) (hs : swapsWithSole [tg] e pos.line X.env = pure false := by rfl) (hw : swappedStores [tg] e X.env = pure none := by rfl)
    (h1 : (assignEach [tg] X.env).map (·.2) = [assign tg X.env] := by rfl) : PDS X (.Assign [tg] e pos) (dAsg da dg) :=
  psImp (ps_asg he hg hs hw h1) (lift_asg hd)
/-- a, b = x, y with plain local names -/
def dPar (i j : Nat) (aa : DA) : DTS := fun E ds ms => aa ds ms fun xs m => match xs with
  | [x, y] => E.nx (setSlot (setSlot ds i x) j y) m
  | _ => False
end
end DL
namespace DL
open PySem PySem.Spec PyProof.Rows L2
structure RoomG (k : Nat) (A : Around) : Prop where
  r : Room k A
  g : A.guards = some []
theorem RoomG.mono {j k : Nat} {A : Around} (r : RoomG k A) (h : j ≤ k) : RoomG j A := ⟨r.r.mono h, r.g⟩
structure FnG (P : Program) (w : World) (K : PySem.W.Frag) (mg : Str → Option Value) (base : Heap) (k : Nat) (f : Addr) (fd : FuncData) (ps : List Str) (sp : Sp) : Prop where
  len : ∀ vs H Q E, sp vs H Q E → vs.length = ps.length
  go : ∀ (A : Around) (outer : List Env) (s : Shared) (H : Hp) (args : Args) (us : List Value) (vs : List V) (Q : VK), RoomG k A → Env0 P w K mg base A outer s H →
    BindsTo s fd args (ps.zip us) → Vals vs us → sp vs H Q E0 → codeAny (model P w) A (.call (.ref f) args) (CR CX0 outer P w H s Q E0) s
/-- which values go to the parameters: by their places among the positional ones and then the keywords -/
def pick {α : Type} (is : List Nat) (xs : List α) : List α := is.filterMap fun i => xs[i]?
theorem pick_vals {vs : List V} {us : List Value} (r : Vals vs us) : ∀ is : List Nat, Vals (pick is vs) (pick is us)
  | [] => .nil
  | i :: is => by
    unfold pick
    rw [List.filterMap_cons, List.filterMap_cons]
    cases e : vs[i]? with
    | none => rw [r.none_of e]; exact pick_vals r is
    | some v =>
      obtain ⟨u, h1, h2⟩ := r.get e
      rw [h1]
      exact .cons h2 (pick_vals r is)
theorem pick_drs {K : PySem.W.Frag} {F : Hp} {vs : List V} {xs : List D} (r : DRs K F vs xs) : ∀ is : List Nat, DRs K F (pick is vs) (pick is xs)
  | [] => .nil
  | i :: is => by
    unfold pick
    rw [List.filterMap_cons, List.filterMap_cons]
    cases e : vs[i]? with
    | none =>
      have h : xs[i]? = none := by
        have h1 := r.length
        have h2 := List.getElem?_eq_none_iff.mp e
        exact List.getElem?_eq_none_iff.mpr (by omega)
      rw [h]; exact pick_drs r is
    | some v =>
      obtain ⟨u, h1, h2⟩ := r.getV e
      rw [h1]
      exact .cons h2 (pick_drs r is)
structure Bnd (K : PySem.W.Frag) (fd : FuncData) (ps : List Str) (n : Nat) (ks : List Str) (is : List Nat) : Prop where
  to : ∀ (s : Shared) (us ws : List Value), K.In s.heap → us.length = n → ws.length = ks.length → BindsTo s fd ⟨us, ks.zip ws⟩ (ps.zip (pick is (us ++ ws)))
abbrev FS := List D → MS → (D → MS → Prop) → Prop
def spD (K : PySem.W.Frag) (fs : FS) : Sp := fun vs H Q _ => ∃ F ds ms P, Rel K F H ms ∧ DRs K F vs ds ∧ fs ds ms P ∧
  ∀ d ms' v F' H', P d ms' → Rel K F' H' ms' → Stp F H ms F' H' ms' → DR K F' v d → Q v H'
section
variable {X : Cx} {k n : Nat} {f : Addr} {fd : FuncData} {ps ks : List Str} {is : List Nat} {sp : Sp} {fs : FS} {x : Str} {p pos kpos : Pos} {e : Expr} {es : List Expr} {kws : List Keyword} {aa ak : DA} {da : DE} {nm : Option Str}
theorem run_g {pins : List (Addr × Obj)} {σ : L2.St} {H : Hp} {s : Shared} {Q : VK} {us ws : List Value} {vs zs : List V} (F : FnG X.prog X.w X.K X.mg X.base k f fd ps sp) (hr : RoomG k X.A) (hb : Bnd X.K fd ps n ks is)
    (I : Inv X pins σ H s) (r : Vals vs us) (rz : Vals zs ws) (l1 : vs.length = n) (l2 : zs.length = ks.length) (h : sp (pick is (vs ++ zs)) H Q E0) :
    wpAny (model X.prog X.w) X.A (call (.ref f) us (ks.zip ws)) (EP X pins σ Q) X.xe s := by
  have hb' := hb.to s us ws I.kIn (r.length ▸ l1) (rz.length ▸ l2)
  have hg := F.go X.A X.stack s H ⟨us, ks.zip ws⟩ _ _ Q hr I.env0 hb' (pick_vals (r.append rz) is) h
  refine wpAny_call (codeAny_mono hg fun r s' hq => ?_)
  match r, hq with
  | .error _, hq => exact hq.elim
  | .ok (.ret u), hq => exact I.after hq
  | .ok .next, hq => exact False.elim hq
  | .ok .brk, hq => exact False.elim hq
  | .ok .cont, hq => exact False.elim hq
abbrev PDK (X : Cx) (kws : List Keyword) (aa : DA) : Prop := PK X kws (liftA X.K aa)
theorem pkImp {X : Cx} {e : List Keyword} {t t' : TA} (h : PK X e t) (hi : ∀ σ H Q, t' σ H Q → t σ H Q) : PK X e t' := ⟨fun pos pins s σ H Q I hq => h.run pos pins s σ H Q I (hi σ H Q hq)⟩
theorem pdk_nil : PDK X [] aNil := pkImp pk_nil fun σ H Q ⟨F, ds, ms, P, R, S, h1, h2⟩ => h2 [] ms [] F H h1 R Stp.refl .nil
theorem pdk_cons (ha : PD X e da) (hr : PDK X kws aa) : PDK X (⟨nm, e, kpos⟩ :: kws) (aCons da aa) :=
  pkImp (pk_cons ha hr) fun σ H Q ⟨F, ds, ms, P, R, S, h1, h2⟩ =>
    ⟨F, ds, ms, _, R, S, h1, fun dx m1 x F1 H1 p1 R1 s1 r1 => ⟨F1, ds, m1, _, R1, S.mono s1.sub, p1, fun xs m2 vs F2 H2 p2 R2 s2 r2 =>
      h2 _ m2 (x :: vs) F2 H2 p2 R2 (s1.trans s2) (.cons (r1.mono s2.sub) r2)⟩⟩
/-- f(..): n positional ones, the others by keywords -/
def dCall (n : Nat) (m : Nat) (is : List Nat) (fs : FS) (aa ak : DA) : DE := fun ds ms P => aa ds ms fun xs m1 => ak ds m1 fun zs m2 => xs.length = n ∧ zs.length = m ∧ fs (pick is (xs ++ zs)) m2 P
def tCallG (n m : Nat) (is : List Nat) (sp : Sp) (t tk : TA) : TE := fun σ H Q => t σ H fun vs H1 => tk σ H1 fun zs H2 => vs.length = n ∧ zs.length = m ∧ sp (pick is (vs ++ zs)) H2 Q E0
theorem lift_call {K : PySem.W.Frag} {m : Nat} : ∀ σ H Q, lift K (dCall n m is fs aa ak) σ H Q → tCallG n m is (spD K fs) (liftA K aa) (liftA K ak) σ H Q := fun σ H Q ⟨F, ds, ms, P, R, S, h1, h2⟩ =>
  ⟨F, ds, ms, _, R, S, h1, fun xs m1 vs F1 H1 p1 R1 s1 r1 => ⟨F1, ds, m1, _, R1, S.mono s1.sub, p1, fun zs m2 ws F2 H2 p2 R2 s2 r2 => by
    obtain ⟨l1, l2, p2⟩ := p2
    refine ⟨r1.length.trans l1, r2.length.trans l2, F2, _, m2, P, R2, pick_drs ((r1.mono s2.sub).append r2) is, p2, fun d m3 v F3 H3 p3 R3 s3 r3 => ?_⟩
    exact h2 d m3 v F3 H3 p3 R3 (s1.trans (s2.trans s3)) r3⟩⟩
theorem pd_call (F : FnG X.prog X.w X.K X.mg X.base k f fd ps (spD X.K fs)) (hr : RoomG k X.A) (hg : Gl X x) (hm : X.mg x = some (.ref f)) (hk : PySem.W.keepIn X.K (.ref f) = true) (hb : Bnd X.K fd ps n [] is)
    (ha : PDA X (e :: es) aa) (hdb : (x == ("__debug__" : Str)) = false := by decide)
    (he : starEach (e :: es) X.env = (false, eval e X.env) :: starEach es X.env := by rfl)
    (hpl : (backTo pos (starEach es X.env)).any (·.1) = false := by rfl) :
    PD X (.Call (.Name x p) (e :: es) [] pos) (dCall n 0 is fs aa aNil) := by
  refine peImp (t := tCallG n 0 is (spD X.K fs) (liftA X.K aa) (liftA X.K aNil)) ⟨fun pins s σ H Q I h => ?_⟩ lift_call
  have h' : liftA X.K aa σ H (fun vs H1 => vs.length = n ∧ spD X.K fs (pick is (vs ++ [])) H1 Q E0) := by
    obtain ⟨F0, ds, ms, P, R, S, h1, h2⟩ := h
    refine ⟨F0, ds, ms, P, R, S, h1, fun xs m v F1 H1 p1 R1 s1 r1 => ?_⟩
    obtain ⟨F2, ds2, m2, P2, R2, S2, p2, q2⟩ := h2 xs m v F1 H1 p1 R1 s1 r1
    obtain ⟨l1, l2, z⟩ := q2 [] m2 [] F2 H1 p2 R2 Stp.refl .nil
    exact ⟨l1, z⟩
  refine wpAny_Call_Name_kw (ld_glob I hg hm ?_ hdb)
  refine PySem.W.callWith_K (h₀ := X.base) I.ok.mod.kin hk (thn (ha.run pos pins s σ H _ I h') ?_) he hpl
  rintro us s1 ⟨vs, H1, I1, r, l, q⟩
  exact ⟨I1.kIn, run_g (ws := []) (ks := []) F hr hb I1 r .nil l rfl q⟩
theorem pd_callK0 {m : Nat} (F : FnG X.prog X.w X.K X.mg X.base k f fd ps (spD X.K fs)) (hr : RoomG k X.A) (hg : Gl X x) (hm : X.mg x = some (.ref f)) (hk : PySem.W.keepIn X.K (.ref f) = true) (hb : Bnd X.K fd ps 0 ks is)
    (hkw : PDK X kws ak) (hdb : (x == ("__debug__" : Str)) = false := by decide)
    (hall : (backToKw pos (keywordEach kws X.env)).all (·.1.isSome) = true := by rfl) (hks : (backToKw pos (keywordEach kws X.env)).filterMap (·.1) = ks := by rfl)
    (hpl : ((backTo pos (starEach [] X.env)).any (·.1) || (backToKw pos (keywordEach kws X.env)).any (·.1.isNone)) = false := by rfl)
    (hlen : ks.length = m := by rfl) :
    PD X (.Call (.Name x p) [] kws pos) (dCall 0 m is fs aNil ak) := by
  subst hlen
  refine peImp (t := tCallG 0 ks.length is (spD X.K fs) tNil (liftA X.K ak)) ⟨fun pins s σ H Q I h => ?_⟩ fun σ H Q h => ?_
  · refine wpAny_Call_Name_kw (ld_glob I hg hm ?_ hdb)
    refine PySem.W.callWith_KW0 (h₀ := X.base) I.ok.mod.kin hk hall (thn (hkw.run pos pins s σ H _ I h) ?_) hpl
    rintro ws s2 ⟨zs, H2, I2, rz, l1, l2, q2⟩
    refine ⟨I2.kIn, ?_⟩
    rw [hks]
    exact run_g (us := []) F hr hb I2 .nil rz rfl l2 q2
  · obtain ⟨F0, ds, ms, P, R, S, h1, h2⟩ := lift_call σ H Q h
    exact h2 [] ms [] F0 H h1 R Stp.refl .nil
theorem pd_call0 (F : FnG X.prog X.w X.K X.mg X.base k f fd ps (spD X.K fs)) (hr : RoomG k X.A) (hg : Gl X x) (hm : X.mg x = some (.ref f)) (hk : PySem.W.keepIn X.K (.ref f) = true) (hb : Bnd X.K fd ps 0 [] is)
    (hdb : (x == ("__debug__" : Str)) = false := by decide) : PD X (.Call (.Name x p) [] [] pos) (dCall 0 0 is fs aNil aNil) := by
  refine peImp (t := tCallG 0 0 is (spD X.K fs) tNil tNil) ⟨fun pins s σ H Q I h => ?_⟩ fun σ H Q h => ?_
  · refine wpAny_Call_Name_kw (ld_glob I hg hm ?_ hdb)
    exact PySem.W.callWith_K0 I.kIn hk (run_g (us := []) (ws := []) (ks := []) F hr hb I .nil .nil rfl rfl h.2.2)
  · obtain ⟨F0, ds, ms, P, R, S, h1, h2⟩ := lift_call σ H Q h
    obtain ⟨F2, ds2, m2, P2, R2, S2, p2, q2⟩ := h2 [] ms [] F0 H h1 R Stp.refl .nil
    exact q2 [] m2 [] F2 H p2 R2 Stp.refl .nil
end
def startD : Nat → List D → DS
  | 0, _ => []
  | n + 1, [] => none :: startD n []
  | n + 1, d :: r => some d :: startD n r
theorem sl_start {K : PySem.W.Frag} {F : Hp} {N : List Str} {vs : List V} {ds : List D} (r : DRs K F vs ds) (hl : vs.length ≤ N.length) : Sl K F (L2.start N vs) (startD N.length ds) := by
  unfold L2.start
  have hrep : ∀ m : Nat, Sl K F (List.replicate m none) (startD m []) := fun m => by
    induction m with
    | zero => exact .nil
    | succ m ih => exact .nn ih
  have go : ∀ {vs : List V} {ds : List D} (m : Nat), DRs K F vs ds → vs.length ≤ m → Sl K F (vs.map some ++ List.replicate (m - vs.length) none) (startD m ds) := by
    intro vs
    induction vs with
    | nil => intro ds m r _; cases r; exact hrep m
    | cons v vs ih =>
      intro ds m r hm
      cases r with
      | cons r1 r2 =>
        cases m with
        | zero => simp at hm
        | succ m =>
          have e : m + 1 - (v :: vs).length = m - vs.length := by rw [List.length_cons]; omega
          rw [e]
          exact .sm r1 (ih m r2 (by rw [List.length_cons] at hm; omega))
  exact go _ r hl
theorem fnG_of {P : Program} {w : World} {K : PySem.W.Frag} {mg : Str → Option Value} {base : Heap} {k : Nat} {f : Addr} {fd : FuncData} {x qual : Str} {st : Stmt} {N ps : List Str} {fs : FS} {t : DTS}
    (F : Fun K x qual st f fd) (S : FnScope N ps (defScope st)) (len : ∀ ds ms Q, fs ds ms Q → ds.length = ps.length)
    (body : ∀ (cdv : Value) (A : Around) (outer : List Env) (s : Shared) (H : Hp), RoomG k (A.deeper (envOfC qual (defScope st) s.heap.objs.size f cdv)) →
      PDSs (cxOf CX0 P w K mg base N qual (defScope st) f cdv A outer s H E0).nox (defBody st) t)
    (sem : ∀ ds ms Q, fs ds ms Q → t { nx := fun _ m => Q .non m, rt := Q } (startD N.length ds) ms) : FnG P w K mg base (k + 1) f fd ps (spD K fs) := by
  have hlen : ∀ vs H Q E, spD K fs vs H Q E → vs.length = ps.length := by
    rintro vs H Q E ⟨F0, ds, ms, P0, R, r, h, _⟩
    rw [r.length]
    exact len ds ms P0 h
  refine ⟨hlen, ?_⟩
  intro A outer s H args us vs Q hr e0 hb r hsp
  obtain ⟨oc, od, kV, doc, pm, an, cdv, ct, osl, rfl, lk, hcd⟩ := F.ex
  have hl := hlen _ _ _ _ hsp
  have KX : K.In s.heap := e0.mod.kin.keeps fun b o e => (e0.bs b o e).1
  have lim : s.heap.NoLimit := e0.mod.nolimit.keeps fun b o e => (e0.bs b o e).1
  have hkind : ∀ y ∈ ps.zip us, (defScope st).names.lookup y.1 = some .local ∨ ((defScope st).names.lookup y.1 = some .cell ∧
      ((cellsFrom (s.heap.objs.size + 1) (defScope st).names []).lookup y.1).isSome = true) := by
    rintro ⟨n, v⟩ hy
    exact (S.par n (List.of_mem_zip hy).1).imp id fun q => ⟨q, PySem.W.cellsFrom_some _ _ _ (.inl q)⟩
  have hr2 : RoomG k (A.deeper (envOfC qual (defScope st) s.heap.objs.size f cdv)) := ⟨hr.r.deeper _, hr.g⟩
  refine codeAny_call_function hr.r.depth (KX _ _ lk) rfl S.co S.gen rfl (PySem.W.codeRec_of KX hcd) (hb _ _ _ _ ?_)
  refine wpAny_newFunctionEnv_cells S.kind hkind fun env he s1 x1 => ?_
  subst he
  refine ⟨lim.keeps x1.toInCall.keep, codeAny_func ?_⟩
  have I : Inv (cxOf CX0 P w K mg base N qual (defScope st) f cdv A outer s H E0) [] (L2.start N vs) H s1 := inv_start S hr.r.hd e0 hl r x1
  have hq : liftS K t { nx := fun _ H' => Q .non H', rt := Q } (L2.start N vs) H := by
    obtain ⟨F0, ds, ms, P0, R, rd, h, q⟩ := hsp
    refine ⟨F0, startD N.length ds, ms, _, R, sl_start rd (by rw [hl, ← S.pre]; exact List.length_take_le' _ _), sem ds ms P0 h, ?_, ?_, ?_, ?_⟩
    · exact fun ds' ms' σ' F' H' z R' s' S' => q .non ms' .non F' H' z R' s' .non
    · exact fun d ms' v F' H' z R' s' r' => q d ms' v F' H' z R' s' r'
    · exact fun _ _ _ _ _ z _ _ _ => z.elim
    · exact fun _ _ _ _ _ z _ _ _ => z.elim
  have hrun := ((body cdv A outer s H hr2).nox).run [] s1 (L2.start N vs) H _ I hq
  refine wpAny_mono hrun (fun fl s' hs => ?_) fun e s' hs => hs
  match fl, hs with
  | .ret u, hs =>
    obtain ⟨v, σ', H', J, rv, q⟩ := hs
    exact ⟨v, H', J.os, J.bare, J.base, J.hok, rv, q⟩
  | .next, hs =>
    obtain ⟨σ', H', J, q⟩ := hs
    exact ⟨V.non, H', J.os, J.bare, J.base, J.hok, rfl, q⟩
  | .brk, hs => obtain ⟨_, _, _, q⟩ := hs; exact False.elim q
  | .cont, hs => obtain ⟨_, _, _, q⟩ := hs; exact False.elim q
end DL
namespace DL
open PySem PySem.Spec PyProof.Rows L2
abbrev DI := DS → MS → (List D → MS → Prop) → Prop
def YD (K : PySem.W.Frag) (F : Hp) (xs : List D) : Nat → Hp → V → Hp → Prop := fun i H x H' => ∃ d, xs[i]? = some d ∧
  ((H' = H ∧ DR K F x d) ∨ ∃ T a b da db, x = .ref T ∧ H T = none ∧ H' = upd H T (.tup [a, b]) ∧ d = .tup [da, db] ∧ DR K F a da ∧ DR K F b db)
abbrev ItD (K : PySem.W.Frag) (J : It) (xs : List D) (F : Hp) : Prop := Walk J xs.length (fun H => Sub F H) (YD K F xs)
def liftI (K : PySem.W.Frag) (di : DI) : TI := fun σ H R => ∃ F ds ms P, Rel K F H ms ∧ Sl K F σ ds ∧ di ds ms P ∧
  ∀ xs ms' F' H' J, P xs ms' → Rel K F' H' ms' → Stp F H ms F' H' ms' → ItD K J xs F' → R J H'
abbrev PDI (X : Cx) (tg e : Expr) (di : DI) : Prop := PI X tg e (liftI X.K di)
theorem piImp {X : Cx} {tg e : Expr} {t t' : TI} (h : PI X tg e t) (hi : ∀ σ H R, t' σ H R → t σ H R) : PI X tg e t' := ⟨fun pins s σ H R I hq => h.run pins s σ H R I (hi σ H R hq)⟩
theorem itd_list {K : PySem.W.Frag} {F : Hp} {a : Addr} {vs : List V} {xs : List D} (h : SqL K F a vs) (r : DRs K F vs xs) : ItD K (Itl K a) xs F := by
  unfold ItD
  rw [← r.length]
  refine (walk_list (K := K) (a := a) (xs := vs)).mono (fun H s => s.sqL h) fun i H x H' hi s y => ?_
  obtain ⟨d, h1, h2⟩ := r.getV y.2
  exact ⟨d, h1, .inl ⟨y.1, h2⟩⟩
/-- lo, lo + 1, .. -/
def rng (lo : Int) (n : Nat) : List D := (List.range n).map fun i => D.int (lo + (i : Nat))
theorem itd_range {K : PySem.W.Frag} {F : Hp} {lo : Int} {n : Nat} : ItD K (Itr lo n) (rng lo n) F := by
  unfold ItD
  have e : (rng lo n).length = n := by unfold rng; simp
  rw [e]
  refine (walk_range (lo := lo) (n := n)).mono (fun H s => trivial) fun i H x H' hi s y => ?_
  refine ⟨.int (lo + (i : Nat)), ?_, .inl ⟨y.1, by rw [y.2]; exact .int _⟩⟩
  unfold rng
  rw [List.getElem?_map, List.getElem?_range hi]; rfl
def rngC (lo c : Int) (n : Nat) : List D := (List.range n).map fun i => D.int (lo + (i : Nat) * c)
theorem itd_rangeC {K : PySem.W.Frag} {F : Hp} {lo c : Int} {n : Nat} : ItD K (Itc lo c n) (rngC lo c n) F := by
  unfold ItD
  have e : (rngC lo c n).length = n := by unfold rngC; simp
  rw [e]
  refine (walk_rangeC (lo := lo) (c := c) (n := n)).mono (fun H s => trivial) fun i H x H' hi s y => ?_
  refine ⟨.int (lo + (i : Nat) * c), ?_, .inl ⟨y.1, by rw [y.2]; exact .int _⟩⟩
  unfold rngC
  rw [List.getElem?_map, List.getElem?_range hi]; rfl
def zipD (xs ys : List D) : List D := List.zipWith (fun x y => D.tup [x, y]) xs ys
theorem itd_zip {K : PySem.W.Frag} {F : Hp} {a b : Addr} {vs ws : List V} {xs ys : List D} (h : SqL K F a vs) (r : DRs K F vs xs) (h2 : SqL K F b ws) (r2 : DRs K F ws ys) : ItD K (Itz K a b) (zipD xs ys) F := by
  unfold ItD
  have e : (zipD xs ys).length = min vs.length ws.length := by unfold zipD; rw [List.length_zipWith, r.length, r2.length]
  rw [e]
  refine (walk_zip (K := K) (a := a) (b := b) (xs := vs) (ys := ws) rfl).mono (fun H s => ⟨s.sqL h, s.sqL h2⟩) fun i H x H' hi s y => ?_
  obtain ⟨T, u, w, e1, e2, e3, e4, e5⟩ := y
  obtain ⟨d, z1, z2⟩ := r.getV e4
  obtain ⟨d', z3, z4⟩ := r2.getV e5
  refine ⟨.tup [d, d'], ?_, .inr ⟨T, u, w, d, d', e1, e2, e3, rfl, z2, z4⟩⟩
  unfold zipD
  rw [List.getElem?_zipWith, z1, z3]
def enumD (xs : List D) : List D := List.zipWith (fun x y => D.tup [x, y]) (rng 0 xs.length) xs
theorem itd_enum {K : PySem.W.Frag} {F : Hp} {a : Addr} {vs : List V} {xs : List D} (h : SqL K F a vs) (r : DRs K F vs xs) : ItD K (Ite K a) (enumD xs) F := by
  unfold ItD
  have e : (enumD xs).length = vs.length := by unfold enumD rng; rw [List.length_zipWith, List.length_map, List.length_range, r.length]; simp
  rw [e]
  refine (walk_enum (K := K) (a := a) (xs := vs)).mono (fun H s => s.sqL h) fun i H x H' hi s y => ?_
  obtain ⟨T, u, w, e1, e2, e3, e4, e5⟩ := y
  obtain ⟨d, z1, z2⟩ := r.getV e5
  have e4' : u = .int (i : Nat) := (Option.some.inj e4).symm
  subst e4'
  refine ⟨.tup [.int (i : Nat), d], ?_, .inr ⟨T, _, w, _, d, e1, e2, e3, rfl, .int _, z2⟩⟩
  unfold enumD rng
  rw [r.length] at hi
  rw [List.getElem?_zipWith, z1, List.getElem?_map, List.getElem?_range hi]
  simp
def strD (z : Str) : List D := z.cps.toList.map fun c => D.str ⟨#[c]⟩
theorem itd_str {K : PySem.W.Frag} {F : Hp} {z : Str} : ItD K (Its z) (strD z) F := by
  unfold ItD
  have e : (strD z).length = z.cps.size := by unfold strD; simp
  rw [e]
  refine (walk_str (z := z)).mono (fun H s => trivial) fun i H x H' hi s y => ?_
  obtain ⟨e1, c, e2, e3⟩ := y
  refine ⟨.str ⟨#[c]⟩, ?_, .inl ⟨e1, by rw [e3]; exact .str _⟩⟩
  unfold strD
  rw [List.getElem?_map, Array.getElem?_toList, e2]; rfl
/-- the items of what is a list here: known, or one that may change -/
def look : MS → Addr → Option (List D)
  | [], _ => none
  | (q, xs) :: r, p => if q = p then some xs else look r p
def asL (d : D) (ms : MS) : Option (List D) := match d with
  | .lst xs => some xs
  | .fro xs => some xs
  | .opq (.ref p) => look ms p
  | _ => none
theorem look_mem : ∀ {ms : MS} {p : Addr} {xs : List D}, look ms p = some xs → (p, xs) ∈ ms
  | [], _, _, h => by cases h
  | (q, ys) :: r, p, xs, h => by
    unfold look at h
    by_cases e : q = p
    · rw [if_pos e] at h; cases h; subst e; exact List.mem_cons_self
    · rw [if_neg e] at h; exact List.mem_cons_of_mem _ (look_mem h)
section
variable {K : PySem.W.Frag} {F H : Hp} {ms : MS}
theorem Rel.look (R : Rel K F H ms) {p : Addr} {xs : List D} (h : look ms p = some xs) : F p = none ∧ ∃ vs, H p = some (.lst vs) ∧ DRs K F vs xs := R.mu (p, xs) (look_mem h)
theorem Rel.asL (R : Rel K F H ms) {v : V} {d : D} {xs : List D} (r : DR K F v d) (h : asL d ms = some xs) : ∃ a vs, v = .ref a ∧ SqL K H a vs ∧ DRs K F vs xs := by
  cases r with
  | lst h1 h2 => cases h; exact ⟨_, _, rfl, SqL.of (R.sub _ _ h1), h2⟩
  | fro h1 h2 => cases h; exact ⟨_, _, rfl, R.sub.sqL h1, h2⟩
  | opq v =>
    cases v with
    | ref p =>
      obtain ⟨_, vs, h1, h2⟩ := R.look h
      exact ⟨p, vs, rfl, SqL.of h1, h2⟩
    | _ => cases h
  | _ => cases h
end
section
variable {X : Cx} {tg e e2 : Expr} {da db : DE} {aa : DA} {p pos tpos : Pos} {elts : List Expr} {kk : Nat}
/-- a list, a tuple, a text that are known -/
def iSeq (de : DE) : DI := fun ds ms P => de ds ms fun d m => match d with
  | .lst xs => P xs m
  | .fro xs => P xs m
  | _ => False
def iTupD (de : DE) : DI := fun ds ms P => de ds ms fun d m => match d with
  | .tup xs => P xs m
  | _ => False
def iStrD (de : DE) : DI := fun ds ms P => de ds ms fun d m => match d with
  | .str z => P (strD z) m
  | _ => False
theorem pdi_list (h : PD X e da) : PDI X tg e (iSeq da) := piImp (pi_list h) fun σ H R ⟨F, ds, ms, P, Rl, S, h1, h2⟩ =>
  ⟨F, ds, ms, _, Rl, S, h1, fun d m v F1 H1 p1 R1 s1 r1 => by
    cases r1 with
    | lst ha hs => exact ⟨_, rfl, ⟨_, SqL.of (R1.sub _ _ ha)⟩, h2 _ m F1 H1 _ p1 R1 s1 (itd_list (SqL.of ha) hs)⟩
    | fro ha hs => exact ⟨_, rfl, ⟨_, R1.sub.sqL ha⟩, h2 _ m F1 H1 _ p1 R1 s1 (itd_list ha hs)⟩
    | _ => exact p1.elim⟩
theorem pdi_str (h : PD X e da) : PDI X tg e (iStrD da) := piImp (pi_str h) fun σ H R ⟨F, ds, ms, P, Rl, S, h1, h2⟩ =>
  ⟨F, ds, ms, _, Rl, S, h1, fun d m v F1 H1 p1 R1 s1 r1 => by
    cases r1 with
    | str z => exact ⟨z, rfl, h2 _ m F1 H1 _ p1 R1 s1 itd_str⟩
    | _ => exact p1.elim⟩
def iRange1 (aa : DA) : DI := fun ds ms P => aa ds ms fun xs m => match xs with
  | [.int j] => (-(2 ^ 62) ≤ j ∧ j < 2 ^ 62) ∧ P (rng 0 j.toNat) m
  | _ => False
def iRange2 (aa : DA) : DI := fun ds ms P => aa ds ms fun xs m => match xs with
  | [.int i, .int j] => (-(2 ^ 62) ≤ i ∧ i < 2 ^ 62 ∧ -(2 ^ 62) ≤ j ∧ j < 2 ^ 62) ∧ P (rng i (j - i).toNat) m
  | _ => False
def iRange3 (aa : DA) : DI := fun ds ms P => aa ds ms fun xs m => match xs with
  | [.int i, .int j, .int c] => ∃ n, RgC i j c n ∧ P (rngC i c n) m
  | _ => False
theorem pdi_range1 (hg : Gl X "range") (hm : X.mg "range" = none) (ha : PDA X [e] aa) (hs : starEach [e] X.env = [(false, eval e X.env)] := by rfl) : PDI X tg (.Call (.Name "range" p) [e] [] pos) (iRange1 aa) :=
  piImp (pi_range1 hg hm ha hs) fun σ H R ⟨F, ds, ms, P, Rl, S, h1, h2⟩ =>
    ⟨F, ds, ms, _, Rl, S, h1, fun xs m vs F1 H1 p1 R1 s1 r1 => by
      match xs, r1, p1 with
      | [.int j], .cons (.int _) .nil, p1 => exact ⟨j, rfl, p1.1.1, p1.1.2, h2 _ m F1 H1 _ p1.2 R1 s1 itd_range⟩⟩
theorem pdi_range2 (hg : Gl X "range") (hm : X.mg "range" = none) (ha : PDA X [e, e2] aa) (hs : starEach [e, e2] X.env = [(false, eval e X.env), (false, eval e2 X.env)] := by rfl) (hs2 : starEach [e2] X.env = [(false, eval e2 X.env)] := by rfl) :
    PDI X tg (.Call (.Name "range" p) [e, e2] [] pos) (iRange2 aa) :=
  piImp (pi_range2 hg hm ha hs hs2) fun σ H R ⟨F, ds, ms, P, Rl, S, h1, h2⟩ =>
    ⟨F, ds, ms, _, Rl, S, h1, fun xs m vs F1 H1 p1 R1 s1 r1 => by
      match xs, r1, p1 with
      | [.int i, .int j], .cons (.int _) (.cons (.int _) .nil), p1 => exact ⟨i, j, rfl, p1.1, h2 _ m F1 H1 _ p1.2 R1 s1 itd_range⟩⟩
theorem pdi_range3 {e3 : Expr} (hg : Gl X "range") (hm : X.mg "range" = none) (ha : PDA X [e, e2, e3] aa)
    (hs : starEach [e, e2, e3] X.env = (false, eval e X.env) :: starEach [e2, e3] X.env := by rfl) (hpl : (backTo pos (starEach [e2, e3] X.env)).any (·.1) = false := by rfl) :
    PDI X tg (.Call (.Name "range" p) [e, e2, e3] [] pos) (iRange3 aa) :=
  piImp (pi_range3 hg hm ha hs hpl) fun σ H R ⟨F, ds, ms, P, Rl, S, h1, h2⟩ =>
    ⟨F, ds, ms, _, Rl, S, h1, fun xs m vs F1 H1 p1 R1 s1 r1 => by
      match xs, r1, p1 with
      | [.int i, .int j, .int c], .cons (.int _) (.cons (.int _) (.cons (.int _) .nil)), ⟨n, hn, p1⟩ => exact ⟨i, j, c, n, rfl, hn, h2 _ m F1 H1 _ p1 R1 s1 itd_rangeC⟩⟩
def iZipD (aa : DA) : DI := fun ds ms P => aa ds ms fun xs m => match xs with
  | [.lst a, .lst b] => P (zipD a b) m
  | _ => False
theorem pdi_zip (hg : Gl X "zip") (hm : X.mg "zip" = none) (ha : PDA X [e, e2] aa)
    (hs : starEach [e, e2] X.env = (false, eval e X.env) :: starEach [e2] X.env := by rfl) (hpl : (backTo pos (starEach [e2] X.env)).any (·.1) = false := by rfl) :
    PDI X (.Tuple elts kk tpos) (.Call (.Name "zip" p) [e, e2] [] pos) (iZipD aa) :=
  piImp (pi_zip hg hm ha hs hpl) fun σ H R ⟨F, ds, ms, P, Rl, S, h1, h2⟩ =>
    ⟨F, ds, ms, _, Rl, S, h1, fun xs m vs F1 H1 p1 R1 s1 r1 => by
      match xs, r1, p1 with
      | [.lst a, .lst b], .cons (.lst ha hs) (.cons (.lst hb hs2) .nil), p1 =>
        exact ⟨_, _, _, _, rfl, SqL.of (R1.sub _ _ ha), SqL.of (R1.sub _ _ hb), h2 _ m F1 H1 _ p1 R1 s1 (itd_zip (SqL.of ha) hs (SqL.of hb) hs2)⟩⟩
def iEnumD (aa : DA) : DI := fun ds ms P => aa ds ms fun xs m => match xs with
  | [.lst a] => P (enumD a) m
  | _ => False
theorem pdi_enum (hg : Gl X "enumerate") (hm : X.mg "enumerate" = none) (ha : PDA X [e] aa) (hs : starEach [e] X.env = [(false, eval e X.env)] := by rfl) :
    PDI X (.Tuple elts kk tpos) (.Call (.Name "enumerate" p) [e] [] pos) (iEnumD aa) :=
  piImp (pi_enum hg hm ha hs) fun σ H R ⟨F, ds, ms, P, Rl, S, h1, h2⟩ =>
    ⟨F, ds, ms, _, Rl, S, h1, fun xs m vs F1 H1 p1 R1 s1 r1 => by
      match xs, r1, p1 with
      | [.lst a], .cons (.lst ha hs) .nil, p1 => exact ⟨_, _, rfl, SqL.of (R1.sub _ _ ha), h2 _ m F1 H1 _ p1 R1 s1 (itd_enum (SqL.of ha) hs)⟩⟩
end
def loopD (g : DG) (tb : DTS) (E : EN) : List D → DS → MS → Prop
  | [], ds, ms => E.nx ds ms
  | x :: r, ds, ms => g x ds fun ds1 => tb { E with nx := loopD g tb E r, ct := loopD g tb E r, bk := E.nx } ds1 ms
def dFor (di : DI) (g : DG) (tb : DTS) : DTS := fun E ds ms => di ds ms fun xs m => loopD g tb E xs ds m
section
variable {K : PySem.W.Frag} {di : DI} {dg : DG} {tb : DTS} {g : TG} {vs : List Nat}
theorem drop_get {xs : List D} {i : Nat} {d : D} (h : xs[i]? = some d) : xs.drop i = d :: xs.drop (i + 1) := by
  obtain ⟨hi, e⟩ := List.getElem?_eq_some_iff.mp h
  rw [List.drop_eq_getElem_cons hi, e]
theorem lift_for (hg : TgD K g dg vs) : ∀ D σ H, liftS K (dFor di dg tb) D σ H → tFor (liftI K di) g (liftS K tb) D σ H := fun D σ H ⟨F, ds, ms, E, R, S, h, n, r, k, q⟩ => by
  refine ⟨F, ds, ms, _, R, S, h, fun xs m F0 H0 J p0 R0 s0 wk => ?_⟩
  refine for_it wk (fun i σ1 H1 => ∃ F1 ds1 m1, Rel K F1 H1 m1 ∧ Stp F H ms F1 H1 m1 ∧ Sub F0 F1 ∧ Sl K F1 σ1 ds1 ∧ loopD dg tb E (xs.drop i) ds1 m1)
    ⟨F0, ds, m, R0, s0, Sub.refl F0, S.mono s0.sub, p0⟩ (fun i σ1 H1 _ ⟨F1, ds1, m1, R1, s1, s01, S1, h1⟩ => s01.trans R1.sub) ?_ ?_
  · rintro i x σ1 H1 H2 hi ⟨F1, ds1, m1, R1, s1, s01, S1, h1⟩ ⟨d, hd, hy⟩
    rw [drop_get hd] at h1
    have fin : ∀ {F2 : Hp} {x : V}, Rel K F2 H2 m1 → Stp F H ms F2 H2 m1 → Sub F1 F2 → DR K F2 x d →
        g x σ1 H2 fun σ2 H3 => liftS K tb { D with nx := fun σ1 H1 => ∃ F1 ds1 m1, Rel K F1 H1 m1 ∧ Stp F H ms F1 H1 m1 ∧ Sub F0 F1 ∧ Sl K F1 σ1 ds1 ∧ loopD dg tb E (xs.drop (i + 1)) ds1 m1, ct := fun σ1 H1 => ∃ F1 ds1 m1, Rel K F1 H1 m1 ∧ Stp F H ms F1 H1 m1 ∧ Sub F0 F1 ∧ Sl K F1 σ1 ds1 ∧ loopD dg tb E (xs.drop (i + 1)) ds1 m1, bk := D.nx } σ2 H3 := by
      intro F2 x R2 s2 s12 rx
      refine hg.snd x σ1 F2 H2 _ d ds1 _ R2.sub (S1.mono s12) rx h1 fun ds2 σ2 h2 S2 => ?_
      refine ⟨F2, ds2, m1, _, R2, S2, h2, ?_, ?_, ?_, ?_⟩
      · exact fun ds3 m3 σ3 F3 H3 h3 R3 s3 S3 => ⟨F3, ds3, m3, R3, s2.trans s3, (s01.trans s12).trans s3.sub, S3, h3⟩
      · exact fun d3 m3 v3 F3 H3 h3 R3 s3 r3 => r d3 m3 v3 F3 H3 h3 R3 (s2.trans s3) r3
      · exact fun ds3 m3 σ3 F3 H3 h3 R3 s3 S3 => n ds3 m3 σ3 F3 H3 h3 R3 (s2.trans s3) S3
      · exact fun ds3 m3 σ3 F3 H3 h3 R3 s3 S3 => ⟨F3, ds3, m3, R3, s2.trans s3, (s01.trans s12).trans s3.sub, S3, h3⟩
    rcases hy with ⟨rfl, rx⟩ | ⟨T, a, b, da, db, rfl, hT, rfl, rfl, ra, rb⟩
    · exact fin R1 s1 (Sub.refl F1) (rx.mono s01)
    · exact fin (R1.new hT) (s1.trans (Stp.new R1 hT)) (Sub.new (R1.sub.none hT)) (R1.newTup hT (.cons (ra.mono s01) (.cons (rb.mono s01) .nil)))
  · rintro σ1 H1 ⟨F1, ds1, m1, R1, s1, s01, S1, h1⟩
    rw [List.drop_length] at h1
    exact n ds1 m1 σ1 F1 H1 h1 R1 s1 S1
theorem pds_for {X : Cx} {tg iter : Expr} {body : List Stmt} {pos : Pos} (hc : X.calm = true) (hi : PDI X tg iter di) (hg : PG X tg g) (hd : TgD X.K g dg vs) (hb : PDSs X body tb) (hp : PassesOwn (model X.prog X.w) X.A X.env X.xe := by exact PassesOwn.never)
    (hs : ∀ x, foldedSetIterable iter X.env x = pure x := by intro _; rfl) : PDS X (.For tg iter body [] pos) (dFor di dg tb) := psImp (ps_for hp hc hi hg hb hs) (lift_for hd)
end
def whileD (c : DT) (tb : DTS) (E : EN) : Nat → DS → MS → Prop
  | 0, _, _ => False
  | n + 1, ds, ms => c ds ms fun b m => if b = true then tb { E with nx := whileD c tb E n, ct := whileD c tb E n, bk := E.nx } ds m else E.nx ds m
def dWhile (c : DT) (tb : DTS) : DTS := fun E ds ms => ∃ n, whileD c tb E n ds ms
section
variable {K : PySem.W.Frag} {c : DT} {tb : DTS}
theorem lift_while : ∀ D σ H, liftS K (dWhile c tb) D σ H → tWhile (liftT K c) (liftS K tb) D σ H := fun D σ H ⟨F, ds, ms, E, R, S, ⟨n0, h⟩, n, r, k, q⟩ => by
  refine ⟨fun m σ1 H1 => ∃ F1 ds1 m1, Rel K F1 H1 m1 ∧ Stp F H ms F1 H1 m1 ∧ Sl K F1 σ1 ds1 ∧ whileD c tb E m ds1 m1, ⟨n0, F, ds, ms, R, Stp.refl, S, h⟩, ?_⟩
  rintro m σ1 H1 ⟨F1, ds1, m1, R1, s1, S1, h1⟩
  cases m with
  | zero => exact h1.elim
  | succ m =>
    refine ⟨F1, ds1, m1, _, R1, S1, h1, fun b m2 F2 H2 p2 R2 s2 => ?_⟩
    cases b with
    | false =>
      rw [if_neg Bool.false_ne_true] at p2
      exact iteF (n ds1 m2 σ1 F2 H2 p2 R2 (s1.trans s2) (S1.mono s2.sub))
    | true =>
      rw [if_pos rfl] at p2
      refine iteT ⟨fun σ3 H3 => ∃ F3 ds3 m3, Rel K F3 H3 m3 ∧ Stp F H ms F3 H3 m3 ∧ Sl K F3 σ3 ds3 ∧ whileD c tb E m ds3 m3, fun σ3 H3 h3 => ⟨m, Nat.lt_succ_self m, h3⟩, F2, ds1, m2, _, R2, S1.mono s2.sub, p2, ?_, ?_, ?_, ?_⟩
      · exact fun ds3 m3 σ3 F3 H3 h3 R3 s3 S3 => ⟨F3, ds3, m3, R3, (s1.trans s2).trans s3, S3, h3⟩
      · exact fun d3 m3 v3 F3 H3 h3 R3 s3 r3 => r d3 m3 v3 F3 H3 h3 R3 ((s1.trans s2).trans s3) r3
      · exact fun ds3 m3 σ3 F3 H3 h3 R3 s3 S3 => n ds3 m3 σ3 F3 H3 h3 R3 ((s1.trans s2).trans s3) S3
      · exact fun ds3 m3 σ3 F3 H3 h3 R3 s3 S3 => ⟨F3, ds3, m3, R3, (s1.trans s2).trans s3, S3, h3⟩
theorem pds_while {X : Cx} {e : Expr} {body : List Stmt} {pos : Pos} (hc : PDT X e c) (hb : PDSs X body tb) (hp : PassesOwn (model X.prog X.w) X.A X.env X.xe := by exact PassesOwn.never) : PDS X (.While e body [] pos) (dWhile c tb) :=
  psImp (ps_while hp hc hb) lift_while
end
def wipeD (ds : DS) : List Nat → DS
  | [] => ds
  | v :: vs => (wipeD ds vs).set v none
theorem Sl.wipe1 {K : PySem.W.Frag} {F : Hp} : ∀ {σ : L2.St} {ds : DS} (i : Nat), Sl K F σ ds → Sl K F (σ.set i none) (ds.set i none)
  | _, _, i, .nil => by cases i <;> exact .nil
  | _, _, 0, .sm _ r => .nn r
  | _, _, 0, .nn r => .nn r
  | _, _, i + 1, .sm q r => .sm q (Sl.wipe1 i r)
  | _, _, i + 1, .nn r => .nn (Sl.wipe1 i r)
theorem Sl.wipe {K : PySem.W.Frag} {F : Hp} {σ : L2.St} {ds : DS} (S : Sl K F σ ds) : ∀ vs : List Nat, Sl K F (L2.wipe σ vs) (wipeD ds vs)
  | [] => S
  | v :: vs => Sl.wipe1 v (Sl.wipe S vs)
theorem wipe_wipe {σ : L2.St} {ws : List Nat} : ∀ {us : List Nat}, (∀ u ∈ us, u ∈ ws) → L2.wipe (L2.wipe σ us) ws = L2.wipe σ ws
  | [], _ => rfl
  | u :: us, h => by
    show L2.wipe ((L2.wipe σ us).set u none) ws = L2.wipe σ ws
    rw [wipe_set (h u List.mem_cons_self), wipe_wipe fun v hv => h v (List.mem_cons_of_mem _ hv)]
theorem Stp.kp {F H F1 H1 : Hp} {ms m1 : MS} (a : Stp F H ms F1 H1 m1) {c : Addr} {o : HO} (h1 : H c = some o) (h2 : F c = none) (h3 : ∀ p ∈ ms, p.1 ≠ c) : H1 c = some o ∧ F1 c = none ∧ ∀ p ∈ m1, p.1 ≠ c := by
  refine ⟨a.keep c o h1 h2 h3, ?_, fun p hp e => ?_⟩
  · cases e : F1 c with
    | none => rfl
    | some u =>
      rcases a.newF c u e with z | z | ⟨p, hp, z⟩
      · rw [h2] at z; cases z
      · rw [h1] at z; cases z
      · exact absurd z (h3 p hp)
  · rcases a.newM p hp with ⟨q, hq, z⟩ | z | ⟨u, z⟩
    · exact h3 q hq (z.trans e)
    · rw [e, h1] at z; cases z
    · rw [e, h2] at z; cases z
def compD (g : DG) (tt : DT) (te : DE) (ds : DS) : List D → List D → MS → (List D → MS → Prop) → Prop
  | [], acc, ms, P => P acc ms
  | x :: r, acc, ms, P => g x ds fun ds2 => tt ds2 ms fun b m3 => if b = true then te ds2 m3 fun y m4 => acc.length < sizeLine ∧ compD g tt te ds r (acc ++ [y]) m4 P else compD g tt te ds r acc m3 P
def dLc (di : DI) (g : DG) (tt : DT) (te : DE) (vs : List Nat) : DE := fun ds ms P => di ds ms fun xs m => compD g tt te (wipeD ds vs) xs [] m fun ys m' => P (.lst ys) m'
/-- without a test -/
def dYes : DT := fun _ ms P => P true ms
section
variable {K : PySem.W.Frag} {di : DI} {dg : DG} {tt : DT} {te : DE} {g : TG} {vs : List Nat}
theorem lift_lc (hg : TgD K g dg vs) (hm : MonG g) : ∀ σ H Q, lift K (dLc di dg tt te vs) σ H Q → tLc (liftI K di) g (liftT K tt) (lift K te) vs σ H Q := fun σ H Q ⟨F, ds, ms, P, R, S, h, q⟩ => by
  refine ⟨F, ds, ms, _, R, S, h, fun xs m F0 H0 J p0 R0 s0 wk L hL => ?_⟩
  have nL : F0 L = none := R0.sub.none hL
  have nM : ∀ p ∈ m, p.1 ≠ L := fun p hp => by
    obtain ⟨_, ws, h2, _⟩ := R0.mu p hp
    exact ne_of_none h2 hL
  refine lc_it wk (fun i H1 => ∃ F1 m1 acc av, Rel K F1 H1 m1 ∧ Stp F0 H0 m F1 H1 m1 ∧ H1 L = some (.lst av) ∧ F1 L = none ∧ (∀ p ∈ m1, p.1 ≠ L) ∧ DRs K F1 av acc ∧ compD dg tt te (wipeD ds vs) (xs.drop i) acc m1 fun ys m' => P (.lst ys) m')
    ⟨F0, m, [], [], R0.lay hL, ⟨Sub.refl F0, fun a u h1 _ _ => by rw [upd_ne (ne_of_none h1 hL)]; exact h1, fun _ _ h => .inl h, fun q hq => .inl ⟨q, hq, rfl⟩⟩, upd_same, nL, nM, .nil, p0⟩
    (fun i H1 _ ⟨F1, m1, acc, av, R1, s1, _⟩ => s1.sub.trans R1.sub) ?_ ?_
  · rintro i x H1 H2 hi ⟨F1, m1, acc, av, R1, s1, hD, hF, hM, ra, h1⟩ ⟨d, hd, hy⟩
    rw [drop_get hd] at h1
    have fin : ∀ {F2 : Hp} {x : V}, Rel K F2 H2 m1 → Stp F0 H0 m F2 H2 m1 → Sub F1 F2 → DR K F2 x d → H2 L = some (.lst av) → F2 L = none →
        g x (L2.wipe σ vs) H2 fun σ2 H3 => L2.wipe σ2 vs = L2.wipe σ vs ∧ liftT K tt σ2 H3 fun b H4 => if b = true then lift K te σ2 H4 fun y H5 => ∃ acc, H5 L = some (.lst acc) ∧ acc.length < sizeLine ∧
          (∃ F1 m1 acc' av, Rel K F1 (upd H5 L (.lst (acc ++ [y]))) m1 ∧ Stp F0 H0 m F1 (upd H5 L (.lst (acc ++ [y]))) m1 ∧ (upd H5 L (.lst (acc ++ [y]))) L = some (.lst av) ∧ F1 L = none ∧ (∀ p ∈ m1, p.1 ≠ L) ∧ DRs K F1 av acc' ∧ compD dg tt te (wipeD ds vs) (xs.drop (i + 1)) acc' m1 fun ys m' => P (.lst ys) m')
          else ∃ F1 m1 acc av, Rel K F1 H4 m1 ∧ Stp F0 H0 m F1 H4 m1 ∧ H4 L = some (.lst av) ∧ F1 L = none ∧ (∀ p ∈ m1, p.1 ≠ L) ∧ DRs K F1 av acc ∧ compD dg tt te (wipeD ds vs) (xs.drop (i + 1)) acc m1 fun ys m' => P (.lst ys) m' := by
      intro F2 x R2 s2 s12 rx hD2 hF2
      have hw := hg.wip x (L2.wipe σ vs) H2 _ (hg.snd x (L2.wipe σ vs) F2 H2 (fun σ2 H3 => H3 = H2 ∧ ∃ ds2, Sl K F2 σ2 ds2 ∧ tt ds2 m1 fun b m3 => if b = true then te ds2 m3 fun y m4 => acc.length < sizeLine ∧ compD dg tt te (wipeD ds vs) (xs.drop (i + 1)) (acc ++ [y]) m4 fun ys m' => P (.lst ys) m' else compD dg tt te (wipeD ds vs) (xs.drop (i + 1)) acc m3 fun ys m' => P (.lst ys) m') d (wipeD ds vs) _ R2.sub ((S.wipe vs).mono (s0.sub.trans s2.sub)) rx h1 fun ds2 σ2 h2 S2 => ⟨rfl, ds2, S2, h2⟩)
      refine hm _ _ _ _ _ ?_ hw
      rintro σ2 H3 ⟨e1, rfl, ds2, S2, h2⟩
      refine ⟨e1.trans (wipe_wipe fun u hu => hu), F2, ds2, m1, _, R2, S2, h2, fun b m4 F4 H4 p4 R4 s4 => ?_⟩
      obtain ⟨hD4, hF4, hM4⟩ := s4.kp hD2 hF2 hM
      cases b with
      | false =>
        rw [if_neg Bool.false_ne_true] at p4 ⊢
        exact ⟨F4, m4, acc, av, R4, s2.trans s4, hD4, hF4, hM4, (ra.mono s12).mono s4.sub, p4⟩
      | true =>
        rw [if_pos rfl] at p4 ⊢
        refine ⟨F4, ds2, m4, _, R4, S2.mono s4.sub, p4, fun y m5 v5 F5 H5 p5 R5 s5 r5 => ?_⟩
        obtain ⟨hD5, hF5, hM5⟩ := s5.kp hD4 hF4 hM4
        have ra5 := ((ra.mono s12).mono s4.sub).mono s5.sub
        have s05 := (s2.trans s4).trans s5
        refine ⟨av, hD5, by rw [ra.length]; exact p5.1, F5, m5, acc ++ [y], av ++ [v5], ?_, ?_, upd_same, hF5, hM5, ra5.append (.cons r5 .nil), p5.2⟩
        · refine ⟨fun b u e => ?_, fun p hp => ?_, R5.nd, R5.one⟩
          · rw [upd_ne (fun z => by rw [z, hF5] at e; cases e)]; exact R5.sub b u e
          · obtain ⟨z1, ws, z2, z3⟩ := R5.mu p hp
            exact ⟨z1, ws, by rw [upd_ne (hM5 p hp)]; exact z2, z3⟩
        · exact ⟨s05.sub, fun a u z1 z2 z3 => by rw [upd_ne (ne_of_none z1 hL)]; exact s05.keep a u z1 z2 z3, s05.newF, s05.newM⟩
    rcases hy with ⟨rfl, rx⟩ | ⟨T, a, b, da, db, rfl, hT, rfl, rfl, ra', rb'⟩
    · exact fin R1 s1 (Sub.refl F1) (rx.mono s1.sub) hD hF
    · have hne : L ≠ T := ne_of_none hD hT
      exact fin (R1.new hT) (s1.trans (Stp.new R1 hT)) (Sub.new (R1.sub.none hT)) (R1.newTup hT (.cons (ra'.mono s1.sub) (.cons (rb'.mono s1.sub) .nil))) (by rw [upd_ne hne]; exact hD) (by rw [upd_ne hne]; exact hF)
  · rintro H1 ⟨F1, m1, acc, av, R1, s1, hD, hF, hM, ra, h1⟩
    rw [List.drop_length] at h1
    have sF : Sub F1 (upd F1 L (.lst av)) := Sub.new hF
    refine q _ m1 _ (upd F1 L (.lst av)) H1 h1 ?_ (s0.trans ?_) (.lst upd_same (ra.mono sF))
    · refine ⟨fun b u e => ?_, fun p hp => ?_, R1.nd, R1.one.mono sF⟩
      · by_cases hb : b = L
        · subst hb; rw [upd_same] at e; rw [hD]; exact e
        · rw [upd_ne hb] at e; exact R1.sub b u e
      · obtain ⟨z1, ws, z2, z3⟩ := R1.mu p hp
        exact ⟨by rw [upd_ne (hM p hp)]; exact z1, ws, z2, z3.mono sF⟩
    · refine ⟨s1.sub.trans sF, s1.keep, fun a u e => ?_, s1.newM⟩
      by_cases hb : a = L
      · subst hb; exact .inr (.inl hL)
      · rw [upd_ne hb] at e; exact s1.newF a u e
end
end DL
namespace DL
open PySem PySem.Spec PyProof.Rows L2
abbrev PDTs (X : Cx) (es : List Expr) (t : DT) : Prop := PTs X es (liftT X.K t)
theorem pdts_nil {X : Cx} : PDTs X [] dYes := ⟨fun pins s σ H Q I ⟨F, ds, ms, P, R, S, h1, h2⟩ => pts_nil.run pins s σ H Q I (h2 true ms F H h1 R Stp.refl)⟩
section
variable {X : Cx} {elt tg iter : Expr} {ifs : List Expr} {scope : Scope} {own : List (Str × Nat)} {pos spos py : Pos} {di : DI} {g : TG} {dg : DG} {tt : DT} {te : DE} {i : Nat} {y : Str}
theorem pd_lc (hc : X.calm = true) (hN : X.N.Nodup) (hi : PDI X tg iter di) (ok : BlkOk X.N X.env.scope scope own)
    (hg : ∀ (s : Shared) (H : Hp) (C : Addr) (cl : List (Str × Addr)) (fp : List Addr), PG (X.blk s H scope (compEnvC scope cl C X.env) fp) tg g)
    (hd : TgD X.K g dg (own.map (·.2))) (hm : MonG g)
    (ht : ∀ (s : Shared) (H : Hp) (C : Addr) (cl : List (Str × Addr)) (fp : List Addr), PDTs (X.blk s H scope (compEnvC scope cl C X.env) fp) ifs tt)
    (he : ∀ (s : Shared) (H : Hp) (C : Addr) (cl : List (Str × Addr)) (fp : List Addr), PD (X.blk s H scope (compEnvC scope cl C X.env) fp) elt te)
    (hs : ∀ x, foldedSetIterable iter X.env x = pure x := by intro _; rfl) :
    PD X (.ListComp elt [⟨tg, iter, ifs, 0⟩] scope pos) (dLc di dg tt te (own.map (·.2))) :=
  peImp (pe_lc hc hN hi ok hg ht he hs) (lift_lc hd hm)
end
def fAdd : OF := fun x y ms P => match x, y with
  | .int i, .int j => P (.int (i + j)) ms
  | .str i, .str j => i.length + j.length ≤ sizeLine ∧ P (.str (i ++ j)) ms
  | .lst a, .lst b => a.length + b.length ≤ sizeLine ∧ P (.lst (a ++ b)) ms
  | .opq (.ref p), .lst b => match look ms p with
    | some a => a.length + b.length ≤ sizeLine ∧ P (.lst (a ++ b)) ms
    | none => False
  | .tup a, .tup b => a.length + b.length ≤ sizeLine ∧ P (.tup (a ++ b)) ms
  | _, _ => False
def rAddD (K : PySem.W.Frag) : R2 := fun x y H Q => (∃ i j, x = .int i ∧ y = .int j ∧ Q (.int (i + j)) H) ∨ (∃ i j, x = .str i ∧ y = .str j ∧ i.length + j.length ≤ sizeLine ∧ Q (.str (i ++ j)) H) ∨ rCat x y H Q ∨ rCatA K x y H Q
theorem op_addD {X : Cx} : OpR X (binaryOp .Add) (rAddD X.K) := op_add.or (op_add_str.or (op_cat.or op_catA))
theorem DRs.nil_iff {K : PySem.W.Frag} {F : Hp} {vs : List V} {xs : List D} (r : DRs K F vs xs) : vs = [] ↔ xs = [] := by cases r <;> simp
theorem opd_add {K : PySem.W.Frag} : OpD K (rAddD K) fAdd := by
  intro F H ms x y dx dy P Q R rx ry h q
  have cat : ∀ {a b : Addr} {vs ws : List V} {xs ys : List D}, H a = some (.lst vs) → H b = some (.lst ws) → DRs K F vs xs → DRs K F ws ys → xs.length + ys.length ≤ sizeLine → P (.lst (xs ++ ys)) ms → rCat (.ref a) (.ref b) H Q := by
    intro a b vs ws xs ys h1 h2 r1 r2 hz hp
    refine ⟨a, b, vs, ws, rfl, rfl, h1, h2, by rw [r1.length, r2.length]; exact hz, fun p hp2 => ?_⟩
    exact q _ ms _ _ _ hp (R.new hp2) (Stp.new R hp2) (R.newLst hp2 (r1.append r2))
  cases rx with
  | int i => cases ry with
    | int j => exact .inl ⟨i, j, rfl, rfl, q _ ms _ F H h R Stp.refl (.int _)⟩
    | _ => exact h.elim
  | str i => cases ry with
    | str j => exact .inr (.inl ⟨i, j, rfl, rfl, h.1, q _ ms _ F H h.2 R Stp.refl (.str _)⟩)
    | _ => exact h.elim
  | lst h1 r1 => cases ry with
    | lst h2 r2 => exact .inr (.inr (.inl (cat (R.sub _ _ h1) (R.sub _ _ h2) r1 r2 h.1 h.2)))
    | _ => exact h.elim
  | tup h1 r1 => cases ry with
    | tup h2 r2 =>
      obtain ⟨z3, z4⟩ := h
      refine .inr (.inr (.inr ⟨_, _, _, _, rfl, rfl, R.sub.sqT h1, R.sub.sqT h2, by rw [r1.length, r2.length]; exact z3, fun e => ?_, fun _ e => ?_, fun _ _ p hp2 => ?_⟩))
      · cases r1.nil_iff.mp e
        exact q _ ms _ F H z4 R Stp.refl (.tup h2 r2)
      · cases r2.nil_iff.mp e
        rw [List.append_nil] at z4
        exact q _ ms _ F H z4 R Stp.refl (.tup h1 r1)
      · exact q _ ms _ _ _ z4 (R.new hp2) (Stp.new R hp2) (R.newTup hp2 (r1.append r2))
    | _ => exact h.elim
  | opq _ => cases x with
    | ref p => cases ry with
      | lst h2 r2 =>
        unfold fAdd at h
        cases e : look ms p with
        | none => simp only [e] at h
        | some a =>
          simp only [e] at h
          obtain ⟨_, vs, h1, r1⟩ := R.look e
          exact .inr (.inr (.inl (cat h1 (R.sub _ _ h2) r1 r2 h.1 h.2)))
      | _ => exact h.elim
    | _ => exact h.elim
  | _ => exact h.elim
def fSub : OF := fun x y ms P => fI (fun _ _ => True) (fun i j => .int (i - j)) x y ms P
theorem opd_sub {K : PySem.W.Frag} : OpD K (rI0 fun i j => .int (i - j)) fSub := opd_I0 fun _ _ _ => .int _
/-- * of ints, together below a million bits, or one of them below 2 ^ 64 -/
def CMulD (i j : Int) : Prop := CMulW i j ∨ CMul i j
theorem op_mulD {X : Cx} : OpR X (binaryOp .Mult) (rI CMulD fun i j => .int (i * j)) := opI fun _ _ _ _ _ _ _ hc q => mul_int q (hc.elim (·.ok) (·.ok))
def fMul : OF := fun x y ms P => match x, y with
  | .int i, .int j => CMulD i j ∧ P (.int (i * j)) ms
  | .lst a, .int k => (-(2 ^ 63) ≤ k ∧ k < 2 ^ 63 ∧ a.length * k.toNat ≤ sizeLine) ∧ P (.lst (List.replicate k.toNat a).flatten) ms
  | _, _ => False
def rMulD : R2 := fun x y H Q => rI CMulD (fun i j => .int (i * j)) x y H Q ∨ rRep x y H Q
theorem op_mulA {X : Cx} : OpR X (binaryOp .Mult) rMulD := op_mulD.or op_rep
theorem DRs.rep {K : PySem.W.Frag} {F : Hp} {vs : List V} {xs : List D} (r : DRs K F vs xs) : ∀ n : Nat, DRs K F (List.replicate n vs).flatten (List.replicate n xs).flatten
  | 0 => .nil
  | n + 1 => by rw [List.replicate_succ, List.replicate_succ, List.flatten_cons, List.flatten_cons]; exact r.append (DRs.rep r n)
theorem opd_mul {K : PySem.W.Frag} : OpD K rMulD fMul := by
  intro F H ms x y dx dy P Q R rx ry h q
  cases rx with
  | int i => cases ry with
    | int j => exact .inl ⟨i, j, rfl, rfl, h.1, q _ ms _ F H h.2 R Stp.refl (.int _)⟩
    | _ => exact h.elim
  | lst h1 r1 => cases ry with
    | int k =>
      obtain ⟨⟨z1, z2, z3⟩, z4⟩ := h
      refine .inr ⟨_, k, _, rfl, rfl, R.sub _ _ h1, z1, z2, by rw [r1.length]; exact z3, fun p hp => ?_⟩
      exact q _ ms _ _ _ z4 (R.new hp) (Stp.new R hp) (R.newLst hp (r1.rep _))
    | _ => exact h.elim
  | _ => exact h.elim
/-- // by a number that is not nought, below 2 ^ 9000 -/
def CDivA (_ j : Int) : Prop := j ≠ 0 ∧ j.natAbs.log2 < 9000
theorem op_fdivA {X : Cx} : OpR X (binaryOp .FloorDiv) (rI CDivA fun i j => .int (i.fdiv j)) := opI fun _ _ _ _ _ _ _ hc q => floordiv_int hc.1 q (.inl (PyProof.noPylong_of_log2 hc.2))
def fDiv : OF := fun x y ms P => fI CDivA (fun i j => .int (i.fdiv j)) x y ms P
theorem opd_div {K : PySem.W.Frag} : OpD K (rI CDivA fun i j => .int (i.fdiv j)) fDiv := opd_I (fun _ _ h => h) fun _ _ _ => .int _
def fMod : OF := fun x y ms P => fI (fun _ j => j ≠ 0) (fun i j => .int (i.fmod j)) x y ms P
theorem opd_mod {K : PySem.W.Frag} : OpD K (rI (fun _ j => j ≠ 0) fun i j => .int (i.fmod j)) fMod := opd_I (fun _ _ h => h) fun _ _ _ => .int _
def fPow : OF := fun x y ms P => fI CPow (fun i j => .int (i ^ j.toNat)) x y ms P
theorem opd_pow {K : PySem.W.Frag} : OpD K (rI CPow fun i j => .int (i ^ j.toNat)) fPow := opd_I (fun _ _ h => h) fun _ _ _ => .int _
def fLt : OF := fun x y ms P => fI (fun _ _ => True) (fun i j => .bl (decide (i < j))) x y ms P
def fLe : OF := fun x y ms P => fI (fun _ _ => True) (fun i j => .bl (decide (i ≤ j))) x y ms P
def fGt : OF := fun x y ms P => fI (fun _ _ => True) (fun i j => .bl (decide (j < i))) x y ms P
def fGe : OF := fun x y ms P => fI (fun _ _ => True) (fun i j => .bl (decide (j ≤ i))) x y ms P
theorem opd_lt {K : PySem.W.Frag} : OpD K (rI0 fun i j => .bl (decide (i < j))) fLt := opd_I0 fun _ _ _ => .bl _
theorem opd_le {K : PySem.W.Frag} : OpD K (rI0 fun i j => .bl (decide (i ≤ j))) fLe := opd_I0 fun _ _ _ => .bl _
theorem opd_gt {K : PySem.W.Frag} : OpD K (rI0 fun i j => .bl (decide (j < i))) fGt := opd_I0 fun _ _ _ => .bl _
theorem opd_ge {K : PySem.W.Frag} : OpD K (rI0 fun i j => .bl (decide (j ≤ i))) fGe := opd_I0 fun _ _ _ => .bl _
mutual
def toPy : D → Option PyData
  | .non => some .none
  | .bl b => some (.bool b)
  | .int i => some (.int i)
  | .str x => some (.str x)
  | .lst xs => (toPys xs).map .list
  | .tup xs => (toPys xs).map .tuple
  | .fro xs => (toPys xs).map .list
  | .edic => some (.dict [])
  | .dct _ => none
  | .opq _ => none
  | .exc _ _ _ => none
def toPys : List D → Option (List PyData)
  | [] => some []
  | x :: r => match toPy x, toPys r with
    | some a, some b => some (a :: b)
    | _, _ => none
end
section
variable {X : Cx} {pins : List (Addr × Obj)} {σ : L2.St} {H F : Hp} {s : Shared}
/-- where lists and dicts of ours lie -/
def Our (K : PySem.W.Frag) (F : Hp) (b : Addr) : Prop := (∃ xs, SqL K F b xs) ∨ F b = some (.dK [])
theorem Our.not1 {K : PySem.W.Frag} {F : Hp} {b : Addr} (h : Our K F b) (o : OneR K F) : b ≠ sysModules := by
  rintro rfl
  obtain ⟨o1, o, φ, o2⟩ := o
  rcases h with ⟨xs, (h | ⟨ob, h⟩) | ⟨ob, its, n, h, _⟩⟩ | h
  · rw [o2] at h; cases h
  · rw [o2] at h; cases h
  · rw [o1] at h; cases h
  · rw [o2] at h; cases h
mutual
theorem DR.readsA (I : Inv X pins σ H s) (sb : Sub F H) : ∀ (d : D) (p : PyData) (v : V) (u : Value), DR X.K F v d → toPy d = some p → RelV v u → ∃ as, Reads s.heap u p as ∧ ∀ b ∈ as, Our X.K F b
  | .non, _, _, _, .non, h, r => by cases h; cases r; exact ⟨_, Reads.none, fun b hb => by cases hb⟩
  | .bl b, _, _, _, .bl _, h, r => by cases h; cases r; exact ⟨_, Reads.bool b, fun b hb => by cases hb⟩
  | .int i, _, _, _, .int _, h, r => by cases h; obtain ⟨t, rfl⟩ := r; exact ⟨_, Reads.int i t, fun b hb => by cases hb⟩
  | .str x, _, _, _, .str _, h, r => by cases h; obtain ⟨t, rfl⟩ := r; exact ⟨_, Reads.str x t, fun b hb => by cases hb⟩
  | .lst xs, p, _, _, .lst ha hs, h, r => by
    unfold toPy at h
    obtain ⟨ps, e, rfl⟩ := Option.map_eq_some_iff.mp h
    cases r
    obtain ⟨its, rv, ⟨o, n, ho, hc, _, hd⟩, _⟩ := I.list (SqL.of (sb _ _ ha))
    obtain ⟨as, hr, ou⟩ := DRs.readsA I sb xs ps _ its hs e rv
    refine ⟨_, Reads.list ho hc hd hr, fun b hb => ?_⟩
    rcases List.mem_cons.mp hb with rfl | hb
    · exact .inl ⟨_, SqL.of ha⟩
    · exact ou b hb
  | .fro xs, p, _, _, .fro ha hs, h, r => by
    unfold toPy at h
    obtain ⟨ps, e, rfl⟩ := Option.map_eq_some_iff.mp h
    cases r
    obtain ⟨its, rv, ⟨o, n, ho, hc, _, hd⟩, _⟩ := I.list (sb.sqL ha)
    obtain ⟨as, hr, ou⟩ := DRs.readsA I sb xs ps _ its hs e rv
    refine ⟨_, Reads.list ho hc hd hr, fun b hb => ?_⟩
    rcases List.mem_cons.mp hb with rfl | hb
    · exact .inl ⟨_, ha⟩
    · exact ou b hb
  | .tup xs, p, _, _, .tup ha hs, h, r => by
    unfold toPy at h
    obtain ⟨ps, e, rfl⟩ := Option.map_eq_some_iff.mp h
    cases r
    obtain ⟨its, rv, ⟨o, ho, hc, n, hd⟩, _⟩ := I.tuple (sb.sqT ha)
    obtain ⟨as, hr, ou⟩ := DRs.readsA I sb xs ps _ its hs e rv
    exact ⟨_, Reads.tuple ho hc hd hr, ou⟩
  | .edic, p, _, _, .edic ha, h, r => by
    cases h
    cases r
    obtain ⟨_, _, vs, kv, o, es, ep, h1, h2, h3, h4, h5, _⟩ := (show ObjOk X.prog X.w H s.heap _ (.dK []) from I.hok _ _ (sb _ _ ha))
    cases kv
    have e0 : es.toList = [] := by
      generalize es.toList = l at h5
      cases h5
      rfl
    refine ⟨_, Reads.dict (kvs := []) h1 h2.1 h3 (by rw [e0]; exact .nil) (by rw [e0]; exact .nil), fun b hb => ?_⟩
    simp only [List.cons_append, List.append_nil, List.mem_cons, List.not_mem_nil, or_false] at hb
    subst hb
    exact .inr ha
  | .opq _, _, _, _, _, h, _ => by cases h
  | .dct _, _, _, _, _, h, _ => by cases h
  | .exc _ _ _, _, _, _, _, h, _ => by cases h
theorem DRs.readsA (I : Inv X pins σ H s) (sb : Sub F H) : ∀ (ds : List D) (ps : List PyData) (vs : List V) (us : List Value), DRs X.K F vs ds → toPys ds = some ps → Vals vs us → ∃ as, ReadsAll s.heap us ps as ∧ ∀ b ∈ as, Our X.K F b
  | [], _, _, _, .nil, h, r => by cases h; cases r; exact ⟨_, ReadsAll.nil, fun b hb => by cases hb⟩
  | d :: ds, ps, _, _, .cons h1 h2, h, r => by
    unfold toPys at h
    cases e1 : toPy d with
    | none => simp only [e1] at h; cases h
    | some a =>
      cases e2 : toPys ds with
      | none => simp only [e1, e2] at h; cases h
      | some b =>
        simp only [e1, e2] at h
        cases h
        cases r with
        | cons r1 r2 =>
          obtain ⟨as, q1, o1⟩ := DR.readsA I sb d a _ _ h1 e1 r1
          obtain ⟨bs, q2, o2⟩ := DRs.readsA I sb ds b _ _ h2 e2 r2
          refine ⟨_, ReadsAll.cons q1 q2, fun b hb => ?_⟩
          rcases List.mem_append.mp hb with hb | hb
          · exact o1 b hb
          · exact o2 b hb
end
theorem DR.reads (I : Inv X pins σ H s) (sb : Sub F H) (d : D) (p : PyData) (v : V) (u : Value) (r : DR X.K F v d) (e : toPy d = some p) (ru : RelV v u) : ∃ as, Reads s.heap u p as := (DR.readsA I sb d p v u r e ru).imp fun _ h => h.1
end
end DL
namespace DL
open PySem PySem.Spec PyProof.Rows L2
def ShD (d : D) : Prop := ∃ p, toPy d = some p ∧ SeqAt.shaped p = true
def eqD (x y : D) : Bool := match toPy x, toPy y with
  | some p, some q => PyData.eqv p q
  | _, _ => false
def fEq : OF := fun x y ms P => match x, y with
  | .int i, .int j => P (.bl (i == j)) ms
  | .str i, .str j => P (.bl (i == j)) ms
  | .lst a, .lst [] => P (.bl a.isEmpty) ms
  | _, _ => ShD x ∧ ShD y ∧ P (.bl (eqD x y)) ms
def fNe : OF := fun x y ms P => match x, y with
  | .int i, .int j => P (.bl (!(i == j))) ms
  | .str i, .str j => P (.bl (!(i == j))) ms
  | .lst a, .lst [] => P (.bl (!a.isEmpty)) ms
  | _, _ => ShD x ∧ ShD y ∧ P (.bl (!eqD x y)) ms
def rEqF (K : PySem.W.Frag) (neg : Bool) : R2 := fun x y H Q => ∃ F dx dy, Sub F H ∧ DR K F x dx ∧ DR K F y dy ∧ ShD dx ∧ ShD dy ∧ Q (.bl (if neg then !eqD dx dy else eqD dx dy)) H
theorem op_eqF' {X : Cx} (hu : X.A.units + 64 < cLine) : OpR X (compareOp .Eq) (rEqF X.K false) := by
  intro pins s σ H x y v u Q I rx ry h
  obtain ⟨F, dx, dy, sb, hx, hy, ⟨p, e1, z1⟩, ⟨q, e2, z2⟩, h⟩ := h
  obtain ⟨as, r1⟩ := DR.reads I sb dx p x v hx e1 rx
  obtain ⟨bs, r2⟩ := DR.reads I sb dy q y u hy e2 ry
  have e : eqD dx dy = PyData.eqv p q := by unfold eqD; rw [e1, e2]
  exact SeqAt.compareEq_shaped r1 r2 z1 z2 hu ⟨.bl _, H, I, rfl, by rw [← e]; exact h⟩
theorem op_neF' {X : Cx} (hu : X.A.units + 64 < cLine) : OpR X (compareOp .NotEq) (rEqF X.K true) := by
  intro pins s σ H x y v u Q I rx ry h
  obtain ⟨F, dx, dy, sb, hx, hy, ⟨p, e1, z1⟩, ⟨q, e2, z2⟩, h⟩ := h
  obtain ⟨as, r1⟩ := DR.reads I sb dx p x v hx e1 rx
  obtain ⟨bs, r2⟩ := DR.reads I sb dy q y u hy e2 ry
  have e : eqD dx dy = PyData.eqv p q := by unfold eqD; rw [e1, e2]
  exact SeqAt.compareNe_shaped r1 r2 z1 z2 hu ⟨.bl _, H, I, rfl, by rw [← e]; exact h⟩
/-- a list beside an empty one: by how long it is -/
def rEqE (K : PySem.W.Frag) (neg : Bool) : R2 := fun x y H Q => ∃ F xs, Sub F H ∧ DR K F x (.lst xs) ∧ DR K F y (.lst []) ∧ Q (.bl (Bool.xor neg xs.isEmpty)) H
theorem op_eqE {X : Cx} (hu : X.A.units + 64 < cLine) : OpR X (compareOp .Eq) (rEqE X.K false) := by
  intro pins s σ H x y v u Q I rx ry h
  obtain ⟨F, xs, sb, hx, hy, h⟩ := h
  cases xs with
  | nil =>
    obtain ⟨as, r1⟩ := DR.reads I sb (.lst []) (.list []) x v hx rfl rx
    obtain ⟨bs, r2⟩ := DR.reads I sb (.lst []) (.list []) y u hy rfl ry
    exact SeqAt.compareEq_shaped r1 r2 rfl rfl hu ⟨.bl true, H, I, rfl, h⟩
  | cons d r =>
    cases hx with
    | lst ha hs => cases hy with
      | lst hb hs2 =>
        cases rx; cases ry
        obtain ⟨i1, v1, ⟨o1, n1, p1, c1, _, d1⟩, _⟩ := I.list (SqL.of (sb _ _ ha))
        obtain ⟨i2, v2, ⟨o2, n2, p2, c2, _, d2⟩, _⟩ := I.list (SqL.of (sb _ _ hb))
        have l1 : i1.length = r.length + 1 := by rw [← v1.length, hs.length]; rfl
        have l2 : i2.length = 0 := by rw [← v2.length, hs2.length]; rfl
        exact PySem.SeqAt.eq_list_lengthsAt ⟨o1, p1, c1, n1, d1⟩ ⟨o2, p2, c2, n2, d2⟩ (by rw [List.size_toArray, List.size_toArray, l1, l2]; rfl) (by omega) ⟨.bl false, H, I, rfl, h⟩
theorem op_neE {X : Cx} (hu : X.A.units + 64 < cLine) : OpR X (compareOp .NotEq) (rEqE X.K true) := by
  intro pins s σ H x y v u Q I rx ry h
  obtain ⟨F, xs, sb, hx, hy, h⟩ := h
  cases xs with
  | nil =>
    obtain ⟨as, r1⟩ := DR.reads I sb (.lst []) (.list []) x v hx rfl rx
    obtain ⟨bs, r2⟩ := DR.reads I sb (.lst []) (.list []) y u hy rfl ry
    exact SeqAt.compareNe_shaped r1 r2 rfl rfl hu ⟨.bl false, H, I, rfl, h⟩
  | cons d r =>
    cases hx with
    | lst ha hs => cases hy with
      | lst hb hs2 =>
        cases rx; cases ry
        obtain ⟨i1, v1, ⟨o1, n1, p1, c1, _, d1⟩, _⟩ := I.list (SqL.of (sb _ _ ha))
        obtain ⟨i2, v2, ⟨o2, n2, p2, c2, _, d2⟩, _⟩ := I.list (SqL.of (sb _ _ hb))
        have l1 : i1.length = r.length + 1 := by rw [← v1.length, hs.length]; rfl
        have l2 : i2.length = 0 := by rw [← v2.length, hs2.length]; rfl
        exact PySem.SeqAt.RcNeAt.lists_lengths ⟨o1, p1, c1, n1, d1⟩ ⟨o2, p2, c2, n2, d2⟩ (by rw [List.size_toArray, List.size_toArray, l1, l2]; rfl) (by omega) _ _ _ _ ⟨.bl true, H, I, rfl, h⟩
def rEqA (K : PySem.W.Frag) : R2 := fun x y H Q => rEqF K false x y H Q ∨ (rEqE K false x y H Q ∨ rEq x y H Q)
def rNeA (K : PySem.W.Frag) : R2 := fun x y H Q => rEqF K true x y H Q ∨ (rEqE K true x y H Q ∨ rNe x y H Q)
theorem op_eqF {X : Cx} (hu : X.A.units + 64 < cLine) : OpR X (compareOp .Eq) (rEqA X.K) := (op_eqF' hu).or ((op_eqE hu).or op_eq)
theorem op_neF {X : Cx} (hu : X.A.units + 64 < cLine) : OpR X (compareOp .NotEq) (rNeA X.K) := (op_neF' hu).or ((op_neE hu).or op_ne)
theorem opd_eq {K : PySem.W.Frag} : OpD K (rEqA K) fEq := fun F H ms x y dx dy P Q R rx ry h q => by
  have gen : ShD dx ∧ ShD dy ∧ P (.bl (eqD dx dy)) ms → rEqA K x y H Q := fun h => .inl ⟨F, dx, dy, R.sub, rx, ry, h.1, h.2.1, q _ ms _ F H h.2.2 R Stp.refl (.bl _)⟩
  cases rx with
  | int i => cases ry with
    | int j => exact .inr (.inr ⟨rfl, by rw [dec_int]; exact q _ ms _ F H h R Stp.refl (.bl _)⟩)
    | _ => exact gen h
  | str i => cases ry with
    | str j => exact .inr (.inr ⟨rfl, by rw [dec_str]; exact q _ ms _ F H h R Stp.refl (.bl _)⟩)
    | _ => exact gen h
  | lst ha hs => cases ry with
    | lst hb hs2 =>
      rename_i ys
      cases ys with
      | nil => exact .inr (.inl ⟨F, _, R.sub, .lst ha hs, .lst hb hs2, by rw [Bool.false_xor]; exact q _ ms _ F H h R Stp.refl (.bl _)⟩)
      | cons _ _ => exact gen h
    | _ => exact gen h
  | _ => exact gen h
theorem opd_ne {K : PySem.W.Frag} : OpD K (rNeA K) fNe := fun F H ms x y dx dy P Q R rx ry h q => by
  have gen : ShD dx ∧ ShD dy ∧ P (.bl (!eqD dx dy)) ms → rNeA K x y H Q := fun h => .inl ⟨F, dx, dy, R.sub, rx, ry, h.1, h.2.1, q _ ms _ F H h.2.2 R Stp.refl (.bl _)⟩
  cases rx with
  | int i => cases ry with
    | int j => exact .inr (.inr ⟨rfl, by rw [dec_int]; exact q _ ms _ F H h R Stp.refl (.bl _)⟩)
    | _ => exact gen h
  | str i => cases ry with
    | str j => exact .inr (.inr ⟨rfl, by rw [dec_str]; exact q _ ms _ F H h R Stp.refl (.bl _)⟩)
    | _ => exact gen h
  | lst ha hs => cases ry with
    | lst hb hs2 =>
      rename_i ys
      cases ys with
      | nil => exact .inr (.inl ⟨F, _, R.sub, .lst ha hs, .lst hb hs2, by rw [Bool.true_xor]; exact q _ ms _ F H h R Stp.refl (.bl _)⟩)
      | cons _ _ => exact gen h
    | _ => exact gen h
  | _ => exact gen h
def fIx : OF := fun x y ms P => match y with
  | .int i => (match x with
    | .tup xs => (match atI xs i with
      | some d => P d ms
      | none => False)
    | .str z => z.length ≤ sizeLine ∧ (match atI z.cps.toList i with
      | some c => P (.str ⟨#[c]⟩) ms
      | none => False)
    | _ => (match asL x ms with
      | some xs => (match atI xs i with
        | some d => P d ms
        | none => False)
      | none => False))
  | _ => False
theorem DRs.at {K : PySem.W.Frag} {F : Hp} {vs : List V} {xs : List D} {i : Int} {d : D} (r : DRs K F vs xs) (h : atI xs i = some d) : ∃ v, atI vs i = some v ∧ DR K F v d := by
  unfold atI at h ⊢
  rw [r.length]
  cases e : ixN xs.length i with
  | none => rw [e] at h; cases h
  | some j =>
    rw [e] at h
    exact r.get h
theorem opd_ix {K : PySem.W.Frag} : OpD K (rIx K) fIx := by
  intro F H ms x y dx dy P Q R rx ry h q
  cases ry with
  | int i =>
    unfold fIx at h
    have lst : ∀ {xs : List D}, asL dx ms = some xs → (match atI xs i with | some d => P d ms | none => False) → rIx K x (.int i) H Q := by
      intro xs e h
      obtain ⟨a, vs, rfl, hs, rs⟩ := R.asL rx e
      cases e2 : atI xs i with
      | none => rw [e2] at h; exact h.elim
      | some d =>
        rw [e2] at h
        obtain ⟨v, h1, h2⟩ := rs.at e2
        exact .inl ⟨a, vs, i, v, rfl, rfl, hs, h1, q d ms v F H h R Stp.refl h2⟩
    cases rx with
    | tup ha hs =>
      rename_i xs
      simp only at h
      cases e2 : atI xs i with
      | none => rw [e2] at h; exact h.elim
      | some d =>
        rw [e2] at h
        obtain ⟨v, h1, h2⟩ := hs.at e2
        exact .inr (.inl ⟨_, _, i, v, rfl, rfl, R.sub.sqT ha, h1, q d ms v F H h R Stp.refl h2⟩)
    | str z =>
      simp only at h
      obtain ⟨hz, h⟩ := h
      cases e2 : atI z.cps.toList i with
      | none => rw [e2] at h; exact h.elim
      | some c =>
        rw [e2] at h
        exact .inr (.inr ⟨z, i, c, rfl, rfl, hz, e2, q _ ms _ F H h R Stp.refl (.str _)⟩)
    | lst ha hs => exact lst rfl h
    | fro ha hs => exact lst rfl h
    | opq _ =>
      simp only at h
      cases e : asL (.opq x) ms with
      | none => rw [e] at h; exact h.elim
      | some xs => rw [e] at h; exact lst e h
    | _ => exact h.elim
  | _ => exact h.elim
def put : MS → Addr → List D → MS
  | [], _, _ => []
  | (q, xs) :: r, p, ys => if q = p then (q, ys) :: r else (q, xs) :: put r p ys
theorem put_fst : ∀ (ms : MS) (p : Addr) (ys : List D), (put ms p ys).map (·.1) = ms.map (·.1)
  | [], _, _ => rfl
  | (q, xs) :: r, p, ys => by
    unfold put
    split
    · rfl
    · rw [List.map_cons, List.map_cons, put_fst r p ys]
theorem put_mem : ∀ {ms : MS} {p : Addr} {ys : List D}, (ms.map (·.1)).Nodup → ∀ e ∈ put ms p ys, (e.1 = p ∧ e.2 = ys) ∨ (e ∈ ms ∧ e.1 ≠ p)
  | [], _, _, _, _, h => by cases h
  | (q, xs) :: r, p, ys, nd, e, h => by
    rw [List.map_cons, List.nodup_cons] at nd
    unfold put at h
    split at h
    · rename_i hq
      rcases List.mem_cons.mp h with rfl | h
      · exact .inl ⟨hq, rfl⟩
      · refine .inr ⟨List.mem_cons_of_mem _ h, fun z => nd.1 ?_⟩
        show q ∈ _
        rw [hq, ← z]
        exact List.mem_map_of_mem h
    · rename_i hq
      rcases List.mem_cons.mp h with rfl | h
      · exact .inr ⟨List.mem_cons_self, hq⟩
      · rcases put_mem nd.2 e h with z | z
        · exact .inl z
        · exact .inr ⟨List.mem_cons_of_mem _ z.1, z.2⟩
theorem look_put_same : ∀ {ms : MS} {p : Addr} {xs ys : List D}, look ms p = some xs → look (put ms p ys) p = some ys
  | [], _, _, _, h => by cases h
  | (q, zs) :: r, p, xs, ys, h => by
    unfold look at h
    unfold put
    by_cases e : q = p
    · rw [if_pos e, look, if_pos e]
    · rw [if_neg e] at h ⊢
      rw [look, if_neg e]
      exact look_put_same h
theorem look_put_ne : ∀ {ms : MS} {p q : Addr} {ys : List D}, p ≠ q → look (put ms p ys) q = look ms q
  | [], _, _, _, _ => rfl
  | (r, zs) :: ms, p, q, ys, h => by
    unfold put
    by_cases e : r = p
    · subst e
      rw [if_pos rfl, look, look, if_neg h, if_neg h]
    · rw [if_neg e, look, look, look_put_ne h]
section
variable {K : PySem.W.Frag} {F H : Hp} {ms : MS}
theorem relPut (R : Rel K F H ms) {p : Addr} {xs ys : List D} {ws : List V} (h : look ms p = some xs) (r : DRs K F ws ys) : Rel K F (upd H p (.lst ws)) (put ms p ys) := by
  obtain ⟨hF, vs, hH, _⟩ := R.look h
  refine ⟨fun b u e => ?_, fun e he => ?_, by rw [put_fst]; exact R.nd, R.one⟩
  · rw [upd_ne fun z => by rw [z, hF] at e; cases e]; exact R.sub b u e
  · rcases put_mem R.nd e he with ⟨z1, z2⟩ | ⟨z1, z2⟩
    · rw [z1, z2]; exact ⟨hF, ws, upd_same, r⟩
    · obtain ⟨y1, us, y2, y3⟩ := R.mu e z1
      exact ⟨y1, us, by rw [upd_ne z2]; exact y2, y3⟩
theorem stpPut (R : Rel K F H ms) {p : Addr} {xs ys : List D} {ws : List V} (h : look ms p = some xs) : Stp F H ms F (upd H p (.lst ws)) (put ms p ys) := by
  refine ⟨Sub.refl F, fun a u z1 z2 z3 => ?_, fun _ _ h => .inl h, fun e he => .inl ?_⟩
  · rw [upd_ne fun z => z3 _ (look_mem h) z.symm]; exact z1
  · have := List.mem_map_of_mem (f := (·.1)) he
    rw [put_fst] at this
    obtain ⟨q, hq, z⟩ := List.mem_map.mp this
    exact ⟨q, hq, z⟩
end
def dSetIx (do_ di dv : DE) : DTS := fun E ds ms => dv ds ms fun v m1 => do_ ds m1 fun o m2 => di ds m2 fun i m3 => match o, i with
  | .opq (.ref p), .int k => (match look m3 p with
    | some xs => (match ixN xs.length k with
      | some j => E.nx ds (put m3 p (xs.set j v))
      | none => False)
    | none => False)
  | _, _ => False
section
variable {X : Cx} {o i e : Expr} {do_ di dv : DE} {pos spos : Pos}
theorem pds_setIx (he : PD X e dv) (ho : PD X o do_) (hi : PD X i di)
    (ha : ∀ v, assign (.Subscript o i pos) X.env v = (do
      let ov ← holding [v] (eval o X.env)
      let iv ← holding [v, ov] (eval i X.env)
      standAt pos
      holding [v, ov, iv] (setItem ov iv v)
      release [v, ov, iv] []) := by intro _; rfl)
    (hs : swapsWithSole [.Subscript o i pos] e spos.line X.env = pure false := by rfl) (hw : swappedStores [.Subscript o i pos] e X.env = pure none := by rfl)
    (h1 : (assignEach [.Subscript o i pos] X.env).map (·.2) = [assign (.Subscript o i pos) X.env] := by rfl) : PDS X (.Assign [.Subscript o i pos] e spos) (dSetIx do_ di dv) :=
  psImp (ps_asg he (pg_sub ho hi set_list ha) hs hw h1) fun D σ H ⟨F, ds, ms, E, R, S, h, n, r, k, q⟩ =>
    ⟨F, ds, ms, _, R, S, h, fun d m1 v F1 H1 p1 R1 s1 r1 => ⟨F1, ds, m1, _, R1, S.mono s1.sub, p1, fun do' m2 o' F2 H2 p2 R2 s2 r2 =>
      ⟨F2, ds, m2, _, R2, S.mono (s1.trans s2).sub, p2, fun di' m3 i' F3 H3 p3 R3 s3 r3 => by
        match do', di', p3, r2, r3 with
        | .opq (.ref p), .int kk, p3, r2, .int _ =>
          cases r2
          cases e1 : look m3 p with
          | none => simp only [e1] at p3
          | some xs =>
            simp only [e1] at p3
            cases e2 : ixN xs.length kk with
            | none => simp only [e2] at p3
            | some j =>
              simp only [e2] at p3
              obtain ⟨hF, vs, hH, rs⟩ := R3.look e1
              refine ⟨p, vs, kk, j, rfl, rfl, hH, by rw [rs.length]; exact e2, ?_⟩
              have s13 := (s1.trans s2).trans s3
              exact n ds _ σ F3 _ p3 (relPut R3 e1 (rs.set ((r1.mono s2.sub).mono s3.sub) j)) (s13.trans (stpPut R3 e1)) (S.mono s13.sub)⟩⟩⟩
end
def dAppend (dx : DE) (aa : DA) : DE := fun ds ms P => dx ds ms fun x m1 => match x with
  | .opq (.ref p) => (∃ xs0, look m1 p = some xs0) ∧ aa ds m1 fun ys m2 => (match ys with
    | [y] => (match look m2 p with
      | some xs => xs.length < sizeLine ∧ P .non (put m2 p (xs ++ [y]))
      | none => False)
    | _ => False)
  | _ => False
section
variable {X : Cx} {o e : Expr} {dx : DE} {aa : DA} {apos cpos : Pos}
theorem pd_append (ho : PD X o dx) (ha : PDA X [e] aa)
    (hbase : attributeBase o "append" X.env (eval o X.env) = eval o X.env := by rfl)
    (hfew : ((backTo cpos (starEach [e] X.env)).all (fun x => !x.1) && (backToKw cpos (keywordEach [] X.env)).all (fun x => x.1.isSome) && decide ([e].length + ([] : List Keyword).length + (if ([] : List Keyword).isEmpty then 0 else 1) < 30)) = true := by rfl)
    (hline : (apos.endLine == cpos.line) = true := by rfl) (hs : starEach [e] X.env = (false, eval e X.env) :: starEach [] X.env := by rfl) (hplain : (backTo cpos (starEach [] X.env)).any (·.1) = false := by rfl) :
    PD X (.Call (.Attribute o "append" apos) [e] [] cpos) (dAppend dx aa) :=
  peImp (pe_bm PySem.F.plainAttrs_list PySem.F.slot_list_append PySem.F.type_list_append mt_append ho ha hbase hfew hline hs hplain) fun σ H Q ⟨F, ds, ms, P, R, S, h1, h2⟩ =>
    ⟨F, ds, ms, _, R, S, h1, fun x m1 v F1 H1 p1 R1 s1 r1 => by
      match x, p1, r1 with
      | .opq (.ref p), ⟨⟨xs0, e0⟩, h⟩, r1 =>
        cases r1
        obtain ⟨hF, vs, hH, rs⟩ := R1.look e0
        refine ⟨.inl ⟨rfl, vs, SqL.of hH⟩, F1, ds, m1, _, R1, S.mono s1.sub, h, fun ys m2 ws F2 H2 p2 R2 s2 r2 => ?_⟩
        match ys, r2, p2 with
        | [y], .cons ry .nil, p3 =>
          cases e1 : look m2 p with
          | none => simp only [e1] at p3
          | some xs =>
            simp only [e1] at p3
            obtain ⟨hF2, vs2, hH2, rs2⟩ := R2.look e1
            exact ⟨p, vs2, _, rfl, rfl, hH2, by rw [rs2.length]; exact p3.1, h2 _ _ _ F2 _ p3.2 (relPut R2 e1 (rs2.append (.cons ry .nil))) ((s1.trans s2).trans (stpPut R2 e1)) .non⟩⟩
end
def drp : MS → Addr → MS
  | [], _ => []
  | (q, xs) :: r, p => if q = p then r else (q, xs) :: drp r p
theorem drp_sub : ∀ {ms : MS} {p : Addr}, ∀ e ∈ drp ms p, e ∈ ms
  | [], _, _, h => by cases h
  | (q, xs) :: r, p, e, h => by
    unfold drp at h
    split at h
    · exact List.mem_cons_of_mem _ h
    · rcases List.mem_cons.mp h with rfl | h
      · exact List.mem_cons_self
      · exact List.mem_cons_of_mem _ (drp_sub e h)
theorem drp_ne : ∀ {ms : MS} {p : Addr}, (ms.map (·.1)).Nodup → ∀ e ∈ drp ms p, e.1 ≠ p
  | [], _, _, _, h => by cases h
  | (q, xs) :: r, p, nd, e, h => by
    rw [List.map_cons, List.nodup_cons] at nd
    unfold drp at h
    split at h
    · rename_i hq
      exact fun z => nd.1 (by show q ∈ _; rw [hq, ← z]; exact List.mem_map_of_mem h)
    · rename_i hq
      rcases List.mem_cons.mp h with rfl | h
      · exact hq
      · exact drp_ne nd.2 e h
theorem drp_nd : ∀ {ms : MS} {p : Addr}, (ms.map (·.1)).Nodup → ((drp ms p).map (·.1)).Nodup
  | [], _, h => h
  | (q, xs) :: r, p, nd => by
    rw [List.map_cons, List.nodup_cons] at nd
    unfold drp
    split
    · exact nd.2
    · rw [List.map_cons, List.nodup_cons]
      refine ⟨fun z => nd.1 ?_, drp_nd nd.2⟩
      obtain ⟨e, he, ze⟩ := List.mem_map.mp z
      exact List.mem_map.mpr ⟨e, drp_sub e he, ze⟩
section
variable {K : PySem.W.Frag} {F H : Hp} {ms : MS}
theorem relFrz (R : Rel K F H ms) {p : Addr} {xs : List D} (h : look ms p = some xs) : ∃ vs, Rel K (upd F p (.lst vs)) H (drp ms p) ∧ Stp F H ms (upd F p (.lst vs)) H (drp ms p) ∧ DR K (upd F p (.lst vs)) (.ref p) (.lst xs) := by
  obtain ⟨hF, vs, hH, rs⟩ := R.look h
  have sF : Sub F (upd F p (.lst vs)) := Sub.new hF
  refine ⟨vs, ⟨fun b u e => ?_, fun e he => ?_, drp_nd R.nd, R.one.mono sF⟩, ⟨sF, fun a u h _ _ => h, fun a u e => ?_, fun e he => .inl ⟨e, drp_sub e he, rfl⟩⟩, .lst upd_same (rs.mono sF)⟩
  · by_cases hb : b = p
    · subst hb; rw [upd_same] at e; rw [hH]; exact e
    · rw [upd_ne hb] at e; exact R.sub b u e
  · obtain ⟨y1, us, y2, y3⟩ := R.mu e (drp_sub e he)
    exact ⟨by rw [upd_ne (drp_ne R.nd e he)]; exact y1, us, y2, y3.mono sF⟩
  · by_cases hb : a = p
    · subst hb; exact .inr (.inr ⟨_, look_mem h, rfl⟩)
    · rw [upd_ne hb] at e; exact .inl e
end
def dFrz (de : DE) : DE := fun ds ms P => de ds ms fun d m => match d with
  | .opq (.ref p) => (match look m p with
    | some xs => P (.lst xs) (drp m p)
    | none => False)
  | _ => False
theorem pd_frz {X : Cx} {e : Expr} {de : DE} (h : PD X e de) : PD X e (dFrz de) := peImp h fun σ H Q ⟨F, ds, ms, P, R, S, h1, h2⟩ =>
  ⟨F, ds, ms, _, R, S, h1, fun d m v F1 H1 p1 R1 s1 r1 => by
    match d, p1, r1 with
    | .opq (.ref p), p1, r1 =>
      cases r1
      cases e1 : look m p with
      | none => simp only [e1] at p1
      | some xs =>
        simp only [e1] at p1
        obtain ⟨vs, z1, z2, z3⟩ := relFrz R1 e1
        exact h2 _ _ _ _ _ p1 z1 (s1.trans z2) z3⟩
end DL
namespace DL
open PySem PySem.Spec PyProof.Rows L2
abbrev CF := List D → MS → (D → MS → Prop) → Prop
def CalD (K : PySem.W.Frag) (r : List V → Hp → VK → Prop) (f : CF) : Prop := ∀ (F H : Hp) (ms : MS) (vs : List V) (xs : List D) (P : D → MS → Prop) (Q : VK), Rel K F H ms → DRs K F vs xs → f xs ms P →
  (∀ d ms' v F' H', P d ms' → Rel K F' H' ms' → Stp F H ms F' H' ms' → DR K F' v d → Q v H') → r vs H Q
def dCB (f : CF) (aa : DA) : DE := fun ds ms P => aa ds ms fun xs m => f xs m P
section
variable {X : Cx} {K : PySem.W.Frag} {x : Str} {p pos : Pos} {e : Expr} {es : List Expr} {aa : DA} {id T : String} {r : List V → Hp → VK → Prop} {f : CF} {da : DE}
theorem lift_cb (hf : CalD K r f) : ∀ σ H Q, lift K (dCB f aa) σ H Q → tCB r (liftA K aa) σ H Q := fun σ H Q ⟨F, ds, ms, P, R, S, h1, h2⟩ =>
  ⟨F, ds, ms, _, R, S, h1, fun xs m vs F1 H1 p1 R1 s1 r1 => hf F1 H1 m vs xs P Q R1 r1 p1 fun d m2 v F2 H2 p2 R2 s2 r2 => h2 d m2 v F2 H2 p2 R2 (s1.trans s2) r2⟩
theorem pd_callB (hc : CallR X (.builtin id) r) (hf : CalD X.K r f) (hg : Gl X x) (hm : X.mg x = none) (hv : bootBuiltins x = some (.builtin id)) (ha : PDA X (e :: es) aa) (hn : x ≠ "__name__" := by decide) (hdb : (x == ("__debug__" : Str)) = false := by decide)
    (he : starEach (e :: es) X.env = (false, eval e X.env) :: starEach es X.env := by rfl) (hpl : (backTo pos (starEach es X.env)).any (·.1) = false := by rfl) : PD X (.Call (.Name x p) (e :: es) [] pos) (dCB f aa) :=
  peImp (pe_callB hc hg hm hv ha hn hdb he hpl) (lift_cb hf)
theorem pd_callTy (hc : CallR X (.type T) r) (hf : CalD X.K r f) (hg : Gl X x) (hm : X.mg x = none) (hv : bootBuiltins x = some (.type T)) (ha : PDA X (e :: es) aa) (hn : x ≠ "__name__" := by decide) (hdb : (x == ("__debug__" : Str)) = false := by decide)
    (he : starEach (e :: es) X.env = (false, eval e X.env) :: starEach es X.env := by rfl) (hpl : (backTo pos (starEach es X.env)).any (·.1) = false := by rfl) : PD X (.Call (.Name x p) (e :: es) [] pos) (dCB f aa) :=
  peImp (pe_callTy hc hg hm hv ha hn hdb he hpl) (lift_cb hf)
end
def cAbs : CF := fun xs ms P => match xs with
  | [.int i] => P (.int (if i < 0 then -i else i)) ms
  | _ => False
def cMax2 : CF := fun xs ms P => match xs with
  | [.int i, .int j] => P (.int (if j > i then j else i)) ms
  | _ => False
def cMin2 : CF := fun xs ms P => match xs with
  | [.int i, .int j] => P (.int (if j < i then j else i)) ms
  | _ => False
def cInt1 : CF := fun xs ms P => match xs with
  | [.int i] => P (.int i) ms
  | [.bl k] => P (.int (if k then 1 else 0)) ms
  | _ => False
def cLen : CF := fun xs ms P => match xs with
  | [.str z] => z.length ≤ sizeLine ∧ P (.int z.length) ms
  | [.tup ys] => P (.int ys.length) ms
  | [d] => (match asL d ms with
    | some ys => P (.int ys.length) ms
    | none => False)
  | _ => False
def cList : CF := fun xs ms P => match xs with
  | [.tup ys] => P (.lst ys) ms
  | [d] => (match asL d ms with
    | some ys => P (.lst ys) ms
    | none => False)
  | _ => False
def cTuple : CF := fun xs ms P => match xs with
  | [.tup ys] => P (.tup ys) ms
  | [d] => (match asL d ms with
    | some ys => P (.tup ys) ms
    | none => False)
  | _ => False
/-- the truths in a list, the ints in a list -/
def blsOf : List D → Option (List Bool)
  | [] => some []
  | .bl b :: r => (blsOf r).map (b :: ·)
  | _ :: _ => none
def intsOf : List D → Option (List Int)
  | [] => some []
  | .int b :: r => (intsOf r).map (b :: ·)
  | _ :: _ => none
def cAll : CF := fun xs ms P => match xs with
  | [.lst ys] => (match blsOf ys with
    | some bs => P (.bl (bs.all id)) ms
    | none => False)
  | _ => False
def cAny : CF := fun xs ms P => match xs with
  | [.lst ys] => (match blsOf ys with
    | some bs => P (.bl (bs.any id)) ms
    | none => False)
  | _ => False
def cSum : CF := fun xs ms P => match xs with
  | [.lst ys] => (match intsOf ys with
    | some ns => P (.int ns.sum) ms
    | none => False)
  | _ => False
section
variable {X : Cx} {K : PySem.W.Frag} {F : Hp}
theorem DRs.bls : ∀ {vs : List V} {ys : List D} {bs : List Bool}, DRs K F vs ys → blsOf ys = some bs → vs = bs.map V.bl
  | _, _, _, .nil, h => by cases h; rfl
  | _, .bl b :: r, bs, .cons (.bl _) t, h => by
    unfold blsOf at h
    obtain ⟨cs, e, rfl⟩ := Option.map_eq_some_iff.mp h
    rw [List.map_cons, DRs.bls t e]
  | _, .non :: _, _, .cons _ _, h => by cases h
  | _, .int _ :: _, _, .cons _ _, h => by cases h
  | _, .str _ :: _, _, .cons _ _, h => by cases h
  | _, .lst _ :: _, _, .cons _ _, h => by cases h
  | _, .tup _ :: _, _, .cons _ _, h => by cases h
  | _, .fro _ :: _, _, .cons _ _, h => by cases h
  | _, .edic :: _, _, .cons _ _, h => by cases h
  | _, .dct _ :: _, _, .cons _ _, h => by cases h
  | _, .opq _ :: _, _, .cons _ _, h => by cases h
  | _, .exc _ _ _ :: _, _, .cons _ _, h => by cases h
theorem DRs.intsV : ∀ {vs : List V} {ys : List D} {bs : List Int}, DRs K F vs ys → intsOf ys = some bs → vs = bs.map V.int
  | _, _, _, .nil, h => by cases h; rfl
  | _, .int b :: r, bs, .cons (.int _) t, h => by
    unfold intsOf at h
    obtain ⟨cs, e, rfl⟩ := Option.map_eq_some_iff.mp h
    rw [List.map_cons, DRs.intsV t e]
  | _, .non :: _, _, .cons _ _, h => by cases h
  | _, .bl _ :: _, _, .cons _ _, h => by cases h
  | _, .str _ :: _, _, .cons _ _, h => by cases h
  | _, .lst _ :: _, _, .cons _ _, h => by cases h
  | _, .tup _ :: _, _, .cons _ _, h => by cases h
  | _, .fro _ :: _, _, .cons _ _, h => by cases h
  | _, .edic :: _, _, .cons _ _, h => by cases h
  | _, .dct _ :: _, _, .cons _ _, h => by cases h
  | _, .opq _ :: _, _, .cons _ _, h => by cases h
  | _, .exc _ _ _ :: _, _, .cons _ _, h => by cases h
theorem cal_abs : CalD K (fun xs H Q => ∃ i, xs = [.int i] ∧ Q (.int (if i < 0 then -i else i)) H) cAbs := fun F H ms vs xs P Q R r h q => by
  match xs, r, h with
  | [.int i], .cons (.int _) .nil, h => exact ⟨i, rfl, q _ ms _ F H h R Stp.refl (.int _)⟩
theorem cal_max2 : CalD K (fun xs H Q => ∃ i j, xs = [.int i, .int j] ∧ Q (.int (if j > i then j else i)) H) cMax2 := fun F H ms vs xs P Q R r h q => by
  match xs, r, h with
  | [.int i, .int j], .cons (.int _) (.cons (.int _) .nil), h => exact ⟨i, j, rfl, q _ ms _ F H h R Stp.refl (.int _)⟩
theorem cal_min2 : CalD K (fun xs H Q => ∃ i j, xs = [.int i, .int j] ∧ Q (.int (if j < i then j else i)) H) cMin2 := fun F H ms vs xs P Q R r h q => by
  match xs, r, h with
  | [.int i, .int j], .cons (.int _) (.cons (.int _) .nil), h => exact ⟨i, j, rfl, q _ ms _ F H h R Stp.refl (.int _)⟩
theorem cal_int1 : CalD K (fun xs H Q => (∃ i, xs = [.int i] ∧ Q (.int i) H) ∨ ∃ k, xs = [.bl k] ∧ Q (.int (if k then 1 else 0)) H) cInt1 := fun F H ms vs xs P Q R r h q => by
  match xs, r, h with
  | [.int i], .cons (.int _) .nil, h => exact .inl ⟨i, rfl, q _ ms _ F H h R Stp.refl (.int _)⟩
  | [.bl i], .cons (.bl _) .nil, h => exact .inr ⟨i, rfl, q _ ms _ F H h R Stp.refl (.int _)⟩
theorem cal_len : CalD K (fun xs H Q => ∃ x n, xs = [x] ∧ LenV K x H n ∧ Q (.int n) H) cLen := fun F H ms vs xs P Q R r h q => by
  match xs, r, h with
  | a :: _ :: _, _, h => cases a <;> exact h.elim
  | [d], .cons (v := v) rd .nil, h =>
    have fin : ∀ {ys : List D}, asL d ms = some ys → P (.int ys.length) ms → ∃ x n, [v] = [x] ∧ LenV K x H n ∧ Q (.int n) H := by
      intro ys e hp
      obtain ⟨a, ws, rfl, h1, h2⟩ := R.asL rd e
      exact ⟨_, _, rfl, .inl ⟨ws, h1, rfl⟩, q _ ms _ F H (by rw [h2.length]; exact hp) R Stp.refl (.int _)⟩
    cases rd with
    | str z => exact ⟨_, _, rfl, ⟨h.1, rfl⟩, q _ ms _ F H h.2 R Stp.refl (.int _)⟩
    | tup ha hs => exact ⟨_, _, rfl, .inr ⟨_, R.sub.sqT ha, rfl⟩, q _ ms _ F H (by rw [hs.length]; exact h) R Stp.refl (.int _)⟩
    | lst ha hs => exact fin rfl h
    | fro ha hs => exact fin rfl h
    | opq _ =>
      unfold cLen at h
      simp only at h
      cases e : asL (.opq v) ms with
      | none => rw [e] at h; exact h.elim
      | some ys => rw [e] at h; exact fin e h
    | _ => exact h.elim
theorem cal_all : CalD K (rAll K) cAll := fun F H ms vs xs P Q R r h q => by
  match xs, r, h with
  | [.lst ys], .cons (.lst ha hs) .nil, h =>
    unfold cAll at h
    cases e : blsOf ys with
    | none => simp only [e] at h
    | some bs =>
      simp only [e] at h
      have e2 := hs.bls e
      subst e2
      exact ⟨_, bs, rfl, SqL.of (R.sub _ _ ha), q _ ms _ F H h R Stp.refl (.bl _)⟩
theorem cal_sum : CalD K (rSum K) cSum := fun F H ms vs xs P Q R r h q => by
  match xs, r, h with
  | [.lst ys], .cons (.lst ha hs) .nil, h =>
    unfold cSum at h
    cases e : intsOf ys with
    | none => simp only [e] at h
    | some ns =>
      simp only [e] at h
      have e2 := hs.intsV e
      subst e2
      exact ⟨_, ns, rfl, SqL.of (R.sub _ _ ha), q _ ms _ F H h R Stp.refl (.int _)⟩
end
def Shw (d : D) : Prop := ∃ p, toPy d = some p ∧ p.showable = true ∧ p.depth ≤ 100 ∧ p.shown.length ≤ sizeLine
def repS (d : D) : Str := match toPy d with
  | some p => p.shown
  | none => default
def cRepr : CF := fun xs ms P => match xs with
  | [d] => Shw d ∧ P (.str (repS d)) ms
  | _ => False
def rRepr (K : PySem.W.Frag) : List V → Hp → VK → Prop := fun xs H Q => ∃ F x d, xs = [x] ∧ Sub F H ∧ OneR K F ∧ DR K F x d ∧ Shw d ∧ Q (.str (repS d)) H
theorem call_reprD {X : Cx} {k : Nat} (hr : RoomG k X.A) : CallR X (.builtin "repr") (rRepr X.K) := by
  intro pins s σ H xs us Q I r h
  obtain ⟨F, x, d, rfl, sb, one, hd, ⟨p, e, z1, z3, z4⟩, q⟩ := h
  obtain ⟨u, rfl, ru⟩ := vals1 r
  obtain ⟨as, rd, ou⟩ := DR.readsA I sb d p x u hd e ru
  have z2 : p.hasDict = true → sysModules ∉ as := fun _ hm => (ou _ hm).not1 one rfl
  have er : repS d = p.shown := by unfold repS; rw [e]
  rw [er] at q
  have hu : X.A.units + (p.depth + 1) < cLine := by have := hr.r.un; omega
  cases rd with
  | none => exact PySem.P.repr_of_none ⟨.str _, H, I.tok _, ⟨_, rfl⟩, q⟩
  | bool b => exact PySem.P.repr_of_bool ⟨.str _, H, I.tok _, ⟨_, rfl⟩, q⟩
  | int i t => exact PySem.P.repr_of_int (of_decide_eq_true z1) ⟨.str _, H, I.tok _, ⟨_, rfl⟩, q⟩
  | str y t => exact PySem.P.repr_of_str ⟨.str _, H, I.tok _, ⟨_, rfl⟩, q⟩ z4
  | list h1 h2 h3 h4 => exact repr_of_reads' (.list h1 h2 h3 h4) z1 z2 hr.g hu (fun _ _ e => e) (fun h' t tk hk => ⟨.str _, H, I.kept hk, ⟨_, rfl⟩, q⟩) z4
  | tuple h1 h2 h3 h4 => exact repr_of_reads' (.tuple h1 h2 h3 h4) z1 z2 hr.g hu (fun _ _ e => e) (fun h' t tk hk => ⟨.str _, H, I.kept hk, ⟨_, rfl⟩, q⟩) z4
  | dict h1 h2 h3 h4 h5 => exact repr_of_reads' (.dict h1 h2 h3 h4 h5) z1 z2 hr.g hu (fun _ _ e => e) (fun h' t tk hk => ⟨.str _, H, I.kept hk, ⟨_, rfl⟩, q⟩) z4
theorem cal_repr {K : PySem.W.Frag} : CalD K (rRepr K) cRepr := fun F H ms vs xs P Q R r h q => by
  match xs, r, h with
  | [d], .cons rd .nil, h => exact ⟨F, _, d, rfl, R.sub, R.one, rd, h.1, q _ ms _ F H h.2 R Stp.refl (.str _)⟩
inductive Ty where
  | non | bool | int | str | list | tuple | dict
  deriving DecidableEq
def Ty.nm : Ty → String
  | .non => "NoneType"
  | .bool => "bool"
  | .int => "int"
  | .str => "str"
  | .list => "list"
  | .tuple => "tuple"
  | .dict => "dict"
def tyD (d : D) : Option Ty := match d with
  | .non => some .non
  | .bl _ => some .bool
  | .int _ => some .int
  | .str _ => some .str
  | .lst _ => some .list
  | .tup _ => some .tuple
  | .edic => some .dict
  | _ => none
def subT (a b : Ty) : Bool := decide (a = b) || (decide (a = .bool) && decide (b = .int))
theorem subT_ok : ∀ a b : Ty, b ≠ .non → kitB a.nm b.nm = some (subT a b) := by
  intro a b h
  cases a <;> cases b <;> first | exact absurd rfl h | decide +kernel
def dIsi (T : Ty) (de : DE) : DE := fun ds ms P => de ds ms fun d m => match tyD d with
  | some a => P (.bl (subT a T)) m
  | none => False
theorem tyX_of {K : PySem.W.Frag} {F H : Hp} {ms : MS} {v : V} {d : D} {a : Ty} (R : Rel K F H ms) (r : DR K F v d) (h : tyD d = some a) : TyX K H v (.type a.nm) := by
  cases r with
  | non => cases h; exact .base .non
  | bl b => cases h; exact .base (.bl b)
  | int i => cases h; exact .base (.int i)
  | str x => cases h; exact .base (.str x)
  | lst ha hs => cases h; exact .base (.lst (R.sub _ _ ha))
  | tup ha hs =>
    cases h
    rcases R.sub.sqT ha with (z | ⟨o, z⟩) | ⟨o, its, n, z1, z2, _⟩
    · exact .base (.tup z)
    · exact .fTuple z
    · exact .kTuple z1 z2
  | edic ha => cases h; exact .base (.dK (R.sub _ _ ha))
  | _ => cases h
theorem pd_isi {X : Cx} {e : Expr} {de : DE} {x : Str} {p p2 pos : Pos} (T : Ty) (hT : T ≠ .non) (hg : Gl X "isinstance") (hm : X.mg "isinstance" = none) (hg2 : Gl X x) (hm2 : X.mg x = none) (hv : bootBuiltins x = some (.type T.nm)) (hn : x ≠ "__name__") (hd : (x == ("__debug__" : Str)) = false)
    (h : PD X e de) (he : starEach [e, .Name x p2] X.env = (false, eval e X.env) :: starEach [.Name x p2] X.env := by rfl) (hpl : (backTo pos (starEach [.Name x p2] X.env)).any (·.1) = false := by rfl) :
    PD X (.Call (.Name "isinstance" p) [e, .Name x p2] [] pos) (dIsi T de) :=
  peImp (pe_callB call_isi hg hm (by decide +kernel) (pa_cons h (pa_cons (pe_bltn (v := .ty T.nm) hg2 hm2 hv rfl hn hd) pa_nil) he) (by decide) (by decide) he hpl) fun σ H Q ⟨F, ds, ms, P, R, S, h1, h2⟩ =>
    ⟨F, ds, ms, _, R, S, h1, fun d m v F1 H1 p1 R1 s1 r1 => by
      cases e1 : tyD d with
      | none => rw [e1] at p1; exact p1.elim
      | some a =>
        rw [e1] at p1
        exact ⟨v, .ty T.nm, .type a.nm, .type T.nm, _, rfl, .ty _, tyX_of R1 r1 e1, kit_ty (subT_ok a T hT), h2 _ m _ F1 H1 p1 R1 s1 (.bl _)⟩⟩
abbrev DO := DS → MS → (Option Int → MS → Prop) → Prop
def liftO (K : PySem.W.Frag) (t : DO) : TO := fun σ H Q => ∃ F ds ms P, Rel K F H ms ∧ Sl K F σ ds ∧ t ds ms P ∧ ∀ o ms' F' H', P o ms' → Rel K F' H' ms' → Stp F H ms F' H' ms' → Q o H'
abbrev PDO (X : Cx) (e : Option Expr) (t : DO) : Prop := PO X e (liftO X.K t)
theorem poImp {X : Cx} {e : Option Expr} {t t' : TO} (h : PO X e t) (hi : ∀ σ H Q, t' σ H Q → t σ H Q) : PO X e t' := ⟨fun pins s σ H Q I hq => h.run pins s σ H Q I (hi σ H Q hq)⟩
def oNone : DO := fun _ ms P => P none ms
def oSome (de : DE) : DO := fun ds ms P => de ds ms fun d m => match d with
  | .int i => P (some i) m
  | _ => False
def cutL {α : Type} (xs : List α) (lo hi : Option Int) : List α := (xs.drop (HT.sIx xs.length 0 lo)).take (HT.sIx xs.length xs.length hi - HT.sIx xs.length 0 lo)
abbrev SF := D → Option Int → Option Int → MS → (D → MS → Prop) → Prop
def fSl : SF := fun x lo hi ms P => match x with
  | .str z => z.length ≤ sizeLine ∧ P (.str (cutS z lo hi)) ms
  | .tup xs => P (.tup (cutL xs lo hi)) ms
  | _ => (match asL x ms with
    | some xs => P (.lst (cutL xs lo hi)) ms
    | none => False)
def dSl (de : DE) (lo hi : DO) : DE := fun ds ms P => de ds ms fun x m1 => lo ds m1 fun l m2 => hi ds m2 fun u m3 => fSl x l u m3 P
section
variable {X : Cx} {K : PySem.W.Frag} {e : Expr} {de : DE} {lo hi : Option Expr} {tl th : DO} {p2 pos : Pos} {F : Hp}
theorem pdo_none : PDO X none oNone := poImp po_none fun σ H Q ⟨F, ds, ms, P, R, S, h1, h2⟩ => h2 none ms F H h1 R Stp.refl
theorem pdo_some (h : PD X e de) : PDO X (some e) (oSome de) := poImp (po_some h) fun σ H Q ⟨F, ds, ms, P, R, S, h1, h2⟩ =>
  ⟨F, ds, ms, _, R, S, h1, fun d m v F1 H1 p1 R1 s1 r1 => by
    cases r1 with
    | int i => exact ⟨i, rfl, h2 _ m F1 H1 p1 R1 s1⟩
    | _ => exact p1.elim⟩
theorem DRs.cut {vs : List V} {xs : List D} (r : DRs K F vs xs) (l u : Option Int) : DRs K F (cutV vs l u) (cutL xs l u) := by
  unfold cutV cutL
  rw [r.length]
  exact (r.drop _).take _
def rSlD (K : PySem.W.Frag) : V → Option Int → Option Int → Hp → VK → Prop := fun x l u H Q => rSlL K x l u H Q ∨ (rSlS x l u H Q ∨ rSlA K x l u H Q)
theorem sl_D : SlR X (rSlD X.K) := sl_list.or (sl_str.or sl_tupA)
theorem pd_slice (he : PD X e de) (hl : PDO X lo tl) (hu : PDO X hi th) : PD X (.Subscript e (.Slice lo hi none p2) pos) (dSl de tl th) := peImp (pe_slice sl_D he hl hu) fun σ H Q ⟨F, ds, ms, P, R, S, h1, h2⟩ =>
  ⟨F, ds, ms, _, R, S, h1, fun x m1 v F1 H1 p1 R1 s1 r1 => ⟨F1, ds, m1, _, R1, S.mono s1.sub, p1, fun l m2 F2 H2 p2 R2 s2 => ⟨F2, ds, m2, _, R2, S.mono (s1.trans s2).sub, p2, fun u m3 F3 H3 p3 R3 s3 => by
    have s13 := (s1.trans s2).trans s3
    have r3 := (r1.mono s2.sub).mono s3.sub
    have lst : ∀ {xs : List D}, asL x m3 = some xs → P (.lst (cutL xs l u)) m3 → rSlD X.K v l u H3 Q := by
      intro xs e1 hp
      obtain ⟨a, ws, rfl, z1, z2⟩ := R3.asL r3 e1
      exact .inl ⟨a, ws, rfl, z1, fun p hp2 => h2 _ m3 _ _ _ hp (R3.new hp2) (s13.trans (Stp.new R3 hp2)) (R3.newLst hp2 (z2.cut l u))⟩
    cases r3 with
    | str z => exact .inr (.inl ⟨z, rfl, p3.1, h2 _ m3 _ F3 H3 p3.2 R3 s13 (.str _)⟩)
    | tup ha hs =>
      refine .inr (.inr ⟨_, _, rfl, R3.sub.sqT ha, fun e => ?_, fun _ p hp2 => h2 _ m3 _ _ _ p3 (R3.new hp2) (s13.trans (Stp.new R3 hp2)) (R3.newTup hp2 (hs.cut l u))⟩)
      have p3 : P (.tup (cutL _ l u)) m3 := p3
      unfold cutL at p3
      rw [hs.length] at e
      rw [e.1, e.2, List.drop_zero, Nat.sub_zero, List.take_length] at p3
      exact h2 _ m3 _ F3 H3 p3 R3 s13 (.tup ha hs)
    | lst ha hs => exact lst rfl p3
    | fro ha hs => exact lst rfl p3
    | opq _ =>
      unfold fSl at p3
      simp only at p3
      cases e1 : asL (.opq v) m3 with
      | none => rw [e1] at p3; exact p3.elim
      | some xs => rw [e1] at p3; exact lst e1 p3
    | _ => exact p3.elim⟩⟩⟩
end
end DL
namespace DL
open PySem PySem.Spec PyProof.Rows L2
theorem bnd_of {K : PySem.W.Frag} {x qual : Str} {st : Stmt} {f : Addr} {fd : FuncData} {ps ks : List Str} {n : Nat} {is : List Nat} (F : Fun K x qual st f fd)
    (h : ∀ (kV doc pm : Value) (an : Option Addr) (cdv ct : Value) (us ws : List Value), us.length = n → ws.length = ks.length →
      bindArgs (PySem.W.fnOf x qual (defArgs st) (defBody st) (defScope st) .none kV doc pm an cdv ct) ⟨us, ks.zip ws⟩ = pure (ps.zip (pick is (us ++ ws)))) : Bnd K fd ps n ks is := by
  obtain ⟨oc, od, kV, doc, pm, an, cdv, ct, osl, e, lk, hcd⟩ := F.ex
  subst e
  exact ⟨fun s us ws _ h1 h2 => .of_eq (h kV doc pm an cdv ct us ws h1 h2)⟩
/-- the law's call at the heap behind the top -/
theorem lawG {P : Program} {w : World} {K : PySem.W.Frag} {mg mb : Str → Option Value} {k : Nat} {fa a : Addr} {fd : FuncData} {x : Str} {sp : Sp} {s1 : Shared} {vs : List Value} {ns : List Int}
    (KX : K.In s1.heap) (hns : s1.heap.Ns mainGlobals mg) (hb : s1.heap.Ns builtinsNs mb) (hk1 : K.lookup sysModules = none) (hs1 : s1.heap.NoSeer)
    (hbb : ∀ x : Str, x ≠ "__name__" → mb x = bootBuiltins x) (hlim : s1.heap.NoLimit) (hg : s1.gens = #[])
    (ha : s1.heap.get? a = some { cls := .type "list", data := .seq vs.toArray })
    (hi : IntsAre vs ns) (hl : ns.length ≤ sizeLine) (hr : Room k callerA)
    (G : ∀ base : Heap, K.In base → base.Ns mainGlobals mg → FnG P w K mg base k fa fd [x] sp)
    (hbind : ∀ (s : Shared) (u : Value), BindsTo s fd ⟨[u], []⟩ [(x, u)])
    (hsp : ∀ H : Hp, OneR K H → SqL K H a (ns.map V.int) → sp [.ref a] H (fun v _ => v = .bl true) E0) :
    codeAny (model P w) callerA (.call (.ref fa) ⟨[.ref a], []⟩)
      (fun r s' => r = .ok (.ret (.bool true)) ∧ OldK s1.heap s'.heap ∧ s'.os = s1.os ∧ AllBare s'.gens) s1 := by
  have rv : Vals (ns.map V.int) vs := vals_ints hi
  have lenV := hi.length
  obtain ⟨mm, ⟨om, esm, epm, hom, hdm, _⟩, _⟩ := hs1.mods
  have a1 : a ≠ sysModules := fun z => by
    rw [z, hom] at ha
    cases ha
    cases hdm
  have core : ∀ H : Hp, (∀ b, H b = none ∨ ∃ o u, H b = some (.frz o u)) → OneR K H → SqL K H a (ns.map V.int) → HOk P w H s1.heap → (∀ b, H b ≠ none → b = a ∨ b = sysModules) → (H a ≠ none → K.lookup a = none) →
      codeAny (model P w) callerA (.call (.ref fa) ⟨[.ref a], []⟩)
        (fun r s' => r = .ok (.ret (.bool true)) ∧ OldK s1.heap s'.heap ∧ s'.os = s1.os ∧ AllBare s'.gens) s1 := by
    intro H hO h1 hS hok hA hK
    have noA : ∀ {b : Addr} {o : Obj} {es : Array DictEntry} {ep : Nat}, b ≠ sysModules → s1.heap.get? b = some o → o.data = .dict es ep → H b = none := by
      intro b o es ep hb e d
      cases q : H b with
      | none => rfl
      | some u =>
        have e' : b = a := (hA b (by rw [q]; exact nofun)).resolve_right hb
        rw [e', ha] at e
        cases e
        cases d
    have nsK : ∀ {b : Addr} {m : Str → Option Value}, b ≠ sysModules → s1.heap.Ns b m → (hidT s1.heap H).Ns b m := by
      rintro b m hb ⟨o, es, ep, e, d, r⟩
      exact ⟨o, es, ep, hidT_get e (noA hb e d), d, r⟩
    have hKb : K.In (hidT s1.heap H) := by
      intro b o e
      refine hidT_get (KX b o e) ?_
      cases q : H b with
      | none => rfl
      | some u =>
        have nq : H b ≠ none := by rw [q]; exact nofun
        rcases hA b nq with e' | e'
        · rw [e'] at e nq
          rw [hK nq] at e
          cases e
        · rw [e', hk1] at e
          cases e
    have hM : Mod K mg (hidT s1.heap H) := by
      obtain ⟨mc, h1, h2⟩ := hlim
      exact ⟨hKb, nsK (by decide) hns, ⟨mb, nsK (by decide) hb, hbb⟩, ⟨mc, nsK (by decide) h1, h2⟩⟩
    have e0 : Env0 P w K mg (hidT s1.heap H) callerA [] s1 H := by
      refine ⟨rfl, hM, fun b o e => of_hidT e, Nat.le_of_eq (hidT_size _ _), trivial, fun b hb => ?_, hok, .of_eq hg⟩
      cases hb
    have run := (G _ hKb (nsK (by decide) hns)).go callerA [] s1 H ⟨[.ref a], []⟩ [.ref a] [.ref a] _ ⟨hr, rfl⟩ e0 (hbind s1 (.ref a)) (.cons rfl .nil) (hsp H h1 hS)
    refine codeAny_mono run fun r s' h => ?_
    match r, h with
    | .error e, h => exact h.elim
    | .ok .next, h => exact False.elim h
    | .ok .brk, h => exact False.elim h
    | .ok .cont, h => exact False.elim h
    | .ok (.ret u), h =>
      obtain ⟨v, H', os, bare, un, hok', r', q⟩ := h
      have q' : v = .bl true := q
      subst q'
      have r2 : u = Value.bool true := r'
      subst r2
      refine ⟨rfl, OldK.of_keep fun b o e => ?_, os, bare⟩
      cases q : H b with
      | none => exact un.keep b o e q (fun z => by cases z) (fun z => by cases z)
      | some u =>
        rcases hO b with z | ⟨ob, xs, z⟩
        · rw [q] at z; cases z
        · obtain ⟨e1, _⟩ := hok b _ z
          obtain ⟨e2, _⟩ := hok' b _ (un.frzs b ob _ z)
          rw [e] at e1
          cases e1
          exact e2
  have o1 : ∀ H : Hp, H sysModules = some (.frz om (.ext fun h => h.get? sysModules = some om)) → ObjOk P w H s1.heap sysModules (.frz om (.ext fun h => h.get? sysModules = some om)) := fun H _ =>
    ⟨hom, hom, ⟨om, hom⟩, fun h1 h2 z k => k _ z⟩
  cases hk : K.lookup a with
  | some o =>
    have e := KX a o hk
    rw [ha] at e
    cases e
    have hH : ∀ b u, (if b = sysModules then some (HO.frz om (.ext fun h => h.get? sysModules = some om)) else none) = some u → b = sysModules ∧ u = HO.frz om (.ext fun h => h.get? sysModules = some om) := by
      intro b u z
      by_cases hb : b = sysModules
      · rw [if_pos hb] at z; cases z; exact ⟨hb, rfl⟩
      · rw [if_neg hb] at z; cases z
    refine core (fun b => if b = sysModules then some (.frz om (.ext fun h => h.get? sysModules = some om)) else none) (fun b => ?_) ⟨hk1, om, _, if_pos rfl⟩ (.inr ⟨_, vs.toArray, _, hk, rfl, rfl, rfl, ?_, ?_⟩) (fun b u z => ?_) (fun b z => ?_) fun z => absurd (if_neg a1) z
    · by_cases hb : b = sysModules
      · exact .inr ⟨_, _, if_pos hb⟩
      · exact .inl (if_neg hb)
    · rw [List.size_toArray, lenV]; exact hl
    · rw [List.toList_toArray]; exact rv
    · obtain ⟨rfl, rfl⟩ := hH b u z
      exact o1 _ (if_pos rfl)
    · cases q : (if b = sysModules then some (HO.frz om (.ext fun h => h.get? sysModules = some om)) else none) with
      | none => exact absurd q z
      | some u => exact .inr (hH b u q).1
  | none =>
    have hH : ∀ b u, (if b = a then some (HO.frz { cls := .type "list", data := .seq vs.toArray } (.lst (ns.map V.int))) else if b = sysModules then some (HO.frz om (.ext fun h => h.get? sysModules = some om)) else none) = some u →
        (b = a ∧ u = HO.frz { cls := .type "list", data := .seq vs.toArray } (.lst (ns.map V.int))) ∨ (b = sysModules ∧ u = HO.frz om (.ext fun h => h.get? sysModules = some om)) := by
      intro b u z
      by_cases hb : b = a
      · rw [if_pos hb] at z; cases z; exact .inl ⟨hb, rfl⟩
      · rw [if_neg hb] at z
        by_cases hb2 : b = sysModules
        · rw [if_pos hb2] at z; cases z; exact .inr ⟨hb2, rfl⟩
        · rw [if_neg hb2] at z; cases z
    refine core (fun b => if b = a then some (.frz { cls := .type "list", data := .seq vs.toArray } (.lst (ns.map V.int))) else if b = sysModules then some (.frz om (.ext fun h => h.get? sysModules = some om)) else none) (fun b => ?_) ⟨hk1, om, _, (if_neg a1.symm).trans (if_pos rfl)⟩ (.inl (.inr ⟨_, if_pos rfl⟩)) (fun b u z => ?_) (fun b z => ?_) fun _ => hk
    · by_cases hb : b = a
      · exact .inr ⟨_, _, if_pos hb⟩
      · by_cases hb2 : b = sysModules
        · exact .inr ⟨_, _, (if_neg hb).trans (if_pos hb2)⟩
        · exact .inl ((if_neg hb).trans (if_neg hb2))
    · rcases hH b u z with ⟨rfl, rfl⟩ | ⟨rfl, rfl⟩
      · refine ⟨ha, ?_, vs, _, rv, ha⟩
        rw [List.length_map]; exact hl
      · exact o1 _ z
    · cases q : (if b = a then some (HO.frz { cls := .type "list", data := .seq vs.toArray } (.lst (ns.map V.int))) else if b = sysModules then some (HO.frz om (.ext fun h => h.get? sysModules = some om)) else none) with
      | none => exact absurd q z
      | some u => exact (hH b u q).imp (·.1) (·.1)
/-- what the head leaves, from the law's promise -/
theorem walkG {l : PySem.W.OpenLaw} {n k : Nat} {q : Program} {loose : List Str} {XP : (Str → Option Value) → Heap → Prop} {YP : World → Heap → Prop} {d : DefRec} {K : Params → PySem.W.Frag} {fs : FS} {x : Str}
    (hn : l.most = some n) (hn2 : n ≤ sizeLine) (hdf : d.params.defaults = []) (hr : Room k callerA) (hq : importsNone q = true) (hK1 : ∀ p : Params, (K p).lookup sysModules = none)
    (hY : ∀ (w : World) (h : Heap), YP w h → (K w.params).In h)
    (G : ∀ (w : World) (mg : Str → Option Value) (fa : Addr) (h : Heap), (K w.params).In h → h.Ns mainGlobals mg → mg d.name = some (.ref fa) →
      ∃ fd : FuncData, (∀ (s : Shared) (u : Value), BindsTo s fd ⟨[u], []⟩ [(x, u)]) ∧
        ∀ base : Heap, (K w.params).In base → base.Ns mainGlobals mg → FnG l.prog w (K w.params) mg base k fa fd [x] (spD (K w.params) fs))
    (hsp : ∀ ns : List Int, ns.length ≤ n → fs [.fro (ns.map D.int)] [] (fun v _ => v = .bl true)) :
    PySem.W.WalkO q loose XP YP l.row.toRowW d [] (fun f vs => PySem.call f vs) := by
  refine Att.attach_call hn hdf ?_
  intro w s0 s1 mg mb fa o pm cd doc a vs ns Gr Y ho hd hcd hmg hobj hints hlen hg
  have KX := hY w _ Y
  obtain ⟨fd, hb, hF⟩ := G w mg fa _ KX Gr.T.g hmg
  refine lawG KX Gr.T.g Gr.T.b (hK1 _) (Gr.T.seer hq) Gr.T.builtins Gr.T.nolimit hg hobj hints (Nat.le_trans hlen hn2) hr hF hb fun H h1 hS => ?_
  refine ⟨H, [.fro (ns.map D.int)], [], _, ⟨Sub.refl H, fun p hp => (by cases hp), List.nodup_nil, h1⟩, .cons (.fro hS (DRs.ints ns)) .nil, hsp ns hlen, ?_⟩
  intro e m v F' H' z R s r
  subst z
  cases r
  rfl
end DL
namespace DL
open PySem PySem.Spec PyProof.Rows L2
abbrev ZK := Str → List Str → List D → MS → Prop
abbrev FX := List D → MS → (D → MS → Prop) → ZK → Prop
def spX (K : PySem.W.Frag) (fs : FX) : Sp := fun vs H Q E => ∃ F ds ms P Z, Rel K F H ms ∧ DRs K F vs ds ∧ fs ds ms P Z ∧
  (∀ d ms' v F' H', P d ms' → Rel K F' H' ms' → Stp F H ms F' H' ms' → DR K F' v d → Q v H') ∧
  (∀ c ns xs ms' cv d ws F' H', Z c ns xs ms' → Rel K F' H' ms' → Stp F H ms F' H' ms' → PySem.W.nsIn K mainGlobals c = some (some cv) → XD F' d ns ws → DRs K F' ws xs → E cv d H')
structure FnX (P : Program) (w : World) (K : PySem.W.Frag) (mg : Str → Option Value) (base : Heap) (k : Nat) (f : Addr) (fd : FuncData) (ps : List Str) (sp : Sp) : Prop where
  len : ∀ vs H Q E, sp vs H Q E → vs.length = ps.length
  go : ∀ (A : Around) (outer : List Env) (s : Shared) (H : Hp) (args : Args) (us : List Value) (vs : List V) (Q : VK) (E : XK), RoomG k A → Env0 P w K mg base A outer s H →
    BindsTo s fd args (ps.zip us) → Vals vs us → sp vs H Q E → codeAny (model P w) A (.call (.ref f) args) (CR (L2.CX P w) outer P w H s Q E) s
/-- where nothing is raised -/
theorem FnX.plain {P : Program} {w : World} {K : PySem.W.Frag} {mg : Str → Option Value} {base : Heap} {k : Nat} {f : Addr} {fd : FuncData} {ps : List Str} {fx : FX} {fs : FS}
    (F : FnX P w K mg base k f fd ps (spX K fx)) (h : ∀ ds ms P, fs ds ms P → fx ds ms P fun _ _ _ _ => False) : FnG P w K mg base k f fd ps (spD K fs) := by
  have hc : ∀ vs H Q E, spD K fs vs H Q E → spX K fx vs H Q E0 := fun vs H Q E ⟨F0, ds, ms, P0, R, r, q, z⟩ => ⟨F0, ds, ms, P0, _, R, r, h _ _ _ q, z, fun _ _ _ _ _ _ _ _ _ y => y.elim⟩
  refine ⟨fun vs H Q E q => F.len vs H Q E0 (hc vs H Q E q), fun A outer s H args us vs Q hr e0 hb r q => ?_⟩
  refine codeAny_mono (F.go A outer s H args us vs Q E0 hr e0 hb r (hc vs H Q E0 q)) fun r s' z => ?_
  match r, z with
  | .ok (.ret _), z => exact z
  | .ok .next, z => exact z
  | .ok .brk, z => exact z
  | .ok .cont, z => exact z
  | .error e, z =>
    obtain ⟨_, _, _, _, _, _, _, _, _, _, _, _, y⟩ := z
    exact y.elim
def liftX (K : PySem.W.Frag) (W : WX) (t : DTS) : TS := fun D σ H => ∃ F ds ms E, Rel K F H ms ∧ Sl K F σ ds ∧ t E ds ms ∧
  (∀ ds' ms' σ' F' H', E.nx ds' ms' → Rel K F' H' ms' → Stp F H ms F' H' ms' → Sl K F' σ' ds' → D.nx σ' H') ∧
  (∀ d ms' v F' H', E.rt d ms' → Rel K F' H' ms' → Stp F H ms F' H' ms' → DR K F' v d → D.rt v H') ∧
  (∀ ds' ms' σ' F' H', E.bk ds' ms' → Rel K F' H' ms' → Stp F H ms F' H' ms' → Sl K F' σ' ds' → D.bk σ' H') ∧
  (∀ ds' ms' σ' F' H', E.ct ds' ms' → Rel K F' H' ms' → Stp F H ms F' H' ms' → Sl K F' σ' ds' → D.ct σ' H') ∧
  (∀ c ns xs ds' ms' cv d ws σ' F' H', E.ex c ns xs ds' ms' → Rel K F' H' ms' → Stp F H ms F' H' ms' → Sl K F' σ' ds' → PySem.W.nsIn K mainGlobals c = some (some cv) → XD F' d ns ws → DRs K F' ws xs → W cv d σ' H')
abbrev PX (X : Cx) (W : WX) (st : Stmt) (t : DTS) : Prop := PS X st (liftX X.K W t)
abbrev PXs (X : Cx) (W : WX) (st : List Stmt) (t : DTS) : Prop := PSs X st (liftX X.K W t)
section
variable {X : Cx} {W : WX} {st : Stmt} {rest : List Stmt} {t u : DTS} {c : Expr} {dt : DT} {pos : Pos}
/-- a statement that raises nothing -/
theorem px_of (h : PDS X st t) : PX X W st t := psImp h fun D σ H ⟨F, ds, ms, E, R, S, h, n, r, k, q, _⟩ => ⟨F, ds, ms, E, R, S, h, n, r, k, q⟩
theorem px_nil : PXs X W [] dNext := pssImp pss_nil fun D σ H ⟨F, ds, ms, E, R, S, h, n, _⟩ => n ds ms σ F H h R Stp.refl S
theorem liftX_seq {K : PySem.W.Frag} : ∀ D σ H, liftX K W (dSeq t u) D σ H → tSeq (liftX K W t) (liftX K W u) D σ H := fun D σ H ⟨F, ds, ms, E, R, S, h, n, r, k, q, x⟩ =>
  ⟨F, ds, ms, { E with nx := u E }, R, S, h, fun ds1 m1 σ1 F1 H1 h1 R1 s1 S1 => ⟨F1, ds1, m1, E, R1, S1, h1,
    fun ds2 m2 σ2 F2 H2 h2 R2 s2 S2 => n ds2 m2 σ2 F2 H2 h2 R2 (s1.trans s2) S2, fun d m2 v F2 H2 h2 R2 s2 r2 => r d m2 v F2 H2 h2 R2 (s1.trans s2) r2,
    fun ds2 m2 σ2 F2 H2 h2 R2 s2 S2 => k ds2 m2 σ2 F2 H2 h2 R2 (s1.trans s2) S2, fun ds2 m2 σ2 F2 H2 h2 R2 s2 S2 => q ds2 m2 σ2 F2 H2 h2 R2 (s1.trans s2) S2,
    fun c ns xs ds2 m2 cv d ws σ2 F2 H2 h2 R2 s2 S2 => x c ns xs ds2 m2 cv d ws σ2 F2 H2 h2 R2 (s1.trans s2) S2⟩, r, k, q, x⟩
theorem px_cons (h1 : PX X W st t) (h2 : PXs X W rest u) : PXs X W (st :: rest) (dSeq t u) := pssImp (pss_cons h1 h2) liftX_seq
theorem px_one (h1 : PX X W st t) : PXs X W [st] t := pss_one h1
theorem px_if {x y : List Stmt} (hc : PDT X c dt) (ha : PXs X W x t) (hb : PXs X W y u) : PX X W (.If c x y pos) (dIfS dt t u) := psImp (ps_if hc ha hb) fun D σ H ⟨F, ds, ms, E, R, S, h, n, r, k, q, x⟩ =>
  ⟨F, ds, ms, _, R, S, h, fun b m F1 H1 p1 R1 s1 => by
    have mk : ∀ {w : DTS}, w E ds m → liftX X.K W w D σ H1 := fun {w} hw => ⟨F1, ds, m, E, R1, S.mono s1.sub, hw,
      fun ds2 m2 σ2 F2 H2 h2 R2 s2 S2 => n ds2 m2 σ2 F2 H2 h2 R2 (s1.trans s2) S2, fun d m2 v F2 H2 h2 R2 s2 r2 => r d m2 v F2 H2 h2 R2 (s1.trans s2) r2,
      fun ds2 m2 σ2 F2 H2 h2 R2 s2 S2 => k ds2 m2 σ2 F2 H2 h2 R2 (s1.trans s2) S2, fun ds2 m2 σ2 F2 H2 h2 R2 s2 S2 => q ds2 m2 σ2 F2 H2 h2 R2 (s1.trans s2) S2,
      fun c ns xs ds2 m2 cv d ws σ2 F2 H2 h2 R2 s2 S2 => x c ns xs ds2 m2 cv d ws σ2 F2 H2 h2 R2 (s1.trans s2) S2⟩
    cases b with
    | true => exact mk p1
    | false => exact mk p1⟩
/-- raise X('..'), X an own class without an __init__ -/
def dRaise (c : Str) : DTS := fun E ds ms => E.ex c [] [] ds ms
end
section
variable {X : Cx} {W : WX} {k n : Nat} {f : Addr} {fd : FuncData} {ps ks : List Str} {is : List Nat} {sp : Sp} {fx : FX} {x : Str} {p pos kpos : Pos} {e : Expr} {es : List Expr} {aa : DA}
/-- f(..) as a statement -/
def dDoX (n : Nat) (is : List Nat) (fx : FX) (aa : DA) : DTS := fun E ds ms => aa ds ms fun xs m => xs.length = n ∧ fx (pick is xs) m (fun _ m' => E.nx ds m') fun c ns ys m' => E.ex c ns ys ds m'
end
end DL
namespace DL
open PySem PySem.Spec PyProof.Rows L2
theorem fnX_of {P : Program} {w : World} {K : PySem.W.Frag} {mg : Str → Option Value} {base : Heap} {k : Nat} {f : Addr} {fd : FuncData} {x qual : Str} {st : Stmt} {N ps : List Str} {fx : FX} {t : DTS}
    (F : Fun K x qual st f fd) (S : FnScope N ps (defScope st)) (len : ∀ ds ms Q Z, fx ds ms Q Z → ds.length = ps.length)
    (body : ∀ (cdv : Value) (A : Around) (outer : List Env) (s : Shared) (H : Hp) (E : XK), RoomG k (A.deeper (envOfC qual (defScope st) s.heap.objs.size f cdv)) →
      ∀ W : WX, Takes (cxOf (L2.CX P w) P w K mg base N qual (defScope st) f cdv A outer s H E) W → PXs (cxOf (L2.CX P w) P w K mg base N qual (defScope st) f cdv A outer s H E) W (defBody st) t)
    (sem : ∀ ds ms Q Z, fx ds ms Q Z → t { nx := fun _ m => Q .non m, rt := Q, ex := fun c ns xs _ m => Z c ns xs m } (startD N.length ds) ms) : FnX P w K mg base (k + 1) f fd ps (spX K fx) := by
  have hlen : ∀ vs H Q E, spX K fx vs H Q E → vs.length = ps.length := by
    rintro vs H Q E ⟨F0, ds, ms, P0, Z, R, r, h, _⟩
    rw [r.length]
    exact len ds ms P0 Z h
  refine ⟨hlen, ?_⟩
  intro A outer s H args us vs Q E hr e0 hb r hsp
  obtain ⟨oc, od, kV, doc, pm, an, cdv, ct, osl, rfl, lk, hcd⟩ := F.ex
  have hl := hlen _ _ _ _ hsp
  have KX : K.In s.heap := e0.mod.kin.keeps fun b o e => (e0.bs b o e).1
  have lim : s.heap.NoLimit := e0.mod.nolimit.keeps fun b o e => (e0.bs b o e).1
  have hkind : ∀ y ∈ ps.zip us, (defScope st).names.lookup y.1 = some .local ∨ ((defScope st).names.lookup y.1 = some .cell ∧
      ((cellsFrom (s.heap.objs.size + 1) (defScope st).names []).lookup y.1).isSome = true) := by
    rintro ⟨n, v⟩ hy
    exact (S.par n (List.of_mem_zip hy).1).imp id fun q => ⟨q, PySem.W.cellsFrom_some _ _ _ (.inl q)⟩
  have hr2 : RoomG k (A.deeper (envOfC qual (defScope st) s.heap.objs.size f cdv)) := ⟨hr.r.deeper _, hr.g⟩
  refine codeAny_call_function hr.r.depth (KX _ _ lk) rfl S.co S.gen rfl (PySem.W.codeRec_of KX hcd) (hb _ _ _ _ ?_)
  refine wpAny_newFunctionEnv_cells S.kind hkind fun env he s1 x1 => ?_
  subst he
  refine ⟨lim.keeps x1.toInCall.keep, codeAny_func ?_⟩
  have I : Inv (cxOf (L2.CX P w) P w K mg base N qual (defScope st) f cdv A outer s H E) [] (L2.start N vs) H s1 := inv_start S hr.r.hd e0 hl r x1
  have tk : Takes (cxOf (L2.CX P w) P w K mg base N qual (defScope st) f cdv A outer s H E) fun cls d _ H' => E cls d H' := takes_of rfl rfl rfl rfl
  have hq : liftX K (fun cls d _ H' => E cls d H') t { nx := fun _ H' => Q .non H', rt := Q } (L2.start N vs) H := by
    obtain ⟨F0, ds, ms, P0, Z, R, rd, h, q, z⟩ := hsp
    refine ⟨F0, startD N.length ds, ms, _, R, sl_start rd (by rw [hl, ← S.pre]; exact List.length_take_le' _ _), sem ds ms P0 Z h, ?_, ?_, ?_, ?_, ?_⟩
    · exact fun ds' ms' σ' F' H' y R' s' S' => q .non ms' .non F' H' y R' s' .non
    · exact fun d ms' v F' H' y R' s' r' => q d ms' v F' H' y R' s' r'
    · exact fun _ _ _ _ _ y _ _ _ => y.elim
    · exact fun _ _ _ _ _ y _ _ _ => y.elim
    · exact fun c ns xs ds' ms' cv d ws σ' F' H' y R' s' S' hn hx hd => z c ns xs ms' cv d ws F' H' y R' s' hn hx hd
  refine wpAny_mono ((body cdv A outer s H E hr2 _ tk).run [] s1 (L2.start N vs) H _ I hq) (fun fl s' hs => ?_) fun e s' hs => hs
  match fl, hs with
  | .ret u, hs =>
    obtain ⟨v, σ', H', J, rv, q⟩ := hs
    exact ⟨v, H', J.os, J.bare, J.base, J.hok, rv, q⟩
  | .next, hs =>
    obtain ⟨σ', H', J, q⟩ := hs
    exact ⟨V.non, H', J.os, J.bare, J.base, J.hok, rfl, q⟩
  | .brk, hs => obtain ⟨_, _, _, q⟩ := hs; exact False.elim q
  | .cont, hs => obtain ⟨_, _, _, q⟩ := hs; exact False.elim q
end DL
namespace DL
open PySem PySem.Spec PyProof.Rows L2
theorem Sl.off {K : PySem.W.Frag} {F : Hp} {o : Option V} : ∀ {σ : L2.St} {ds : DS} (i : Nat), Sl K F σ ds → Sl K F (σ.set i o) (ds.set i none)
  | _, _, i, .nil => by cases i <;> exact .nil
  | _, _, 0, .sm _ r => .nn r
  | _, _, 0, .nn r => .nn r
  | _, _, i + 1, .sm q r => .sm q (Sl.off i r)
  | _, _, i + 1, .nn r => .nn (Sl.off i r)
/-- try: body, except x as n: y = n; ml: of each class that may come whether the clause takes it -/
def dTry (ml : List (Str × Bool)) (i j : Nat) (tb : DTS) : DTS := fun E ds ms => tb { E with ex := fun c ns xs ds' ms' => match ml.lookup c with
  | some true => E.nx ((setSlot ds' j (.exc c ns xs)).set i none) ms'
  | some false => E.ex c ns xs ds' ms'
  | none => False } ds ms
def dTry0 (ml : List (Str × Bool)) (i j : Nat) (tb : DTS) : DTS := fun E ds ms => dTry ml i j tb { E with ex := fun _ _ _ _ _ => False } ds ms
end DL
namespace DL
open PySem PySem.Spec PyProof.Rows L2
def nonD : D → Option Bool
  | .non => some true
  | .opq (.ref _) => some false
  | .opq _ => none
  | _ => some false
def fIsB (neg : Bool) : OF := fun x y ms P => match y with
  | .bl b => (match x with
    | .bl a => P (.bl (Bool.xor neg (decide (a = b)))) ms
    | _ => False)
  | .non => (match nonD x with
    | some z => P (.bl (Bool.xor neg z)) ms
    | none => False)
  | _ => False
def fIs : OF := fIsB false
def fNotIs : OF := fIsB true
def rIsD (neg : Bool) : R2 := fun x y H Q => (∃ a b, x = .bl a ∧ y = .bl b ∧ Q (.bl (Bool.xor neg (decide (a = b)))) H) ∨ (y = .non ∧ Q (.bl (Bool.xor neg (decide (x = .non)))) H)
theorem op_notIsD {X : Cx} : OpR X (compareOp .IsNot) (rIsD true) := by
  intro pins s σ H x y v u Q I rx ry h
  rcases h with ⟨a, b, e1, e2, q⟩ | ⟨e, q⟩
  · exact op_isnot_bl pins s σ H x y v u Q I rx ry ⟨a, b, e1, e2, by simpa using q⟩
  · exact op_notN pins s σ H x y v u Q I rx ry ⟨e, by simpa using q⟩
theorem nonD_ok {K : PySem.W.Frag} {F : Hp} {x : V} {d : D} {b : Bool} (r : DR K F x d) (h : nonD d = some b) : decide (x = .non) = b := by
  cases r with
  | opq => cases x <;> cases h <;> first | rfl | decide | simp
  | _ => cases h <;> first | rfl | decide | simp
theorem opd_isB {K : PySem.W.Frag} {neg : Bool} : OpD K (rIsD neg) (fIsB neg) := fun F H ms x y dx dy P Q R rx ry h q => by
  cases ry with
  | bl b =>
    cases rx with
    | bl a => exact .inl ⟨a, b, rfl, rfl, q _ ms _ F H h R Stp.refl (.bl _)⟩
    | _ => exact False.elim h
  | non =>
    cases e : nonD dx with
    | none => unfold fIsB at h; simp only [e] at h
    | some z =>
      unfold fIsB at h
      simp only [e] at h
      refine .inr ⟨rfl, ?_⟩
      rw [nonD_ok rx e]
      exact q _ ms _ F H h R Stp.refl (.bl _)
  | _ => exact False.elim h
theorem opd_notIs {K : PySem.W.Frag} : OpD K (rIsD true) fNotIs := opd_isB
def InOk (x : D) (ys : List D) (neg : Bool) (ms : MS) (P : D → MS → Prop) : Prop := ∃ p ps, toPy x = some p ∧ toPys ys = some ps ∧ p.canLay0 = true ∧ p.depth ≤ 60 ∧ PyData.canLayAll0 ps = true ∧ P (.bl (Bool.xor neg (ps.any fun z => PyData.eqv z p))) ms
def fInB (neg : Bool) : OF := fun x y ms P => match y with
  | .lst ys => InOk x ys neg ms P
  | .tup ys => InOk x ys neg ms P
  | _ => False
def fIn : OF := fInB false
def fNotIn : OF := fInB true
def rInF (K : PySem.W.Frag) (neg : Bool) : R2 := fun x y H Q => ∃ F dx dy ms P, Sub F H ∧ DR K F x dx ∧ DR K F y dy ∧ fInB neg dx dy ms P ∧ ∀ b, P (.bl b) ms → Q (.bl b) H
theorem op_inF {X : Cx} (hu : X.A.units + 64 < cLine) : OpR X (compareOp .In) (rInF X.K false) := by
  intro pins s σ H x y v u Q I rx ry h
  obtain ⟨F, dx, dy, ms, P, sb, hx, hy, h, q⟩ := h
  cases hy with
  | lst ha hs =>
    obtain ⟨p, ps, e1, e2, c1, c2, c3, h⟩ := h
    obtain ⟨as, r1⟩ := DR.reads I sb dx p x v hx e1 rx
    obtain ⟨bs, r2⟩ := DR.reads I sb (.lst _) (.list ps) _ u (.lst ha hs) (by unfold toPy; rw [e2]; rfl) ry
    exact SeqAt.in_list_reads r2 r1 c3 c1 (by omega) ⟨.bl _, H, I, rfl, q _ (by simpa using h)⟩
  | tup ha hs =>
    obtain ⟨p, ps, e1, e2, c1, c2, c3, h⟩ := h
    obtain ⟨as, r1⟩ := DR.reads I sb dx p x v hx e1 rx
    obtain ⟨bs, r2⟩ := DR.reads I sb (.tup _) (.tuple ps) _ u (.tup ha hs) (by unfold toPy; rw [e2]; rfl) ry
    exact SeqAt.in_tuple_reads r2 r1 c3 c1 (by omega) ⟨.bl _, H, I, rfl, q _ (by simpa using h)⟩
  | _ => exact False.elim h
theorem op_notInF {X : Cx} (hu : X.A.units + 64 < cLine) : OpR X (compareOp .NotIn) (rInF X.K true) := by
  intro pins s σ H x y v u Q I rx ry h
  obtain ⟨F, dx, dy, ms, P, sb, hx, hy, h, q⟩ := h
  cases hy with
  | lst ha hs =>
    obtain ⟨p, ps, e1, e2, c1, c2, c3, h⟩ := h
    obtain ⟨as, r1⟩ := DR.reads I sb dx p x v hx e1 rx
    obtain ⟨bs, r2⟩ := DR.reads I sb (.lst _) (.list ps) _ u (.lst ha hs) (by unfold toPy; rw [e2]; rfl) ry
    exact SeqAt.notIn_list_reads r2 r1 c3 c1 (by omega) ⟨.bl _, H, I, rfl, q _ (by simpa using h)⟩
  | tup ha hs =>
    obtain ⟨p, ps, e1, e2, c1, c2, c3, h⟩ := h
    obtain ⟨as, r1⟩ := DR.reads I sb dx p x v hx e1 rx
    obtain ⟨bs, r2⟩ := DR.reads I sb (.tup _) (.tuple ps) _ u (.tup ha hs) (by unfold toPy; rw [e2]; rfl) ry
    exact SeqAt.notIn_tuple_reads r2 r1 c3 c1 (by omega) ⟨.bl _, H, I, rfl, q _ (by simpa using h)⟩
  | _ => exact False.elim h
theorem opd_inB {K : PySem.W.Frag} {neg : Bool} : OpD K (rInF K neg) (fInB neg) := fun F H ms x y dx dy P Q R rx ry h q =>
  ⟨F, dx, dy, ms, P, R.sub, rx, ry, h, fun b z => q _ ms _ F H z R Stp.refl (.bl _)⟩
theorem opd_in {K : PySem.W.Frag} : OpD K (rInF K false) fIn := opd_inB
theorem opd_notIn {K : PySem.W.Frag} : OpD K (rInF K true) fNotIn := opd_inB
def dEdic : DE := fun _ ms P => P .edic ms
end DL
namespace DL
open PySem PySem.Spec PyProof.Rows L2
def dIsE (ml : List (Str × Bool)) (de : DE) : DE := fun ds ms P => de ds ms fun d m => match d with
  | .exc c _ _ => (match ml.lookup c with
    | some b => P (.bl b) m
    | none => False)
  | _ => False
def dFld (ml : List (Str × Bool)) (f : Str) (de : DE) : DE := fun ds ms P => de ds ms fun d m => match d with
  | .exc c ns xs => (ml.lookup c).isSome = true ∧ ∃ y, (ns.zip xs).lookup f = some y ∧ P y m
  | _ => False
end DL
namespace DL
open PySem PySem.Spec PyProof.Rows L2
section
open PySem.W PySem.Calls
structure XB (newId initId : String) (bmB : List Value) : Prop where
  made : ∀ {prog : Program} {w : World} {A : Around} {R : Result → Shared → Prop} {h : Heap} {g : Array GenState} {d : Drawn} {t : Nat} {os : OsState} {nm q : Str} {C N : Addr} {bs bm : List Value} {hdct : Bool} {sn : List Str} {sub : List Value} {ab : Bool} {col : Option Bool} {dd : Option Addr} {k0 k1 k2 k3 k5 : Option Value} {rest : List Value} {fI : Addr}, (∀ X : String, bm.contains (.type X) = bmB.contains (.type X)) → h.get? C = some (excClassObj nm q C N bs bm hdct sn sub ab col dd k0 k1 k2 k3 k5 newId) → PySem.W.Looks (model prog w) h (typeLookup (.ref C) "__init__") (some (.ref fI)) → (∀ self, PySem.W.Looks (model prog w) h (bindSpecial (.ref fI) self) (.ref fI, [self])) → rest.length ≤ sizeLine →
    codeAny (model prog w) (A.under (.builtin "type.__call__" ⟨.ref C :: rest, []⟩)) (.call (.ref fI) ⟨.ref (h.objs.size + 1) :: rest, []⟩) (PySem.W.InitBack (h.objs.size + 1) R) ⟨(h.push (PySem.W.kdv_tup rest)).push (PySem.PX.excO C h.objs.size), g, d, t, os⟩ → codeAny (model prog w) A (.call (.ref C) ⟨rest, []⟩) R ⟨h, g, d, t, os⟩
  bound : ∀ {M : Model} {A : Around} {E : Value → Shared → Prop} {Q : Unit → Shared → Prop} {h : Heap} {g : Array GenState} {d : Drawn} {t : Nat} {os : OsState} {nm q : Str} {C N e : Addr} {oe : Obj} {bs bm : List Value} {hdct : Bool} {sn : List Str} {sub : List Value} {ab : Bool} {col : Option Bool} {dd : Option Addr} {k0 k1 k2 k3 k5 : Option Value} {rest : List Value}, h.get? C = some (excClassObj nm q C N bs bm hdct sn sub ab col dd k0 k1 k2 k3 k5 newId) → h.get? e = some oe → oe.cls = .ref C → Q () ⟨h, g, d, t, os⟩ → wpAny M A (checkBoundCall initId ⟨.ref e :: rest, []⟩) Q E ⟨h, g, d, t, os⟩
  plain : plainId initId = true
  entry : entryFor table initId = some Builtin.«BaseException.__init__»
theorem xb_of {B newId initId : String} {bmB : List Value} (F : ExcBaseFacts B newId initId bmB) : XB newId initId bmB := ⟨fun hT hC hi hb hr hq => PySem.PX.call_own F hT hC hi hb hr hq, fun hC he hc hq => check_bound_init F.toExcCallFacts hC he hc hq, F.init.plain, F.initEntry⟩
end
section
open PySem.W PySem.Calls
variable {prog : Program} {w : World} {A : Around} {E : Value → Shared → Prop} {K : Frag} {C x : Addr} {B newId initId : String} {bmB : List Value} {hp : Heap} {g : Array GenState} {d : Drawn} {t : Nat} {os : OsState} {fv : Array Value} {name : Str} {v : Value} {Q : Unit → Shared → Prop}
theorem xst_new {t1 : Addr} (SF : StoreFacts B bmB "object.__setattr__" "object") (X : K.In hp) (hx : hp.get? x = some (excObj C t1 none .none)) (hs : findIn K (.ref C) "__setattr__" = some (some (.builtin "object.__setattr__")))
    (ho : excOver K C bmB = true) (ht : takerIn K C name = some none) (hh : hasDictIn K C = true)
    (hq : ∀ h' tk' dx, (∀ b o, b ≠ x → hp.get? b = some o → h'.get? b = some o) → hp.objs.size ≤ dx → dx ≠ x → h'.get? x = some (excObj C t1 (some dx) .none) →
      h'.Ns1 dx (fun y => if y = name then some v else none) → Q () ⟨h', g, d, tk', os⟩) : wpAny (model prog w) A (setAttr (.ref x) name v) Q E ⟨hp, g, d, t, os⟩ := by
  refine set_plain (od := none) X ⟨hx, rfl, rfl, trivial⟩ hs ?_
  refine osa_openX (od := none) SF X ⟨hx, rfl, rfl, trivial⟩ ho ht fun b => ?_
  obtain ⟨cd, hc, hd'⟩ := any_some hh
  have hxs : x ≠ hp.objs.size := Nat.ne_of_lt (Heap.lt_size hx)
  refine wpAny_bind (wpAny_pure (wpAny_bind (instanceDict_exc hx (looks_clsIn X hc) hd' ?_)))
  refine HandSPX.store_in_new ?_ ?_
  · exact ⟨_, #[], _, (Heap.get?_update_ne _ _ _ _ hxs.symm).trans (Heap.get?_push_at rfl rfl), rfl, fun e he => absurd he (by simp), fun _ => rfl⟩
  · intro h' tk' hn' hsm
    have hx₁ : (hp.push (dictOf [] 0)).get? x = some (excObj C t1 none .none) := Heap.get?_push_of_some _ hx
    refine hq h' tk' hp.objs.size (fun b o hb ho => ?_) (Nat.le_refl _) hxs.symm ?_ hn'
    · exact (hsm.2 b (Nat.ne_of_lt (Heap.lt_size ho))).trans ((Heap.get?_update_ne _ _ _ _ hb).trans (Heap.get?_push_of_some _ ho))
    · exact (hsm.2 x hxs).trans (Heap.get?_update_self _ hx₁ rfl)
theorem xst_old {t1 dx : Addr} {m0 : Str → Option Value} {nl : List Str} (SF : StoreFacts B bmB "object.__setattr__" "object") (X : K.In hp) (hx : hp.get? x = some (excObj C t1 (some dx) .none)) (hns : hp.Ns1 dx m0) (hw : Within m0 nl) (hz : nl.length ≤ 1000) (hs : findIn K (.ref C) "__setattr__" = some (some (.builtin "object.__setattr__")))
    (ho : excOver K C bmB = true) (ht : takerIn K C name = some none) (hh : hasDictIn K C = true)
    (hq : ∀ h' tk', (∀ b o, b ≠ dx → hp.get? b = some o → h'.get? b = some o) → h'.Ns1 dx (fun y => if y = name then some v else m0 y) → Q () ⟨h', g, d, tk', os⟩) : wpAny (model prog w) A (setAttr (.ref x) name v) Q E ⟨hp, g, d, t, os⟩ := by
  obtain ⟨oD, esD, epD, hoD, hdD, _⟩ := hns.count hw
  refine set_plain (od := some oD) X ⟨hx, rfl, rfl, hoD⟩ hs ?_
  refine osa_openX (od := some oD) SF X ⟨hx, rfl, rfl, hoD⟩ ho ht fun b => ?_
  obtain ⟨cd, hc, hd'⟩ := any_some hh
  refine wpAny_bind (wpAny_pure (wpAny_bind (wpAny_bind (wpAny_loadPart hx (wpAny_bind ((looks_clsIn X hc).here ?_))))))
  rw [hd']
  refine wpAny_pure (a := some dx) ?_
  refine OEX.store_in_old hns hw hz ?_
  intro h' tk' hn' hsm
  exact hq h' tk' (fun b o hb ho => (hsm.2 b hb).trans ho) hn'
end
section
open PySem.W PySem.Calls
variable {prog : Program} {w : World} {A : Around} {E : Value → Shared → Prop} {K : Frag} {C x u : Addr} {B newId initId : String} {bmB : List Value} {hp : Heap} {g : Array GenState} {d : Drawn} {t : Nat} {os : OsState}
/-- the bound __init__ of the built-in class, called -/
theorem xin_call {t0 : Addr} {rest : List Value} {Q : Value → Shared → Prop} (FB : XB newId initId bmB) (q : excInitIn K C bmB newId = true) (X : K.In hp) (hu : hp.get? u = some (kxs_mw initId x)) (he : hp.get? x = some (excObj C t0 none .none)) (hz : rest.length ≤ sizeLine)
    (fin : ∀ h' t1, (∀ b o, b ≠ x → hp.get? b = some o → h'.get? b = some o) → h'.get? x = some (excObj C t1 none .none) → Q .none ⟨h', g, d, t, os⟩) : wpAny (model prog w) A (call (.ref u) rest) Q E ⟨hp, g, d, t, os⟩ := by
  obtain ⟨nm, N', qn, bs, bm, hdct, sn, sub, ab, col, dd, k0, k1, k2, k3, k5, hC, hT⟩ := excInit_of X q
  refine wpAny_call (codeAny_of_tree ?_)
  show wpAny _ A.in1 (callAny (.ref u) ⟨rest, []⟩) _ _ _
  simp only [callAny]
  refine wpAny_bind (wpAny_load hu ?_)
  simp only [kxs_mw, show (Value.type "method-wrapper" == Value.type "method" || Value.type "method-wrapper" == Value.type "builtin_function_or_method" || Value.type "method-wrapper" == Value.type "method-wrapper") = true by decide, if_true]
  refine KFB.if_so (by decide) ?_
  refine wpAny_bind (FB.bound hC he rfl ?_)
  refine wpAny_bind (wpAny_pure (wpAny_pure ?_))
  refine ⟨plainId_quiet FB.plain _, codeAny_builtin FB.entry ?_⟩
  exact exc_init_tree (cls := .ref C) (t0 := t0) (dv := none) (c2 := .none) (c3 := .none) (b4 := .bool false) he hz fun h' k e' _ => fin h' _ k e'
end
abbrev supSt (m : Str) (j : Nat) (p0 p1 p2 p3 p4 p5 : Pos) : Stmt := .Expr (.Call (.Attribute (.Call (.Name "super" p0) [] [] p1) "__init__" p2) [.Constant (.str m) j p3] [] p4) p5
abbrev fldSt (f : Str) (q : Pos × Pos × Pos × Pos) : Stmt := .Assign [.Attribute (.Name "self" q.1) f q.2.1] (.Name f q.2.2.1) q.2.2.2
/-- what the top says of such a class: C the class, fI its __init__, cc the cell of __class__, cda the code -/
structure ExI (prog : Program) (K : PySem.W.Frag) (c : Str) (C fI cc cda : Addr) (B newId initId : String) (bmB : List Value) (fs : List Str) : Prop where
  ns : PySem.W.nsIn K mainGlobals c = some (some (.ref C))
  kp : PySem.W.keepIn K (.ref C) = true
  sb : PySem.W.subIn K (.ref C) (.type "BaseException") = some true
  sB : PySem.W.subIn K (.ref C) (.type B) = some true
  ty : PySem.W.typeIn K (.ref C) = some (.type "type")
  ini : PySem.W.findIn K (.ref C) "__init__" = some (some (.ref fI))
  fn : PySem.W.isFn K (.ref fI) = true
  ex : PySem.W.excInitIn K C bmB newId = true
  ov : PySem.W.excOver K C bmB = true
  sa : PySem.W.findIn K (.ref C) "__setattr__" = some (some (.builtin "object.__setattr__"))
  hd : PySem.W.hasDictIn K C = true
  sup : PySem.W.ks_superIn K C C "__init__" = some (some (.builtin initId))
  mro : PySem.W.mroIn K C (.ref C) = some true
  tkr : ∀ f ∈ fs, PySem.W.takerIn K C f = some none
  cell : ∃ cl cld csl, K.lookup cc = some ⟨cl, cld, .cell (some (.ref C)), csl⟩
  code : ∃ ccl cdd vs ccs file tf, K.lookup cda = some ⟨ccl, cdd, .fields vs, ccs⟩ ∧ vs[2]? = some (.str file tf) ∧ ((prog.main.file : Str) == file) = true
  sup0 : PySem.W.nsIn K mainGlobals "super" = some none
  any0 : PySem.W.nsIn K cStatics "thirdparty.any" = some none
  top0 : (prog.main.scope.names.lookup ("super" : Str)).isSome = false
/-- what its __init__ says -/
structure InitF (K : PySem.W.Frag) (fI cc cda : Addr) (fs : List Str) (fd : FuncData) : Prop where
  at_ : ∃ oc od osl, K.lookup fI = some ⟨oc, od, .func fd, osl⟩
  cd : PySem.W.codeIn K (.ref cda) fd.qualname = true
  form : ∃ name qual params m j p0 p1 p2 p3 p4 p5 qs scope dV kV doc pm an ct, fd = PySem.W.ksFn name qual params (supSt m j p0 p1 p2 p3 p4 p5 :: (fs.zip qs).map fun z => fldSt z.1 z.2) scope dV kV doc pm an (.ref cda) ct cc ∧ fs.length = qs.length ∧
    scope.names.lookup ("super" : Str) = some .globalImplicit ∧ scope.names.lookup ("__class__" : Str) = some .free ∧ scope.names.lookup ("self" : Str) = some .local ∧ (∀ f ∈ fs, scope.names.lookup f = some .local) ∧ scope.kind = .function ∧
    (∀ y ∈ scope.names, y.2 ≠ .cell) ∧ scope.isCoroutine = false ∧ scope.isGenerator = false ∧ (∃ ar, (params.posonlyargs ++ params.args).head? = some ar ∧ ar.arg = "self") ∧
    ∀ env : Env, ∃ pl : Sem Bool, eval (.Call (.Attribute (.Call (.Name "super" p0) [] [] p1) "__init__" p2) [.Constant (.str m) j p3] [] p4) env = (do
      let ov ← attributeBase (.Call (.Name "super" p0) [] [] p1) "__init__" env (eval (.Call (.Name "super" p0) [] [] p1) env)
      standAt p2.atName
      let (f, first) ← holding [ov] (getMethod ov "__init__" pl)
      callWith p4 f first (backTo p4 (starEach [.Constant (.str m) j p3] env)) [])
  bind : ∀ (s : Shared) (v : Value) (us : List Value), us.length = fs.length → BindsTo s fd ⟨v :: us, []⟩ (("self", v) :: fs.zip us)
  dist : fs.Nodup ∧ ("self" : Str) ∉ fs ∧ fs ≠ [] ∧ fs.length ≤ 5 ∧ ∀ f ∈ fs, (f == ("__debug__" : Str)) = false
section
open PySem.W PySem.Calls
variable {prog : Program} {w : World} {A : Around} {E : Value → Shared → Prop} {K : Frag} {C x fI cc cda : Addr} {B newId initId : String} {bmB : List Value} {hp : Heap} {g : Array GenState} {d : Drawn} {t : Nat} {os : OsState} {c : Str} {fs : List Str} {fd : FuncData}
/-- the stores behind the first one -/
theorem xst_rest {env : Env} {mL : Str → Option Value} {t1 dx : Addr} (SF : StoreFacts B bmB "object.__setattr__" "object") (ex : ExI prog K c C fI cc cda B newId initId bmB fs) (hk : env.scope.kind = .function) (hs : env.kindOf "self" = some .local) (hself : mL "self" = some (.ref x)) :
    ∀ (qs : List (Str × Pos × Pos × Pos × Pos)) (us : List Value) (hp : Heap) (t : Nat) (m0 : Str → Option Value) (nl : List Str) (Q : Flow → Shared → Prop), K.In hp → (∀ z ∈ qs, z.1 ∈ fs ∧ env.kindOf z.1 = some .local ∧ (z.1 == ("__debug__" : Str)) = false) → (∀ z ∈ qs.zip us, mL z.1.1 = some z.2) → qs.length = us.length →
      hp.get? x = some (excObj C t1 (some dx) .none) → hp.Ns env.locals mL → env.locals ≠ dx → hp.Ns1 dx m0 → Within m0 nl → nl.length + qs.length ≤ 1000 → dx ≠ x → K.lookup dx = none →
      (∀ h' tk' m', (∀ b o, b ≠ dx → hp.get? b = some o → h'.get? b = some o) → h'.Ns1 dx m' → (∀ f, m' f = match ((qs.map (·.1)).zip us).reverse.lookup f with | some u => some u | none => m0 f) → Q .next ⟨h', g, d, tk', os⟩) →
      wpAny (model prog w) A (execs (qs.map fun z => fldSt z.1 z.2) env) Q E ⟨hp, g, d, t, os⟩
  | [], us, hp, t, m0, nl, Q, X, _, _, hl, hx, hL, hne, hn, hw, hz, hdx, hkd, q => by
    match us, hl with
    | [], _ => exact wpAny_execs_nil (q hp t m0 (fun _ _ _ h => h) hn fun f => rfl)
  | z :: qs, [], hp, t, m0, nl, Q, X, _, _, hl, _, _, _, _, _, _, _, _, _ => by cases hl
  | z :: qs, u :: us, hp, t, m0, nl, Q, X, hq, hm, hl, hx, hL, hne, hn, hw, hz, hdx, hkd, q => by
    obtain ⟨hf, hloc, hdb⟩ := hq z List.mem_cons_self
    have hu : mL z.1 = some u := hm (z, u) (by rw [List.zip_cons_cons]; exact List.mem_cons_self)
    rw [List.length_cons] at hz
    rw [List.map_cons]
    refine wpAny_execs_cons (plainObj_wpAny_Assign_Attribute (wpAny_Name (wpAny_loadName_local hk hloc hL hu (wpAny_Name (wpAny_loadName_local hk hs hL hself ?_) (by decide))) hdb) ?_)
    · refine xst_old SF X hx hn hw (by omega) ex.sa ex.ov (ex.tkr _ hf) ex.hd fun h' tk' k hn' => ?_
      have Xn : K.In h' := fun b o e => k b o (fun y => by rw [y, hkd] at e; cases e) (X b o e)
      obtain ⟨oL, es, ep, eL, rL⟩ := hL
      refine xst_rest SF ex hk hs hself qs us h' tk' _ (z.1 :: nl) Q Xn (fun y hy => hq y (List.mem_cons_of_mem _ hy)) (fun y hy => hm y (by rw [List.zip_cons_cons]; exact List.mem_cons_of_mem _ hy)) (by simpa using hl) (k x _ (Ne.symm hdx) hx) ⟨oL, es, ep, k _ _ hne eL, rL⟩ hne hn' (Within.cons z.1 u hw) (by rw [List.length_cons]; omega) hdx hkd ?_
      intro h2 tk2 m' k2 hn2 hm2
      refine q h2 tk2 m' (fun b o hb e => k2 b o hb (k b o hb e)) hn2 fun f => ?_
      rw [hm2 f, List.map_cons, List.zip_cons_cons, List.reverse_cons, List.lookup_append]
      cases e : ((qs.map (·.1)).zip us).reverse.lookup f with
      | some v => rfl
      | none =>
        by_cases hff : f = z.1
        · subst hff; simp [List.lookup]
        · have e2 : (f == z.1) = false := by simpa using hff
          simp [List.lookup, e2, hff]
    · rfl
theorem look_zip_rev {V : Type} : ∀ {ns : List Str} {us : List V} (f : Str), ns.Nodup → (ns.zip us).reverse.lookup f = (ns.zip us).lookup f
  | [], _, _, _ => rfl
  | _ :: _, [], _, _ => rfl
  | n :: ns, u :: us, f, hd => by
    rw [List.nodup_cons] at hd
    rw [List.zip_cons_cons, List.reverse_cons, List.lookup_append, look_zip_rev f hd.2]
    by_cases e : f = n
    · subst e
      have h : (ns.zip us).lookup f = none := by
        rw [List.lookup_eq_none_iff]
        intro p hp
        have := (List.of_mem_zip hp).1
        simp only [bne_iff_ne, ne_eq, beq_iff_eq]
        first
          | exact fun z => hd.1 (z ▸ this)
          | (simp; exact fun z => hd.1 (z ▸ this))
      rw [h]; simp [List.lookup]
    · have e2 : (f == n) = false := by simpa using e
      have e3 : List.lookup f ((n, u) :: ns.zip us) = List.lookup f (ns.zip us) := by rw [List.lookup_cons, e2]
      have e4 : List.lookup f [(n, u)] = none := by rw [List.lookup_cons, e2]; rfl
      rw [e3, e4, Option.or_none]
theorem look_mem_zip {V : Type} : ∀ {ns : List Str} {us : List V} {z : Str × V}, ns.Nodup → z ∈ ns.zip us → (ns.zip us).lookup z.1 = some z.2
  | [], _, _, _, h => by simp at h
  | _ :: _, [], _, _, h => by simp at h
  | n :: ns, u :: us, z, hd, h => by
    rw [List.nodup_cons] at hd
    rw [List.zip_cons_cons] at h ⊢
    rcases List.mem_cons.mp h with rfl | h
    · rw [List.lookup_cons, beq_self_eq_true]
    · have e : (z.1 == n) = false := by
        have := (List.of_mem_zip h).1
        simpa using fun y : z.1 = n => hd.1 (y ▸ this)
      rw [List.lookup_cons, e]
      exact look_mem_zip hd.2 h
/-- all stores of __init__ -/
theorem xst_all {env : Env} {mL : Str → Option Value} {t1 : Addr} {f : Str} {q : Pos × Pos × Pos × Pos} {u : Value} {qs : List (Str × Pos × Pos × Pos × Pos)} {us : List Value} {Q : Flow → Shared → Prop} (SF : StoreFacts B bmB "object.__setattr__" "object") (ex : ExI prog K c C fI cc cda B newId initId bmB fs) (hk : env.scope.kind = .function) (hs : env.kindOf "self" = some .local) (hself : mL "self" = some (.ref x))
    (X : K.In hp) (hxk : K.lookup x = none) (hf : f ∈ fs ∧ env.kindOf f = some .local ∧ (f == ("__debug__" : Str)) = false) (hfu : mL f = some u) (hq : ∀ z ∈ qs, z.1 ∈ fs ∧ env.kindOf z.1 = some .local ∧ (z.1 == ("__debug__" : Str)) = false) (hm : ∀ z ∈ qs.zip us, mL z.1.1 = some z.2) (hl : qs.length = us.length)
    (hx : hp.get? x = some (excObj C t1 none .none)) (hL : hp.Ns env.locals mL) (hLx : env.locals ≠ x) (hz : qs.length ≤ 900) (hnd : (f :: qs.map (·.1)).Nodup)
    (fin : ∀ h' tk' m' dx, (∀ b o, b ≠ x → hp.get? b = some o → h'.get? b = some o) → hp.objs.size ≤ dx → dx ≠ x → h'.get? x = some (excObj C t1 (some dx) .none) → h'.Ns1 dx m' → (∀ y, m' y = ((f, u) :: (qs.map (·.1)).zip us).lookup y) → Q .next ⟨h', g, d, tk', os⟩) :
    wpAny (model prog w) A (execs (fldSt f q :: qs.map fun z => fldSt z.1 z.2) env) Q E ⟨hp, g, d, t, os⟩ := by
  refine wpAny_execs_cons (plainObj_wpAny_Assign_Attribute (wpAny_Name (wpAny_loadName_local hk hf.2.1 hL hfu (wpAny_Name (wpAny_loadName_local hk hs hL hself ?_) (by decide))) hf.2.2) ?_)
  · refine xst_new SF X hx ex.sa ex.ov (ex.tkr _ hf.1) ex.hd fun h5 tk5 dx k5 hdx hdxx hx5 hn5 => ?_
    have hd4 : env.locals ≠ dx := by
      obtain ⟨oL, es, ep, eL, rL⟩ := hL
      exact Nat.ne_of_lt (Nat.lt_of_lt_of_le (Heap.lt_size eL) hdx)
    have hKd : K.lookup dx = none := by
      cases e : K.lookup dx with
      | none => rfl
      | some o => exact absurd (Heap.lt_size (X _ _ e)) (Nat.not_lt.mpr hdx)
    have nx : ∀ {b : Addr} {o : Obj}, K.lookup b = some o → b ≠ x := fun {b o} e z => by rw [z, hxk] at e; cases e
    have X5 : K.In h5 := fun b o e => k5 b o (nx e) (X b o e)
    have hL5 : h5.Ns env.locals mL := by
      obtain ⟨oL, es, ep, eL, rL⟩ := hL
      exact ⟨oL, es, ep, k5 _ _ hLx eL, rL⟩
    refine xst_rest SF ex hk hs hself qs us h5 tk5 _ [f] _ X5 hq hm hl hx5 hL5 hd4 hn5 (Within.cons f u Within.nil) (by rw [List.length_singleton]; omega) hdxx hKd ?_
    intro h6 tk6 m6 k6 hn6 hm6
    have hne : ∀ b o, hp.get? b = some o → b ≠ dx := fun b o e => Nat.ne_of_lt (Nat.lt_of_lt_of_le (Heap.lt_size e) hdx)
    refine fin h6 tk6 m6 dx (fun b o hb e => k6 b o (hne b o e) (k5 b o hb e)) hdx hdxx (k6 _ _ hdxx.symm hx5) hn6 fun y => ?_
    rw [List.nodup_cons] at hnd
    rw [hm6 y, look_zip_rev y hnd.2]
    by_cases e : y = f
    · subst e
      have h0 : ((qs.map (·.1)).zip us).lookup y = none := by
        rw [List.lookup_eq_none_iff]
        intro p hp
        have := (List.of_mem_zip hp).1
        first
          | exact fun z => hnd.1 (z ▸ this)
          | (simp; exact fun z => hnd.1 (z ▸ this))
      rw [h0, List.lookup_cons, beq_self_eq_true]
      simp
    · have e2 : (y == f) = false := by simpa using e
      rw [List.lookup_cons, e2]
      cases ((qs.map (·.1)).zip us).lookup y with
      | some v => rfl
      | none => simp [e]
  · rfl
/-- __init__ is run -/
theorem init_run {us : List Value} {mg mb : Str → Option Value} {t0 : Addr} {R : Result → Shared → Prop} (FB : XB newId initId bmB) (SF : StoreFacts B bmB "object.__setattr__" "object") (KF : KxsFacts B initId) (ex : ExI prog K c C fI cc cda B newId initId bmB fs) (inf : InitF K fI cc cda fs fd)
    (X : K.In hp) (hlim : hp.NoLimit) (hg : hp.Ns mainGlobals mg) (hgs : mg "super" = none) (hb : hp.Ns builtinsNs mb) (hbs : mb "super" = some (.type "super")) (hroom : A.depth < recursionLimit) (hx : hp.get? x = some (excObj C t0 none .none)) (hxk : K.lookup x = none) (hl : us.length = fs.length)
    (fin : ∀ h' tk dx t1 m', (∀ b o, b ≠ x → hp.get? b = some o → h'.get? b = some o) → h'.get? x = some (excObj C t1 (some dx) .none) → hp.objs.size ≤ dx → dx ≠ x → h'.Ns1 dx m' → (∀ f, m' f = (fs.zip us).lookup f) → R (.ok (.ret .none)) ⟨h', g, d, tk, os⟩) :
    codeAny (model prog w) A (.call (.ref fI) ⟨.ref x :: us, []⟩) R ⟨hp, g, d, t, os⟩ := by
  obtain ⟨oc, od, osl, lk⟩ := inf.at_
  obtain ⟨name, qual, params, m, j, p0, p1, p2, p3, p4, p5, qs, scope, dV, kV, doc, pm, an, ct, rfl, hqs, hks, hkc, hka, hkf, hk, hcell, hco, hgen, ⟨ar, har, hars⟩, hev⟩ := inf.form
  obtain ⟨hnd, hsf, hne, hle, hdbg⟩ := inf.dist
  obtain ⟨ccl, cdd, vs, ccs, file, tf, hcode, hvs, hfile⟩ := ex.code
  obtain ⟨cl, cld, csl, hcel⟩ := ex.cell
  have hloc : ∀ y ∈ ((("self" : Str), Value.ref x) :: fs.zip us), scope.names.lookup y.1 = some NameKind.local := by
    intro y hy
    rcases List.mem_cons.mp hy with rfl | hy
    · exact hka
    · exact hkf _ (List.of_mem_zip hy).1
  obtain ⟨oD, cdD, hD0, hD1, hDc⟩ : ∃ oD cdD, K.lookup C = some oD ∧ oD.data = .cls cdD ∧ clsIn K C = some cdD := by
    obtain ⟨cd', hc', _⟩ := any_some ex.hd
    have hc2 := hc'
    unfold clsIn at hc2
    split at hc2
    · rename_i a1 a2 a3 a4 ho
      cases hc2
      exact ⟨_, _, ho, rfl, hc'⟩
    · cases hc2
  refine ks_codeAny_call_defAt hroom (X _ _ lk) rfl hlim (codeRec_of X inf.cd) rfl (inf.bind ⟨hp, g, d, t, os⟩ (.ref x) us hl) hcell hloc (fun h1 hns1 k1 => ?_) hco hgen hk
  have X1 : K.In h1 := X.keeps k1
  have mself : (((("self" : Str), Value.ref x) :: fs.zip us).reverse).lookup ("self" : Str) = some (.ref x) := by
    rw [List.reverse_cons, List.lookup_append]
    have h0 : (fs.zip us).reverse.lookup ("self" : Str) = none := by
      rw [look_zip_rev _ hnd, List.lookup_eq_none_iff]
      intro p hp
      have := (List.of_mem_zip hp).1
      first
        | exact fun z => hsf (z ▸ this)
        | (simp; exact fun z => hsf (z ▸ this))
    rw [h0]; simp [List.lookup]
  have mfld : ∀ f u, (fs.zip us).lookup f = some u → ((("self" : Str), Value.ref x) :: fs.zip us).reverse.lookup f = some u := fun f u e => by
    rw [List.reverse_cons, List.lookup_append, look_zip_rev _ hnd, e]; rfl
  obtain ⟨pl, hev⟩ := hev (ksEnv qual scope hp.objs.size fI (.ref cda) cc)
  refine ks_wpAt_execs_cons (ks_wpAt_Expr_any (ks_wpAt_MethodCall (pl := pl) ?_ hev) (by show (scope.kind == ScopeKind.module && _) = false; rw [hk]; rfl))
  refine ks_wpAt_super_base (env := ksEnv qual scope hp.objs.size fI (.ref cda) cc) hks hkc (by decide) rfl (k1 _ _ (X _ _ lk)) rfl har rfl (k1 _ _ (X _ _ hcode)) rfl hvs hfile ex.top0 ?_
  refine ks_loadName_global hk hks (loadGlobal_builtin (env := ksEnv qual scope hp.objs.size fI (.ref cda) cc) (hg.keeps k1) hgs (hb.keeps k1) hbs ⟨rfl, ?_⟩)
  refine wpAny_loadName_free hk hkc rfl ⟨_, X1 _ _ hcel, rfl⟩ ?_
  refine wpAny_loadName_local hk (by rw [hars]; exact hka) hns1 (by rw [hars]; exact mself) ?_
  refine ks_wpAny_isType_cls (X1 _ _ hD0) hD1 ⟨rfl, ?_⟩
  refine ks_wpAny_call_super (X1 _ _ hD0) hD1 (k1 _ _ hx) rfl (fun c e => by cases e) (looks_mroIn X1 ex.mro) (fun h2 e2 k2 => ?_)
  have X2 : K.In h2 := X1.keeps k2
  have hx2 : h2.get? x = some (excObj C t0 none .none) := k2 _ _ (k1 _ _ hx)
  have I2 : InstAt h2 x (excObj C t0 none .none) C none := ⟨hx2, rfl, rfl, trivial⟩
  have hsup := ex.sup
  unfold ks_superIn at hsup
  rw [hDc] at hsup
  refine kxs_getMethod KF e2 (looks_opaque X2 ex.any0) (l₀ := cdD.mro) ((looks_clsIn X2 hDc).andThen .now) rfl X2 hsup (I2.type.andThen (looks_subIn X2 ex.sB)) (ks_ne X2 I2 hDc) (by decide) ?_
  have k3 : ∀ b o, h2.get? b = some o → (h2.push (kxs_mw initId x)).get? b = some o := fun b o e => Heap.get?_push_of_some _ e
  have hu3 : (h2.push (kxs_mw initId x)).get? h2.objs.size = some (kxs_mw initId x) := Heap.get?_push_at rfl rfl
  refine kxs_callWith (i := initId) (x := x) rfl (evalArgs_plain (args_cons (Calls.Constant_str (args_nil ⟨hu3, ?_⟩))))
  refine xin_call FB ex.ex (X2.keeps k3) hu3 (k3 _ _ hx2) (by show 1 ≤ sizeLine; rw [sizeLine_eq]; omega) fun h4 t4 k4 hx4 => ?_
  have nx : ∀ {b : Addr} {o : Obj}, K.lookup b = some o → b ≠ x := fun {b o} e z => by rw [z, hxk] at e; cases e
  have X4 : K.In h4 := fun b o e => k4 b o (nx e) (X2.keeps k3 b o e)
  have hxL : x < hp.objs.size := Heap.lt_size hx
  have hLx : hp.objs.size ≠ x := Nat.ne_of_gt hxL
  have up : ∀ b o, b ≠ x → h1.get? b = some o → h4.get? b = some o := fun b o hb e => k4 b o hb (k3 _ _ (k2 _ _ e))
  have hL4 : h4.Ns hp.objs.size (fun y => ((("self" : Str), Value.ref x) :: fs.zip us).reverse.lookup y) := by
    obtain ⟨oL, es, ep, eL, rL⟩ := hns1
    exact ⟨oL, es, ep, up _ _ hLx eL, rL⟩
  refine wpAt_of_wpAny ?_
  have hfu : ∀ z ∈ fs.zip us, ((("self" : Str), Value.ref x) :: fs.zip us).reverse.lookup z.1 = some z.2 := fun z hz => mfld _ _ (look_mem_zip hnd hz)
  have hall : ∀ f ∈ fs, f ∈ fs ∧ (ksEnv qual scope hp.objs.size fI (.ref cda) cc).kindOf f = some .local ∧ (f == ("__debug__" : Str)) = false := fun f hf => ⟨hf, hkf f hf, hdbg f hf⟩
  cases hfs : fs with
  | nil => exact absurd hfs hne
  | cons f fs' =>
    cases us with
    | nil => rw [hfs] at hl; cases hl
    | cons u us =>
      cases qs with
      | nil => rw [hfs] at hqs; cases hqs
      | cons q qs =>
        rw [hfs] at hqs hl hle hnd
        have hqs' : fs'.length = qs.length := by simpa using hqs
        have hl' : us.length = fs'.length := by simpa using hl
        have em : (fs'.zip qs).map (·.1) = fs' := List.map_fst_zip (by omega)
        rw [List.zip_cons_cons, List.map_cons]
        refine xst_all (env := ksEnv qual scope hp.objs.size fI (.ref cda) cc) (mL := fun y => ((("self" : Str), Value.ref x) :: fs.zip (u :: us)).reverse.lookup y) (u := u) (us := us) SF ex hk hka mself X4 hxk (hall f (by rw [hfs]; exact List.mem_cons_self)) (hfu (f, u) (by rw [hfs, List.zip_cons_cons]; exact List.mem_cons_self)) (fun z hz => hall _ (by rw [hfs]; exact List.mem_cons_of_mem _ (List.of_mem_zip hz).1)) (fun z hz => ?_) (by rw [List.length_zip]; omega) hx4 hL4 hLx (by rw [List.length_zip]; simp at hle; omega) (by rw [em]; exact hnd) ?_
        · obtain ⟨z1, z2⟩ := z
          refine hfu (z1.1, z2) ?_
          rw [hfs, List.zip_cons_cons]
          refine List.mem_cons_of_mem _ ?_
          obtain ⟨i, hi, e⟩ := List.mem_iff_getElem.mp hz
          rw [List.getElem_zip] at e
          obtain ⟨e1, e2⟩ := Prod.mk.inj e
          rw [List.getElem_zip] at e1
          rw [List.length_zip, List.length_zip] at hi
          refine List.mem_iff_getElem.mpr ⟨i, by rw [List.length_zip]; omega, ?_⟩
          rw [List.getElem_zip, ← e1, ← e2]
        · intro h6 tk6 m6 dx k6 hdx hdxx hx6 hn6 hm6
          have hsz : hp.objs.size ≤ dx := by
            obtain ⟨oL, es, ep, eL, rL⟩ := hL4
            exact Nat.le_trans (Nat.le_of_lt (Heap.lt_size eL)) hdx
          refine fin h6 tk6 dx t4 m6 (fun b o hb e => k6 b o hb (up b o hb (k1 b o e))) hx6 hsz hdxx hn6 fun y => ?_
          rw [hm6 y, em, hfs, List.zip_cons_cons]
end
theorem relO_zip : ∀ {fs : List Str} {vs : List V} {us : List Value} (f : Str), Vals vs us → RelO ((fs.zip vs).lookup f) ((fs.zip us).lookup f)
  | [], _, _, _, _ => True.intro
  | _ :: _, _, _, _, .nil => True.intro
  | n :: fs, _, _, f, .cons (b := u) r t => by
    rw [List.zip_cons_cons, List.zip_cons_cons, List.lookup_cons, List.lookup_cons]
    cases f == n with
    | true => exact r
    | false => exact relO_zip f t
def tMkI (C : Addr) (fs : List Str) (ta : TA) : L2.St → Hp → XK → Prop := fun σ H Q => ta σ H fun vs H1 => vs.length = fs.length ∧ ∀ d, H1 d = none → Q (.ref C) (some d) (upd H1 d (.xd (fs.zip vs)))
section
variable {X : Cx} {C fI cc cda : Addr} {B newId initId : String} {bmB : List Value} {x : Str} {fs : List Str} {fd : FuncData} {e : Expr} {es : List Expr} {ta : TA} {p pos : Pos} {k : Nat}
theorem pmk_I (FB : XB newId initId bmB) (SF : StoreFacts B bmB "object.__setattr__" "object") (KF : PySem.W.KxsFacts B initId) (ex : ExI X.prog X.K x C fI cc cda B newId initId bmB fs) (inf : InitF X.K fI cc cda fs fd) (hr : Room k X.A) (hg : Gl X x) (hm : X.mg x = some (.ref C)) (ha : PA X (e :: es) ta)
    (hdb : (x == ("__debug__" : Str)) = false := by decide) (he : starEach (e :: es) X.env = (false, eval e X.env) :: starEach es X.env := by rfl) (hpl : (backTo pos (starEach es X.env)).any (·.1) = false := by rfl) :
    PMk X (.Call (.Name x p) (e :: es) [] pos) (tMkI C fs ta) := by
  intro pins s σ H Q I h
  refine wpAny_Call_Name_kw (ld_glob I hg hm ?_ hdb)
  refine PySem.W.callWith_K (h₀ := X.base) I.ok.mod.kin ex.kp (thn (ha.run pos pins s σ H _ I h) fun us s1 ⟨vs, H1, I1, r1, hz, q1⟩ => ⟨I1.kIn, ?_⟩) he hpl
  show wpAny _ _ (call (.ref C) us) _ _ _
  obtain ⟨hp, g, dr, tk, os⟩ := s1
  obtain ⟨nm, N', qn, bs, bm, hdct, sn, sub, ab, col, dd, k0, k1, k2, k3, k5, hC, hT⟩ := PySem.W.excInit_of I1.kIn ex.ex
  obtain ⟨hnd, hsf, hne, hle, hdbg⟩ := inf.dist
  have hul : us.length = fs.length := by rw [← Paired.length r1]; exact hz
  have hus : us.length ≤ sizeLine := by rw [hul, sizeLine_eq]; omega
  obtain ⟨oI, hoI, hcI⟩ : ∃ oI, hp.get? fI = some oI ∧ oI.cls = .type "function" := by
    obtain ⟨o, ho, hc⟩ := Option.map_eq_some_iff.mp (show (X.K.lookup fI).map (·.cls) = some (.type "function") from beq_iff_eq.mp ex.fn)
    exact ⟨o, I1.kIn _ _ ho, hc⟩
  have hget : ((hp.push (PySem.W.excTup us)).push (PySem.W.excObj C hp.objs.size none .none)).get? (hp.objs.size + 1) = some (PySem.W.excObj C hp.objs.size none .none) := by heap_get
  have kk : ∀ b o, hp.get? b = some o → ((hp.push (PySem.W.excTup us)).push (PySem.W.excObj C hp.objs.size none .none)).get? b = some o := fun b o e => Heap.get?_push_of_some _ (Heap.get?_push_of_some _ e)
  have hsz : hp.objs.size ≤ hp.objs.size + 1 := Nat.le_succ _
  have M := I1.mod
  have bk : ∀ b o, X.base.get? b = some o → hp.get? b = some o := I1.bk
  obtain ⟨mb, hmb, hbb⟩ := M.blt
  have bk2 : ∀ b o, X.base.get? b = some o → ((hp.push (PySem.W.excTup us)).push (PySem.W.excObj C hp.objs.size none .none)).get? b = some o := fun b o e => kk b o (bk b o e)
  have hxk : X.K.lookup (hp.objs.size + 1) = none := by
    cases e : X.K.lookup (hp.objs.size + 1) with
    | none => rfl
    | some o => exact absurd (Heap.lt_size (I1.kIn _ _ e)) (Nat.not_lt.mpr hsz)
  have hroom : (X.A.under (.builtin "type.__call__" ⟨.ref C :: us, []⟩)).depth < recursionLimit := by have := hr.dp; rw [make_depth]; omega
  refine wpAny_call (FB.made hT hC (PySem.W.looks_findIn I1.kIn ex.ini) (fun self => PySem.W.exc_bind hoI hcI self) hus ?_)
  refine init_run FB SF KF ex inf (I1.kIn.keeps kk) (M.nolimit.keeps bk2) (M.glob.keeps bk2) (PySem.W.mg_none_of M.kin M.glob ex.sup0) (hmb.keeps bk2) ((hbb _ (by decide)).trans PyProof.Rows.Boot.«super») hroom hget hxk hul ?_
  intro h' tk' dx t1 m' hk hx' hdx hdxx hn' hm'
  refine ⟨rfl, ?_⟩
  have hdx' : hp.objs.size ≤ dx := by
    rw [Heap.size_push, Heap.size_push] at hdx
    omega
  obtain ⟨G, g1, g2⟩ := restrict h' fun b => decide (b ≠ hp.objs.size + 1)
  have gk : ∀ b, b ≠ hp.objs.size + 1 → G.get? b = h'.get? b := fun b hb => g1 b (decide_eq_true hb)
  have ge : G.get? (hp.objs.size + 1) = none := g2 _ (by simp)
  have kG : ∀ b o, hp.get? b = some o → G.get? b = some o := fun b o e => by
    have hb : b ≠ hp.objs.size + 1 := Nat.ne_of_lt (Nat.lt_succ_of_lt (Heap.lt_size e))
    rw [gk b hb]
    exact hk b o hb (kk b o e)
  have J : Inv X pins σ (upd H1 dx (.xd (fs.zip vs))) ⟨G, g, dr, tk', os⟩ := I1.laid (t' := tk') (a := dx) (o := .xd (fs.zip vs)) (h' := G) kG hdx' ⟨m', hn'.at fun o y => (gk dx hdxx).trans y, fun f => by rw [hm' f]; exact relO_zip f r1⟩
  have na : (upd H1 dx (.xd (fs.zip vs))) (hp.objs.size + 1) = none := by rw [upd_ne hdxx.symm]; exact I1.hok.fresh hsz
  refine ⟨hp.objs.size + 1, _, _, ⟨G, g, dr, tk', os⟩, _, .ref C, some dx, rfl, J, fun b o e => ?_, ge, hx', ⟨rfl, rfl⟩, rfl, rfl, na, rfl, I1.bare, raises_own ex.sb ex.ty, q1 dx (I1.hok.fresh hdx')⟩
  by_cases hb : b = hp.objs.size + 1
  · rw [hb, ge] at e; cases e
  · exact (gk b hb).symm.trans e
end
/-- raise X(..), X an own class that keeps its arguments -/
def dRaiseI (c : Str) (fs : List Str) (aa : DA) : DTS := fun E ds ms => aa ds ms fun xs m => xs.length = fs.length ∧ E.ex c fs xs ds m
section
variable {X : Cx} {W : WX} {C fI cc cda : Addr} {B newId initId : String} {bmB : List Value} {x : Str} {fs : List Str} {fd : FuncData} {e : Expr} {es : List Expr} {aa : DA} {p pos pos' : Pos} {k : Nat}
theorem px_raiseI (hc : X.calm = true) (tk : Takes X W) (FB : XB newId initId bmB) (SF : StoreFacts B bmB "object.__setattr__" "object") (KF : PySem.W.KxsFacts B initId) (ex : ExI X.prog X.K x C fI cc cda B newId initId bmB fs) (inf : InitF X.K fI cc cda fs fd) (hr : RoomG k X.A) (hg : Gl X x) (hm : X.mg x = some (.ref C)) (ha : PDA X (e :: es) aa)
    (hdb : (x == ("__debug__" : Str)) = false := by decide) (he : starEach (e :: es) X.env = (false, eval e X.env) :: starEach es X.env := by rfl) (hpl : (backTo pos (starEach es X.env)).any (·.1) = false := by rfl) :
    PX X W (.Raise (some (.Call (.Name x p) (e :: es) [] pos)) none pos') (dRaiseI x fs aa) :=
  psImp (ps_raise hc tk (pmk_I FB SF KF ex inf hr.r hg hm ha hdb he hpl)) fun D σ H ⟨F0, ds, ms, E, R, S, h, _, _, _, _, z⟩ =>
    ⟨F0, ds, ms, _, R, S, h, fun xs m vs F1 H1 p1 R1 s1 rs => ⟨rs.length.trans p1.1, fun d hd => by
      have sb : Sub F1 (upd F1 d (.xd (fs.zip vs))) := Sub.new (R1.sub.none hd)
      exact z x fs xs ds m _ (some d) vs σ (upd F1 d (.xd (fs.zip vs))) _ p1.2 (R1.new hd) (s1.trans (Stp.new R1 hd)) ((S.mono s1.sub).mono sb) ex.ns (.inr ⟨d, rfl, upd_same, by rw [rs.length]; exact p1.1.symm, inf.dist.2.2.1⟩) (rs.mono sb)⟩⟩
end
end DL
namespace DL
open PySem PySem.Spec PyProof.Rows L2
section
variable {K : PySem.W.Frag} {W : WX} {di : DI} {dg : DG} {tb : DTS} {g : TG} {vs : List Nat} {c : DT}
theorem liftX_for (hg : TgD K g dg vs) : ∀ D σ H, liftX K W (dFor di dg tb) D σ H → tFor (liftI K di) g (liftX K W tb) D σ H := fun D σ H ⟨F, ds, ms, E, R, S, h, n, r, k, q, x0⟩ => by
  refine ⟨F, ds, ms, _, R, S, h, fun xs m F0 H0 J p0 R0 s0 wk => ?_⟩
  refine for_it wk (fun i σ1 H1 => ∃ F1 ds1 m1, Rel K F1 H1 m1 ∧ Stp F H ms F1 H1 m1 ∧ Sub F0 F1 ∧ Sl K F1 σ1 ds1 ∧ loopD dg tb E (xs.drop i) ds1 m1)
    ⟨F0, ds, m, R0, s0, Sub.refl F0, S.mono s0.sub, p0⟩ (fun i σ1 H1 _ ⟨F1, ds1, m1, R1, s1, s01, S1, h1⟩ => s01.trans R1.sub) ?_ ?_
  · rintro i x σ1 H1 H2 hi ⟨F1, ds1, m1, R1, s1, s01, S1, h1⟩ ⟨d, hd, hy⟩
    rw [drop_get hd] at h1
    have fin : ∀ {F2 : Hp} {x : V}, Rel K F2 H2 m1 → Stp F H ms F2 H2 m1 → Sub F1 F2 → DR K F2 x d →
        g x σ1 H2 fun σ2 H3 => liftX K W tb { D with nx := fun σ1 H1 => ∃ F1 ds1 m1, Rel K F1 H1 m1 ∧ Stp F H ms F1 H1 m1 ∧ Sub F0 F1 ∧ Sl K F1 σ1 ds1 ∧ loopD dg tb E (xs.drop (i + 1)) ds1 m1, ct := fun σ1 H1 => ∃ F1 ds1 m1, Rel K F1 H1 m1 ∧ Stp F H ms F1 H1 m1 ∧ Sub F0 F1 ∧ Sl K F1 σ1 ds1 ∧ loopD dg tb E (xs.drop (i + 1)) ds1 m1, bk := D.nx } σ2 H3 := by
      intro F2 x R2 s2 s12 rx
      refine hg.snd x σ1 F2 H2 _ d ds1 _ R2.sub (S1.mono s12) rx h1 fun ds2 σ2 h2 S2 => ?_
      refine ⟨F2, ds2, m1, _, R2, S2, h2, ?_, ?_, ?_, ?_, ?_⟩
      · exact fun ds3 m3 σ3 F3 H3 h3 R3 s3 S3 => ⟨F3, ds3, m3, R3, s2.trans s3, (s01.trans s12).trans s3.sub, S3, h3⟩
      · exact fun d3 m3 v3 F3 H3 h3 R3 s3 r3 => r d3 m3 v3 F3 H3 h3 R3 (s2.trans s3) r3
      · exact fun ds3 m3 σ3 F3 H3 h3 R3 s3 S3 => n ds3 m3 σ3 F3 H3 h3 R3 (s2.trans s3) S3
      · exact fun ds3 m3 σ3 F3 H3 h3 R3 s3 S3 => ⟨F3, ds3, m3, R3, s2.trans s3, (s01.trans s12).trans s3.sub, S3, h3⟩
      · exact fun c ns ys ds3 m3 cv d ws σ3 F3 H3 h3 R3 s3 S3 => x0 c ns ys ds3 m3 cv d ws σ3 F3 H3 h3 R3 (s2.trans s3) S3
    rcases hy with ⟨rfl, rx⟩ | ⟨T, a, b, da, db, rfl, hT, rfl, rfl, ra, rb⟩
    · exact fin R1 s1 (Sub.refl F1) (rx.mono s01)
    · exact fin (R1.new hT) (s1.trans (Stp.new R1 hT)) (Sub.new (R1.sub.none hT)) (R1.newTup hT (.cons (ra.mono s01) (.cons (rb.mono s01) .nil)))
  · rintro σ1 H1 ⟨F1, ds1, m1, R1, s1, s01, S1, h1⟩
    rw [List.drop_length] at h1
    exact n ds1 m1 σ1 F1 H1 h1 R1 s1 S1
theorem px_for {X : Cx} {tg iter : Expr} {body : List Stmt} {pos : Pos} (hp : PassesOwn (model X.prog X.w) X.A X.env X.xe) (hc : X.calm = true) (hi : PDI X tg iter di) (hg : PG X tg g) (hd : TgD X.K g dg vs) (hb : PXs X W body tb)
    (hs : ∀ x, foldedSetIterable iter X.env x = pure x := by intro _; rfl) : PX X W (.For tg iter body [] pos) (dFor di dg tb) := psImp (ps_for hp hc hi hg hb hs) (liftX_for hd)
end
abbrev ZD := Str → List Str → List D → DS → MS → Prop
def liftZ (K : PySem.W.Frag) (W : WX) (Z : ZD) (de : DE) : TE := fun σ H Q => ∃ F ds ms P, Rel K F H ms ∧ Sl K F σ ds ∧ de ds ms P ∧
  (∀ d ms' v F' H', P d ms' → Rel K F' H' ms' → Stp F H ms F' H' ms' → DR K F' v d → Q v H') ∧
  (∀ c ns xs ms' cv d ws F' H', Z c ns xs ds ms' → Rel K F' H' ms' → Stp F H ms F' H' ms' → PySem.W.nsIn K mainGlobals c = some (some cv) → XD F' d ns ws → DRs K F' ws xs → W cv d σ H')
def liftAZ (K : PySem.W.Frag) (W : WX) (Z : ZD) (de : DA) : TA := fun σ H Q => ∃ F ds ms P, Rel K F H ms ∧ Sl K F σ ds ∧ de ds ms P ∧
  (∀ xs ms' vs F' H', P xs ms' → Rel K F' H' ms' → Stp F H ms F' H' ms' → DRs K F' vs xs → Q vs H') ∧
  (∀ c ns xs ms' cv d ws F' H', Z c ns xs ds ms' → Rel K F' H' ms' → Stp F H ms F' H' ms' → PySem.W.nsIn K mainGlobals c = some (some cv) → XD F' d ns ws → DRs K F' ws xs → W cv d σ H')
abbrev PDZ (X : Cx) (W : WX) (Z : ZD) (e : Expr) (de : DE) : Prop := PE X e (liftZ X.K W Z de)
abbrev PDAZ (X : Cx) (W : WX) (Z : ZD) (es : List Expr) (de : DA) : Prop := PA X es (liftAZ X.K W Z de)
def dCallZ (n m : Nat) (is : List Nat) (fx : FX) (aa ak : DA) (Z : ZD) : DE := fun ds ms P => aa ds ms fun xs m1 => ak ds m1 fun zs m2 => xs.length = n ∧ zs.length = m ∧ fx (pick is (xs ++ zs)) m2 P fun c ns ys m' => Z c ns ys ds m'
section
variable {X : Cx} {W : WX} {Z : ZD} {k n m i : Nat} {f : Addr} {fd : FuncData} {ps ks : List Str} {is : List Nat} {fx : FX} {x y : Str} {p pos kpos py : Pos} {e o : Expr} {es : List Expr} {kws : List Keyword} {aa ak : DA} {da dx : DE}
theorem pdz_of (h : PD X e da) : PDZ X W Z e da := peImp h fun σ H Q ⟨F, ds, ms, P, R, S, h1, h2, _⟩ => ⟨F, ds, ms, P, R, S, h1, h2⟩
theorem pdaz_of (h : PDA X es aa) : PDAZ X W Z es aa := paImp h fun σ H Q ⟨F, ds, ms, P, R, S, h1, h2, _⟩ => ⟨F, ds, ms, P, R, S, h1, h2⟩
theorem pdaz_cons (ha : PDZ X W Z e da) (hr : PDAZ X W Z es aa) (he : starEach (e :: es) X.env = (false, eval e X.env) :: starEach es X.env := by rfl) : PDAZ X W Z (e :: es) (aCons da aa) :=
  paImp (pa_cons ha hr he) fun σ H Q ⟨F, ds, ms, P, R, S, h1, h2, h3⟩ =>
    ⟨F, ds, ms, _, R, S, h1, fun dx m1 x F1 H1 p1 R1 s1 r1 => ⟨F1, ds, m1, _, R1, S.mono s1.sub, p1, fun xs m2 vs F2 H2 p2 R2 s2 r2 =>
      h2 _ m2 (x :: vs) F2 H2 p2 R2 (s1.trans s2) (.cons (r1.mono s2.sub) r2), fun c ns xs m2 cv d ws F2 H2 z R2 s2 => h3 c ns xs m2 cv d ws F2 H2 z R2 (s1.trans s2)⟩, h3⟩
theorem pdz_tup {x1} (h : PDAZ X W Z es aa) : PDZ X W Z (.Tuple es x1 pos) (dTup aa) := peImp (pe_tup h) fun σ H Q ⟨F, ds, ms, P, R, S, h1, h2, h3⟩ =>
  ⟨F, ds, ms, _, R, S, h1, fun xs m vs F1 H1 p1 R1 s1 r1 => ⟨by rw [r1.length]; exact p1.1, fun p hp =>
    h2 _ m _ (upd F1 p (.tup vs)) _ p1.2 (R1.new hp) (s1.trans (Stp.new R1 hp)) (R1.newTup hp r1)⟩, h3⟩
theorem pdz_append (ho : PD X o dx) (ha : PDAZ X W Z [e] aa)
    (hbase : attributeBase o "append" X.env (eval o X.env) = eval o X.env := by rfl)
    (hfew : ((backTo pos (starEach [e] X.env)).all (fun x => !x.1) && (backToKw pos (keywordEach [] X.env)).all (fun x => x.1.isSome) && decide ([e].length + ([] : List Keyword).length + (if ([] : List Keyword).isEmpty then 0 else 1) < 30)) = true := by rfl)
    (hline : (p.endLine == pos.line) = true := by rfl) (hs : starEach [e] X.env = (false, eval e X.env) :: starEach [] X.env := by rfl) (hplain : (backTo pos (starEach [] X.env)).any (·.1) = false := by rfl) :
    PDZ X W Z (.Call (.Attribute o "append" p) [e] [] pos) (dAppend dx aa) :=
  peImp (pe_bm PySem.F.plainAttrs_list PySem.F.slot_list_append PySem.F.type_list_append mt_append ho ha hbase hfew hline hs hplain) fun σ H Q ⟨F, ds, ms, P, R, S, h1, h2, h3⟩ =>
    ⟨F, ds, ms, _, R, S, h1, fun x m1 v F1 H1 p1 R1 s1 r1 => by
      match x, p1, r1 with
      | .opq (.ref p), ⟨⟨xs0, e0⟩, h⟩, r1 =>
        cases r1
        obtain ⟨hF, vs, hH, rs⟩ := R1.look e0
        refine ⟨.inl ⟨rfl, vs, SqL.of hH⟩, F1, ds, m1, _, R1, S.mono s1.sub, h, fun ys m2 ws F2 H2 p2 R2 s2 r2 => ?_, fun c ns xs m2 cv d ws F2 H2 z R2 s2 => h3 c ns xs m2 cv d ws F2 H2 z R2 (s1.trans s2)⟩
        match ys, r2, p2 with
        | [y], .cons ry .nil, p3 =>
          cases e1 : look m2 p with
          | none => simp only [e1] at p3
          | some xs =>
            simp only [e1] at p3
            obtain ⟨hF2, vs2, hH2, rs2⟩ := R2.look e1
            exact ⟨p, vs2, _, rfl, rfl, hH2, by rw [rs2.length]; exact p3.1, h2 _ _ _ F2 _ p3.2 (relPut R2 e1 (rs2.append (.cons ry .nil))) ((s1.trans s2).trans (stpPut R2 e1)) .non⟩⟩
def tCallXZ (K : PySem.W.Frag) (W : WX) (n m : Nat) (is : List Nat) (fx : FX) (t tk : TA) : TE := fun σ H Q => t σ H fun vs H1 => tk σ H1 fun zs H2 => vs.length = n ∧ zs.length = m ∧ spX K fx (pick is (vs ++ zs)) H2 Q fun cv d H3 => W cv d σ H3
theorem run_x {pins : List (Addr × Obj)} {σ : L2.St} {H : Hp} {s : Shared} {Q : VK} {us ws : List Value} {vs zs : List V} (tk : Takes X W) (F : FnX X.prog X.w X.K X.mg X.base k f fd ps (spX X.K fx)) (hr : RoomG k X.A) (hb : Bnd X.K fd ps n ks is)
    (I : Inv X pins σ H s) (r : Vals vs us) (rz : Vals zs ws) (l1 : vs.length = n) (l2 : zs.length = ks.length) (h : spX X.K fx (pick is (vs ++ zs)) H Q fun cv d H3 => W cv d σ H3) :
    wpAny (model X.prog X.w) X.A (call (.ref f) us (ks.zip ws)) (EP X pins σ Q) X.xe s := by
  have hb' := hb.to s us ws I.kIn (r.length ▸ l1) (rz.length ▸ l2)
  refine wpAny_call (codeAny_mono (F.go X.A X.stack s H ⟨us, ks.zip ws⟩ _ _ Q _ hr I.env0 hb' (pick_vals (r.append rz) is) h) fun r s' z => ?_)
  match r, z with
  | .error v, z => exact passAt tk σ pins H s v s' I z
  | .ok (.ret u), z => exact I.after z
  | .ok .next, z => exact False.elim z
  | .ok .brk, z => exact False.elim z
  | .ok .cont, z => exact False.elim z
theorem liftZ_call {K : PySem.W.Frag} : ∀ σ H Q, liftZ K W Z (dCallZ n m is fx aa ak Z) σ H Q → tCallXZ K W n m is fx (liftA K aa) (liftA K ak) σ H Q := fun σ H Q ⟨F, ds, ms, P, R, S, h1, h2, h3⟩ =>
  ⟨F, ds, ms, _, R, S, h1, fun xs m1 vs F1 H1 p1 R1 s1 r1 => ⟨F1, ds, m1, _, R1, S.mono s1.sub, p1, fun zs m2 ws F2 H2 p2 R2 s2 r2 => by
    obtain ⟨l1, l2, p2⟩ := p2
    refine ⟨r1.length.trans l1, r2.length.trans l2, F2, _, m2, P, _, R2, pick_drs ((r1.mono s2.sub).append r2) is, p2, fun d m3 v F3 H3 p3 R3 s3 r3 => ?_, fun c ns ys m3 cv d ws F3 H3 z R3 s3 hn hx hd => ?_⟩
    · exact h2 d m3 v F3 H3 p3 R3 (s1.trans (s2.trans s3)) r3
    · exact h3 c ns ys m3 cv d ws F3 H3 z R3 (s1.trans (s2.trans s3)) hn hx hd⟩⟩
theorem pdz_call (tk : Takes X W) (F : FnX X.prog X.w X.K X.mg X.base k f fd ps (spX X.K fx)) (hr : RoomG k X.A) (hg : Gl X x) (hm : X.mg x = some (.ref f)) (hk : PySem.W.keepIn X.K (.ref f) = true) (hb : Bnd X.K fd ps n [] is)
    (ha : PDA X (e :: es) aa) (hdb : (x == ("__debug__" : Str)) = false := by decide)
    (he : starEach (e :: es) X.env = (false, eval e X.env) :: starEach es X.env := by rfl)
    (hpl : (backTo pos (starEach es X.env)).any (·.1) = false := by rfl) :
    PDZ X W Z (.Call (.Name x p) (e :: es) [] pos) (dCallZ n 0 is fx aa aNil Z) := by
  refine peImp (t := tCallXZ X.K W n 0 is fx (liftA X.K aa) tNil) ⟨fun pins s σ H Q I h => ?_⟩ fun σ H Q h => ?_
  · refine wpAny_Call_Name_kw (ld_glob I hg hm ?_ hdb)
    refine PySem.W.callWith_K (h₀ := X.base) I.ok.mod.kin hk (thn (ha.run pos pins s σ H _ I h) ?_) he hpl
    rintro us s1 ⟨vs, H1, I1, r, l1, l2, q⟩
    exact ⟨I1.kIn, run_x (ws := []) (zs := []) (ks := []) tk F hr hb I1 r .nil l1 rfl q⟩
  · obtain ⟨F0, ds, ms, P, R, S, h1, h2⟩ := liftZ_call σ H Q h
    refine ⟨F0, ds, ms, P, R, S, h1, fun xs m v F1 H1 p1 R1 s1 r1 => ?_⟩
    obtain ⟨F2, ds2, m2, P2, R2, S2, p2, q2⟩ := h2 xs m v F1 H1 p1 R1 s1 r1
    exact q2 [] m2 [] F2 H1 p2 R2 Stp.refl .nil
def dExprZ (de : ZD → DE) : DTS := fun E ds ms => de E.ex ds ms fun _ m => E.nx ds m
def dRetZ (de : ZD → DE) : DTS := fun E ds ms => de E.ex ds ms E.rt
def dAsgZ (de : ZD → DE) (g : DG) : DTS := fun E ds ms => de E.ex ds ms fun d m => g d ds fun ds1 => E.nx ds1 m
variable {dz : ZD → DE}
theorem px_exprZ (he : ∀ Z, PDZ X W Z e (dz Z)) (hs : swapsWith e none pos.line X.env = pure false := by rfl) : PX X W (.Expr e pos) (dExprZ dz) :=
  ⟨fun pins s σ H D I ⟨F, ds, ms, E, R, S, h, n, r, k, q, x⟩ => (ps_expr (he E.ex) hs).run pins s σ H D I
    ⟨F, ds, ms, _, R, S, h, fun d m v F1 H1 p1 R1 s1 r1 => n ds m σ F1 H1 p1 R1 s1 (S.mono s1.sub), fun c ns xs m cv d ws F1 H1 z R1 s1 hn hx hd => x c ns xs ds m cv d ws σ F1 H1 z R1 s1 (S.mono s1.sub) hn hx hd⟩⟩
theorem px_retZ (he : ∀ Z, PDZ X W Z e (dz Z)) : PX X W (.Return (some e) pos) (dRetZ dz) :=
  ⟨fun pins s σ H D I ⟨F, ds, ms, E, R, S, h, n, r, k, q, x⟩ => (ps_ret (he E.ex)).run pins s σ H D I
    ⟨F, ds, ms, _, R, S, h, fun d m v F1 H1 p1 R1 s1 r1 => r d m v F1 H1 p1 R1 s1 r1, fun c ns xs m cv d ws F1 H1 z R1 s1 hn hx hd => x c ns xs ds m cv d ws σ F1 H1 z R1 s1 (S.mono s1.sub) hn hx hd⟩⟩
theorem px_setZ {i : Nat} {x : Str} {pos' : Pos} (hN : X.N.Nodup) (hi : X.N[i]? = some x) (hx : Loc X.env.scope x) (he : ∀ Z, PDZ X W Z e (dz Z)) (hs : swapsWith e (some (.Name x pos')) pos.line X.env = pure false := by rfl)
    (hf : X.fn x = true ∨ X.env.scope.names.lookup x = some .local := by first | exact .inl rfl | exact .inr rfl | assumption) : PX X W (.Assign [.Name x pos'] e pos) (dAsgZ dz (sName i)) :=
  ⟨fun pins s σ H D I ⟨F, ds, ms, E, R, S, h, n, r, k, q, x⟩ => (ps_set hN hi hx (he E.ex) hs hf).run pins s σ H D I
    ⟨F, ds, ms, _, R, S, h, fun d m v F1 H1 p1 R1 s1 r1 => n _ m _ F1 H1 p1 R1 s1 (Sl.set r1 i (S.mono s1.sub)), fun c ns xs m cv d ws F1 H1 z R1 s1 hn hx hd => x c ns xs ds m cv d ws σ F1 H1 z R1 s1 (S.mono s1.sub) hn hx hd⟩⟩
theorem px_asgZ {tg : Expr} {g : TG} {dg : DG} {vs : List Nat} (he : ∀ Z, PDZ X W Z e (dz Z)) (hg : PG X tg g) (hd : TgD X.K g dg vs) (hs : swapsWithSole [tg] e pos.line X.env = pure false := by rfl) (hw : swappedStores [tg] e X.env = pure none := by rfl)
    (h1 : (assignEach [tg] X.env).map (·.2) = [assign tg X.env] := by rfl) : PX X W (.Assign [tg] e pos) (dAsgZ dz dg) :=
  ⟨fun pins s σ H D I ⟨F, ds, ms, E, R, S, h, n, r, k, q, x⟩ => (ps_asg (he E.ex) hg hs hw h1).run pins s σ H D I
    ⟨F, ds, ms, _, R, S, h, fun d m v F1 H1 p1 R1 s1 r1 => hd.snd v σ F1 H1 _ d ds _ R1.sub (S.mono s1.sub) r1 p1 fun ds1 σ1 h1 S1 => n ds1 m σ1 F1 H1 h1 R1 s1 S1, fun c ns xs m cv d ws F1 H1 z R1 s1 hn hx hd => x c ns xs ds m cv d ws σ F1 H1 z R1 s1 (S.mono s1.sub) hn hx hd⟩⟩
end
end DL
namespace DL
open PySem PySem.Spec PyProof.Rows L2
structure ExB (K : PySem.W.Frag) (c : Str) (C : Addr) : Prop where
  ns : PySem.W.nsIn K mainGlobals c = some (some (.ref C))
  kp : PySem.W.keepIn K (.ref C) = true
  sb : PySem.W.subIn K (.ref C) (.type "BaseException") = some true
  ty : PySem.W.typeIn K (.ref C) = some (.type "type")
  cc : ExcC K C
def clsInit (s : Stmt) : Stmt := match s with
  | .ClassDef _ _ _ b _ _ _ _ _ _ _ => (b.find? fun t => match t with | .FunctionDef .. => true | _ => false).getD (.Pass ⟨0, 0, 0, 0⟩)
  | _ => .Pass ⟨0, 0, 0, 0⟩
structure InitT (st : Stmt) (fs : List Str) : Prop where
  form : ∃ m j p0 p1 p2 p3 p4 p5 qs, defBody st = (supSt m j p0 p1 p2 p3 p4 p5 :: (fs.zip qs).map fun z => fldSt z.1 z.2) ∧ fs.length = qs.length ∧
    ∀ env : Env, ∃ pl : Sem Bool, eval (.Call (.Attribute (.Call (.Name "super" p0) [] [] p1) "__init__" p2) [.Constant (.str m) j p3] [] p4) env = (do
      let ov ← attributeBase (.Call (.Name "super" p0) [] [] p1) "__init__" env (eval (.Call (.Name "super" p0) [] [] p1) env)
      standAt p2.atName
      let (f, first) ← holding [ov] (getMethod ov "__init__" pl)
      callWith p4 f first (backTo p4 (starEach [.Constant (.str m) j p3] env)) [])
  k1 : (defScope st).names.lookup ("super" : Str) = some .globalImplicit
  k2 : (defScope st).names.lookup ("__class__" : Str) = some .free
  k3 : (defScope st).names.lookup ("self" : Str) = some .local
  k4 : ∀ f ∈ fs, (defScope st).names.lookup f = some .local
  k5 : (defScope st).kind = .function
  k6 : ∀ y ∈ (defScope st).names, y.2 ≠ .cell
  k7 : (defScope st).isCoroutine = false
  k8 : (defScope st).isGenerator = false
  k9 : ∃ ar, ((defArgs st).posonlyargs ++ (defArgs st).args).head? = some ar ∧ ar.arg = "self"
  bind : ∀ (name qual : Str) (kV doc pm : Value) (an : Option Addr) (cdv ct : Value) (cc : Addr) (v : Value) (us : List Value), us.length = fs.length →
    bindArgs (PySem.W.ksFn name qual (defArgs st) (defBody st) (defScope st) .none kV doc pm an cdv ct cc) ⟨v :: us, []⟩ = pure ((("self" : Str), v) :: fs.zip us)
  dist : fs.Nodup ∧ ("self" : Str) ∉ fs ∧ fs ≠ [] ∧ fs.length ≤ 5 ∧ ∀ f ∈ fs, (f == ("__debug__" : Str)) = false
theorem initF_mk {K : PySem.W.Frag} {fI cc cda : Addr} {st : Stmt} {fs : List Str} {name qual : Str} {kV doc pm ct oc : Value} {an od : Option Addr} {osl : Array (Option Value)} (T : InitT st fs)
    (lk : K.lookup fI = some ⟨oc, od, .func (PySem.W.ksFn name qual (defArgs st) (defBody st) (defScope st) .none kV doc pm an (.ref cda) ct cc), osl⟩) (cd : PySem.W.codeIn K (.ref cda) qual = true) :
    InitF K fI cc cda fs (PySem.W.ksFn name qual (defArgs st) (defBody st) (defScope st) .none kV doc pm an (.ref cda) ct cc) := by
  obtain ⟨m, j, p0, p1, p2, p3, p4, p5, qs, e, hl, he⟩ := T.form
  refine ⟨⟨_, _, _, lk⟩, cd, ⟨name, qual, defArgs st, m, j, p0, p1, p2, p3, p4, p5, qs, defScope st, .none, kV, doc, pm, an, ct, by rw [e], hl, T.k1, T.k2, T.k3, T.k4, T.k5, T.k6, T.k7, T.k8, T.k9, he⟩, fun s v us hu => .of_eq (T.bind _ _ _ _ _ _ _ _ _ v us hu), T.dist⟩
def cStr : CF := fun xs ms P => match xs with
  | [.str x] => P (.str x) ms
  | [d] => Shw d ∧ P (.str (repS d)) ms
  | _ => False
def rStrD (K : PySem.W.Frag) : List V → Hp → VK → Prop := fun xs H Q => (∃ x, xs = [.str x] ∧ Q (.str x) H) ∨ ∃ F x d, xs = [x] ∧ (∀ y, d ≠ .str y) ∧ Sub F H ∧ OneR K F ∧ DR K F x d ∧ Shw d ∧ Q (.str (repS d)) H
theorem toPy_str {d : D} {y : Str} (e : toPy d = some (.str y)) : d = .str y := by
  cases d with
  | str x => cases e; rfl
  | lst xs => unfold toPy at e; cases h : toPys xs <;> rw [h] at e <;> cases e
  | tup xs => unfold toPy at e; cases h : toPys xs <;> rw [h] at e <;> cases e
  | fro xs => unfold toPy at e; cases h : toPys xs <;> rw [h] at e <;> cases e
  | _ => cases e
theorem call_strD {X : Cx} {k : Nat} (hr : RoomG k X.A) : CallR X (.type "str") (rStrD X.K) := by
  intro pins s σ H xs us Q I r h
  rcases h with ⟨x, rfl, q⟩ | ⟨F, x, d, rfl, ns, sb, one, hd, ⟨p, e, z1, z3, z4⟩, q⟩
  · obtain ⟨u, rfl, t, rfl⟩ := vals1 r
    exact PySem.P.str_of_str ⟨.str _, H, I, ⟨_, rfl⟩, q⟩
  · obtain ⟨u, rfl, ru⟩ := vals1 r
    obtain ⟨as, rd, ou⟩ := DR.readsA I sb d p x u hd e ru
    have z2 : p.hasDict = true → sysModules ∉ as := fun _ hm => (ou _ hm).not1 one rfl
    have er : repS d = p.shown := by unfold repS; rw [e]
    rw [er] at q
    have hu : X.A.units + (p.depth + 3) < cLine := by have := hr.r.un; omega
    cases rd with
    | none => exact PySem.P.str_of_none ⟨.str _, H, I.tok _, ⟨_, rfl⟩, q⟩
    | bool b => exact PySem.P.str_of_bool ⟨.str _, H, I.tok _, ⟨_, rfl⟩, q⟩
    | int i t => exact PySem.P.str_of_int (of_decide_eq_true z1) ⟨.str _, H, I.tok _, ⟨_, rfl⟩, q⟩
    | str y t => exact absurd (toPy_str e) (ns y)
    | list h1 h2 h3 h4 => exact str_of_reads (.list h1 h2 h3 h4) z1 z2 hr.g hu (fun _ _ e => e) (fun h' t tk hk => ⟨.str _, H, I.kept hk, ⟨_, rfl⟩, q⟩) z4
    | tuple h1 h2 h3 h4 => exact str_of_reads (.tuple h1 h2 h3 h4) z1 z2 hr.g hu (fun _ _ e => e) (fun h' t tk hk => ⟨.str _, H, I.kept hk, ⟨_, rfl⟩, q⟩) z4
    | dict h1 h2 h3 h4 h5 => exact str_of_reads (.dict h1 h2 h3 h4 h5) z1 z2 hr.g hu (fun _ _ e => e) (fun h' t tk hk => ⟨.str _, H, I.kept hk, ⟨_, rfl⟩, q⟩) z4
theorem cal_str {K : PySem.W.Frag} : CalD K (rStrD K) cStr := fun F H ms vs xs P Q R r h q => by
  cases r with
  | nil => exact h.elim
  | cons rd rs =>
  cases rs with
  | cons _ _ => unfold cStr at h; split at h <;> first | exact h.elim | simp_all
  | nil =>
    cases rd with
    | str x => exact .inl ⟨x, rfl, q _ ms _ F H h R Stp.refl (.str _)⟩
    | non => exact .inr ⟨F, _, .non, rfl, (fun _ z => by cases z), R.sub, R.one, .non, h.1, q _ ms _ F H h.2 R Stp.refl (.str _)⟩
    | bl b => exact .inr ⟨F, _, .bl b, rfl, (fun _ z => by cases z), R.sub, R.one, .bl b, h.1, q _ ms _ F H h.2 R Stp.refl (.str _)⟩
    | int i => exact .inr ⟨F, _, .int i, rfl, (fun _ z => by cases z), R.sub, R.one, .int i, h.1, q _ ms _ F H h.2 R Stp.refl (.str _)⟩
    | lst ha hs => exact .inr ⟨F, _, _, rfl, (fun _ z => by cases z), R.sub, R.one, .lst ha hs, h.1, q _ ms _ F H h.2 R Stp.refl (.str _)⟩
    | tup ha hs => exact .inr ⟨F, _, _, rfl, (fun _ z => by cases z), R.sub, R.one, .tup ha hs, h.1, q _ ms _ F H h.2 R Stp.refl (.str _)⟩
    | fro ha hs => exact .inr ⟨F, _, _, rfl, (fun _ z => by cases z), R.sub, R.one, .fro ha hs, h.1, q _ ms _ F H h.2 R Stp.refl (.str _)⟩
    | edic ha => exact .inr ⟨F, _, _, rfl, (fun _ z => by cases z), R.sub, R.one, .edic ha, h.1, q _ ms _ F H h.2 R Stp.refl (.str _)⟩
    | opq v => obtain ⟨⟨p, e, _⟩, _⟩ := h; cases e
    | dct _ => obtain ⟨⟨p, e, _⟩, _⟩ := h; cases e
    | exc _ _ _ _ => obtain ⟨⟨p, e, _⟩, _⟩ := h; cases e
def dChain (f f' : OF) (da db dc : DE) : DE := fun ds ms P => da ds ms fun x m1 => db ds m1 fun y m2 => f x y m2 fun z m3 => match z with
  | .bl k => if k = true then dc ds m3 fun w m4 => f' y w m4 P else P (.bl false) m3
  | _ => False
section
variable {X : Cx} {a b c : Expr} {da db dc : DE} {op op' : CmpOp} {r r' : R2} {f f' : OF} {pos : Pos}
theorem lift_chain {K : PySem.W.Frag} (hf : OpD K r f) (hf' : OpD K r' f') : ∀ σ H Q, lift K (dChain f f' da db dc) σ H Q → tChain r r' (lift K da) (lift K db) (lift K dc) σ H Q := fun σ H Q ⟨F, ds, ms, P, R, S, h1, h2⟩ =>
  ⟨F, ds, ms, _, R, S, h1, fun dx m1 x F1 H1 p1 R1 s1 r1 => ⟨F1, ds, m1, _, R1, S.mono s1.sub, p1, fun dy m2 y F2 H2 p2 R2 s2 r2 => hf F2 H2 m2 x y dx dy _ _ R2 (r1.mono s2.sub) r2 p2 fun dz m3 z F3 H3 p3 R3 s3 r3 => by
    cases r3 with
    | bl k =>
      refine ⟨k, rfl, ?_⟩
      cases k with
      | true =>
        have s13 := (s1.trans s2).trans s3
        simp only [if_true] at p3 ⊢
        exact ⟨F3, ds, m3, _, R3, S.mono s13.sub, p3, fun dw m4 w F4 H4 p4 R4 s4 r4 => hf' F4 H4 m4 y w dy dw _ _ R4 ((r2.mono s3.sub).mono s4.sub) r4 p4 fun d m5 v F5 H5 p5 R5 s5 r5 => h2 d m5 v F5 H5 p5 R5 ((s13.trans s4).trans s5) r5⟩
      | false =>
        simp only [if_neg Bool.false_ne_true] at p3 ⊢
        exact h2 _ m3 _ F3 H3 p3 R3 ((s1.trans s2).trans s3) (.bl false)
    | _ => exact p3.elim⟩⟩
theorem pd_chain (ho : OpR X (compareOp op) r) (hf : OpD X.K r f) (ho' : OpR X (compareOp op') r') (hf' : OpD X.K r' f') (ha : PD X a da) (hb : PD X b db) (hc : PD X c dc)
    (hm : lastMarks [op, op'] [b, c] = false := by with_unfolding_all rfl) : PD X (.Compare a [op, op'] [b, c] pos) (dChain f f' da db dc) := peImp (pe_chain ho ho' ha hb hc hm) (lift_chain hf hf')
end
end DL
namespace DL
open PySem PySem.Spec PyProof.Rows L2
def StG (t : DTS) (E : EN) (ds : DS) (ms : MS) : Prop := t E ds ms
def ExG (de : DE) (ds : DS) (ms : MS) (P : D → MS → Prop) : Prop := de ds ms P
def TsG (dt : DT) (ds : DS) (ms : MS) (P : Bool → MS → Prop) : Prop := dt ds ms P
def ArG (da : DA) (ds : DS) (ms : MS) (P : List D → MS → Prop) : Prop := da ds ms P
def ItG (di : DI) (ds : DS) (ms : MS) (P : List D → MS → Prop) : Prop := di ds ms P
def OgG (o : DO) (ds : DS) (ms : MS) (P : Option Int → MS → Prop) : Prop := o ds ms P
def TgG (g : DG) (d : D) (ds : DS) (P : DS → Prop) : Prop := g d ds P
def TgsG (g : DGs) (d : List D) (ds : DS) (P : DS → Prop) : Prop := g d ds P
def OpG (f : OF) (x y : D) (ms : MS) (P : D → MS → Prop) : Prop := f x y ms P
def CbG (f : CF) (xs : List D) (ms : MS) (P : D → MS → Prop) : Prop := f xs ms P
def SlG (x : D) (l u : Option Int) (ms : MS) (P : D → MS → Prop) : Prop := fSl x l u ms P
def NxG (E : EN) (ds : DS) (ms : MS) : Prop := E.nx ds ms
def RtG (E : EN) (d : D) (ms : MS) : Prop := E.rt d ms
def BkG (E : EN) (ds : DS) (ms : MS) : Prop := E.bk ds ms
def CtG (E : EN) (ds : DS) (ms : MS) : Prop := E.ct ds ms
def XcG (E : EN) (c : Str) (ns : List Str) (xs : List D) (ds : DS) (ms : MS) : Prop := E.ex c ns xs ds ms
/-- ends with another next, as a loop's body has them, with other exceptions -/
def EN.wn (E : EN) (f : DS → MS → Prop) : EN := { E with nx := f }
def EN.lp (E : EN) (f : DS → MS → Prop) : EN := { E with nx := f, ct := f, bk := E.nx }
def EN.wx (E : EN) (f : Str → List Str → List D → DS → MS → Prop) : EN := { E with ex := f }
section
variable {E : EN} {f : DS → MS → Prop} {fx : Str → List Str → List D → DS → MS → Prop} {ds : DS} {ms : MS} {d : D} {c : Str} {ns : List Str} {xs : List D} {un ub uc : DS → MS → Prop} {ur : D → MS → Prop} {ux : Str → List Str → List D → DS → MS → Prop}
theorem n_wn (h : f ds ms) : NxG (EN.wn E f) ds ms := h
theorem n_lp (h : f ds ms) : NxG (EN.lp E f) ds ms := h
theorem n_wx (h : NxG E ds ms) : NxG (EN.wx E fx) ds ms := h
theorem n_mk (h : un ds ms) : NxG ⟨un, ur, ub, uc, ux⟩ ds ms := h
theorem t_wn (h : RtG E d ms) : RtG (EN.wn E f) d ms := h
theorem t_lp (h : RtG E d ms) : RtG (EN.lp E f) d ms := h
theorem t_wx (h : RtG E d ms) : RtG (EN.wx E fx) d ms := h
theorem t_mk (h : ur d ms) : RtG ⟨un, ur, ub, uc, ux⟩ d ms := h
theorem b_wn (h : BkG E ds ms) : BkG (EN.wn E f) ds ms := h
theorem b_lp (h : NxG E ds ms) : BkG (EN.lp E f) ds ms := h
theorem b_wx (h : BkG E ds ms) : BkG (EN.wx E fx) ds ms := h
theorem c_wn (h : CtG E ds ms) : CtG (EN.wn E f) ds ms := h
theorem c_lp (h : f ds ms) : CtG (EN.lp E f) ds ms := h
theorem c_wx (h : CtG E ds ms) : CtG (EN.wx E fx) ds ms := h
theorem x_wn (h : XcG E c ns xs ds ms) : XcG (EN.wn E f) c ns xs ds ms := h
theorem x_lp (h : XcG E c ns xs ds ms) : XcG (EN.lp E f) c ns xs ds ms := h
theorem x_wx (h : fx c ns xs ds ms) : XcG (EN.wx E fx) c ns xs ds ms := h
theorem x_mk (h : ux c ns xs ds ms) : XcG ⟨un, ur, ub, uc, ux⟩ c ns xs ds ms := h
end
section
variable {t : DTS} {E : EN} {ds : DS} {ms : MS} {de : DE} {P : D → MS → Prop} {dt : DT} {PT : Bool → MS → Prop} {da : DA} {PA : List D → MS → Prop} {di : DI} {o : DO} {PO : Option Int → MS → Prop} {g : DG} {gs : DGs} {d x y : D} {xs : List D} {PS : DS → Prop} {f : OF} {c : CF} {l u : Option Int}
theorem StG.out (h : t E ds ms) : StG t E ds ms := h
theorem ExG.out (h : de ds ms P) : ExG de ds ms P := h
theorem TsG.out (h : dt ds ms PT) : TsG dt ds ms PT := h
theorem ArG.out (h : da ds ms PA) : ArG da ds ms PA := h
theorem ItG.out (h : di ds ms PA) : ItG di ds ms PA := h
theorem OgG.out (h : o ds ms PO) : OgG o ds ms PO := h
theorem TgG.out (h : g d ds PS) : TgG g d ds PS := h
theorem TgsG.out (h : gs xs ds PS) : TgsG gs xs ds PS := h
theorem OpG.out (h : f x y ms P) : OpG f x y ms P := h
theorem CbG.out (h : c xs ms P) : CbG c xs ms P := h
theorem SlG.out (h : fSl x l u ms P) : SlG x l u ms P := h
theorem NxG.out (h : E.nx ds ms) : NxG E ds ms := h
end
section
variable {E : EN} {ds ds' : DS} {ms m : MS} {P : D → MS → Prop} {A B : Prop} {t u tb : DTS} {de da db dc : DE} {dt du : DT} {g : DG} {gs : DGs} {aa ak : DA} {di : DI} {d x y : D} {xs ys zs : List D} {n k i j : Nat} {b : Bool} {PT : Bool → MS → Prop} {PA : List D → MS → Prop} {PS : DS → Prop} {PO : Option Int → MS → Prop}
theorem w_seq (h : StG t (EN.wn E (StG u E)) ds ms) : dSeq t u E ds ms := h
theorem w_next (h : NxG E ds ms) : dNext E ds ms := h
theorem w_break (h : BkG E ds ms) : dBreak E ds ms := h
theorem w_cont (h : CtG E ds ms) : dCont E ds ms := h
theorem w_ret (h : ExG de ds ms (RtG E)) : dRet de E ds ms := h
theorem w_retN (h : RtG E .non ms) : dRetN E ds ms := h
theorem w_drop (h : ExG de ds ms fun _ m => NxG E ds m) : dDrop de E ds ms := h
theorem w_ifS (h : TsG dt ds ms fun b m => if b = true then StG t E ds m else StG u E ds m) : dIfS dt t u E ds ms := h
theorem w_asg (h : ExG de ds ms fun d m => TgG g d ds fun ds1 => NxG E ds1 m) : dAsg de g E ds ms := h
def mPar (i j : Nat) (E : EN) (ds : DS) (xs : List D) (m : MS) : Prop := match xs with
  | [x, y] => E.nx (setSlot (setSlot ds i x) j y) m
  | _ => False
theorem w_par (h : ArG aa ds ms fun xs m => mPar i j E ds xs m) : dPar i j aa E ds ms := h
theorem w_mPar (e : setSlot (setSlot ds i x) j y = ds') (h : NxG E ds' m) : mPar i j E ds [x, y] m := by subst e; exact h
theorem w_for (h : ItG di ds ms fun xs m => loopD g tb E xs ds m) : dFor di g tb E ds ms := h
theorem w_raise {c : Str} (h : XcG E c [] [] ds ms) : dRaise c E ds ms := h
theorem w_raiseI {c : Str} {fs : List Str} (h : ArG aa ds ms fun xs m => xs.length = fs.length ∧ XcG E c fs xs ds m) : dRaiseI c fs aa E ds ms := h
theorem w_exprZ {dz : ZD → DE} (h : ExG (dz (XcG E)) ds ms fun _ m => NxG E ds m) : dExprZ dz E ds ms := h
theorem w_retZ {dz : ZD → DE} (h : ExG (dz (XcG E)) ds ms (RtG E)) : dRetZ dz E ds ms := h
theorem w_asgZ {dz : ZD → DE} (h : ExG (dz (XcG E)) ds ms fun d m => TgG g d ds fun ds1 => NxG E ds1 m) : dAsgZ dz g E ds ms := h
def mTry (ml : List (Str × Bool)) (i j : Nat) (E : EN) (c : Str) (ns : List Str) (xs : List D) (ds : DS) (ms : MS) : Prop := match ml.lookup c with
  | some true => E.nx ((setSlot ds j (.exc c ns xs)).set i none) ms
  | some false => E.ex c ns xs ds ms
  | none => False
theorem w_try {ml : List (Str × Bool)} (h : StG tb (EN.wx E (mTry ml i j E)) ds ms) : dTry ml i j tb E ds ms := h
theorem w_try0 {ml : List (Str × Bool)} (h : StG (dTry ml i j tb) (EN.wx E fun _ _ _ _ _ => False) ds ms) : dTry0 ml i j tb E ds ms := h
theorem w_mTry {ml : List (Str × Bool)} {c : Str} {ns : List Str} (e : ml.lookup c = some true) (e2 : (setSlot ds j (.exc c ns xs)).set i none = ds') (h : NxG E ds' ms) : mTry ml i j E c ns xs ds ms := by
  unfold mTry; rw [e]; subst e2; exact h
theorem w_mTryF {ml : List (Str × Bool)} {c : Str} {ns : List Str} (e : ml.lookup c = some false) (h : XcG E c ns xs ds ms) : mTry ml i j E c ns xs ds ms := by
  unfold mTry; rw [e]; exact h
theorem w_loopC (h : TgG g x ds fun ds1 => StG tb (EN.lp E (loopD g tb E ys)) ds1 ms) : loopD g tb E (x :: ys) ds ms := h
theorem w_loopN (h : NxG E ds ms) : loopD g tb E [] ds ms := h
theorem w_name (e : setSlot ds i d = ds') (h : PS ds') : sName i d ds PS := by subst e; exact h
theorem w_stup (e : xs.length = n) (h : TgsG gs xs ds PS) : sTup n gs (.tup xs) ds PS := ⟨e, h⟩
theorem w_scons (h : TgG g x ds fun ds1 => TgsG gs ys ds1 PS) : sCons g gs (x :: ys) ds PS := h
theorem w_snil (h : PS ds) : sNil [] ds PS := h
theorem w_c (h : P d ms) : dC d ds ms P := h
theorem w_var (e : slot ds i = some d) (h : P d ms) : dVar i ds ms P := by unfold dVar; rw [e]; exact h
theorem w_op {f : OF} (h : ExG da ds ms fun x m => ExG db ds m fun y m2 => OpG f x y m2 P) : dOp f da db ds ms P := h
theorem w_tup (h : ArG aa ds ms fun xs m => xs.length ≤ sizeLine ∧ P (.tup xs) m) : dTup aa ds ms P := h
theorem w_lst (h : ArG aa ds ms fun xs m => xs.length ≤ sizeLine ∧ P (.lst xs) m) : dLst aa ds ms P := h
theorem w_lstM (h : ArG aa ds ms fun xs m => xs.length ≤ sizeLine ∧ ∀ p, (∀ q ∈ m, q.1 ≠ p) → P (.opq (.ref p)) ((p, xs) :: m)) : dLstM aa ds ms P := h
theorem w_size (e : n ≤ sizeLine) (h : A) : n ≤ sizeLine ∧ A := ⟨e, h⟩
theorem w_sizeL (e : n < sizeLine) (h : A) : n < sizeLine ∧ A := ⟨e, h⟩
theorem w_anil (h : PA [] ms) : aNil ds ms PA := h
theorem w_acons (h : ExG de ds ms fun x m1 => ArG aa ds m1 fun xs m2 => PA (x :: xs) m2) : aCons de aa ds ms PA := h
theorem w_edic (h : P .edic ms) : dEdic ds ms P := h
def mNeg (d : D) (m : MS) (P : D → MS → Prop) : Prop := match d with
  | .int i => P (.int (-i)) m
  | _ => False
theorem w_neg (h : ExG de ds ms fun x m => mNeg x m P) : dNeg de ds ms P := h
theorem w_mNeg {i : Int} (h : P (.int (-i)) m) : mNeg (.int i) m P := h
def mNot (d : D) (m : MS) (P : D → MS → Prop) : Prop := match d with
  | .bl b => P (.bl (!b)) m
  | _ => False
theorem w_notV (h : ExG de ds ms fun x m => mNot x m P) : dNotV de ds ms P := h
theorem w_mNotT (e : b = true) (h : P (.bl false) m) : mNot (.bl b) m P := by subst e; exact h
theorem w_mNotF (e : b = false) (h : P (.bl true) m) : mNot (.bl b) m P := by subst e; exact h
theorem w_mNot (h : P (.bl (!b)) m) : mNot (.bl b) m P := h
def mAnd (db : DE) (ds : DS) (d : D) (m : MS) (P : D → MS → Prop) : Prop := match d with
  | .bl b => if b = true then db ds m P else P (.bl false) m
  | _ => False
theorem w_andV (h : ExG da ds ms fun x m => mAnd db ds x m P) : dAndV da db ds ms P := h
theorem w_mAnd (h : if b = true then ExG db ds m P else P (.bl false) m) : mAnd db ds (.bl b) m P := h
def mOr (db : DE) (ds : DS) (d : D) (m : MS) (P : D → MS → Prop) : Prop := match d with
  | .bl b => if b = true then P (.bl true) m else db ds m P
  | _ => False
theorem w_orV (h : ExG da ds ms fun x m => mOr db ds x m P) : dOrV da db ds ms P := h
theorem w_mOr (h : if b = true then P (.bl true) m else ExG db ds m P) : mOr db ds (.bl b) m P := h
theorem w_if (h : TsG dt ds ms fun b m => if b = true then ExG da ds m P else ExG db ds m P) : dIf dt da db ds ms P := h
theorem w_iteT (e : b = true) (h : A) : if b = true then A else B := by rw [if_pos e]; exact h
theorem w_iteF (e : b = false) (h : B) : if b = true then A else B := by rw [if_neg (by rw [e]; decide)]; exact h
def mTest (d : D) (m : MS) (P : Bool → MS → Prop) : Prop := match d with
  | .bl b => P b m
  | _ => False
theorem w_test (h : ExG da ds ms fun x m => mTest x m PT) : dTest da ds ms PT := h
theorem w_mTest (h : PT b m) : mTest (.bl b) m PT := h
theorem w_yes (h : PT true ms) : dYes ds ms PT := h
theorem w_not (h : TsG dt ds ms fun b m => PT (!b) m) : dNot dt ds ms PT := h
theorem w_and (h : TsG dt ds ms fun b m => if b = true then TsG du ds m PT else PT false m) : dAnd dt du ds ms PT := h
theorem w_or (h : TsG dt ds ms fun b m => if b = true then PT true m else TsG du ds m PT) : dOr dt du ds ms PT := h
theorem w_tru (h : ExG da ds ms fun x m => truD x m fun b => PT b m) : dTru da ds ms PT := h
def mCall (n k : Nat) (is : List Nat) (fs : FS) (xs zs : List D) (m : MS) (P : D → MS → Prop) : Prop := xs.length = n ∧ zs.length = k ∧ fs (pick is (xs ++ zs)) m P
theorem w_call {is : List Nat} {fs : FS} (h : ArG aa ds ms fun xs m1 => ArG ak ds m1 fun zs m2 => mCall n k is fs xs zs m2 P) : dCall n k is fs aa ak ds ms P := h
theorem w_mCall {is : List Nat} {fs : FS} (e1 : xs.length = n) (e2 : zs.length = k) (e : pick is (xs ++ zs) = ys) (h : fs ys m P) : mCall n k is fs xs zs m P := ⟨e1, e2, by rw [e]; exact h⟩
def mCallZ (n k : Nat) (is : List Nat) (fx : FX) (Z : ZD) (ds : DS) (xs zs : List D) (m : MS) (P : D → MS → Prop) : Prop := xs.length = n ∧ zs.length = k ∧ fx (pick is (xs ++ zs)) m P fun c ns ys m' => Z c ns ys ds m'
theorem w_callZ {is : List Nat} {fx : FX} {Z : ZD} (h : ArG aa ds ms fun xs m1 => ArG ak ds m1 fun zs m2 => mCallZ n k is fx Z ds xs zs m2 P) : dCallZ n k is fx aa ak Z ds ms P := h
theorem w_mCallZ {is : List Nat} {fx : FX} {Z : ZD} (e1 : xs.length = n) (e2 : zs.length = k) (e : pick is (xs ++ zs) = ys) (h : fx ys m P fun c ns ys m' => Z c ns ys ds m') : mCallZ n k is fx Z ds xs zs m P := ⟨e1, e2, by rw [e]; exact h⟩
theorem w_cb {f : CF} (h : ArG aa ds ms fun xs m => CbG f xs m P) : dCB f aa ds ms P := h
section
variable {i j : Int} {a c : List D} {z w : Str} {lo hi : Option Int} {p : Addr}
theorem w_add_ii (h : P (.int (i + j)) ms) : fAdd (.int i) (.int j) ms P := h
theorem w_add_ss (h : z.length + w.length ≤ sizeLine ∧ P (.str (z ++ w)) ms) : fAdd (.str z) (.str w) ms P := h
theorem w_add_ll (h : a.length + c.length ≤ sizeLine ∧ P (.lst (a ++ c)) ms) : fAdd (.lst a) (.lst c) ms P := h
theorem w_add_ol (e : look ms p = some a) (h : a.length + c.length ≤ sizeLine ∧ P (.lst (a ++ c)) ms) : fAdd (.opq (.ref p)) (.lst c) ms P := by unfold fAdd; simp only [e]; exact h
theorem w_add_tt (h : a.length + c.length ≤ sizeLine ∧ P (.tup (a ++ c)) ms) : fAdd (.tup a) (.tup c) ms P := h
theorem w_sub (h : P (.int (i - j)) ms) : fSub (.int i) (.int j) ms P := ⟨trivial, h⟩
theorem w_mul (h : CMulD i j ∧ P (.int (i * j)) ms) : fMul (.int i) (.int j) ms P := h
theorem w_mul_l (h : (-(2 ^ 63) ≤ i ∧ i < 2 ^ 63 ∧ a.length * i.toNat ≤ sizeLine) ∧ P (.lst (List.replicate i.toNat a).flatten) ms) : fMul (.lst a) (.int i) ms P := h
theorem w_div (h : CDivA i j ∧ P (.int (i.fdiv j)) ms) : fDiv (.int i) (.int j) ms P := h
theorem w_mod (h : j ≠ 0 ∧ P (.int (i.fmod j)) ms) : fMod (.int i) (.int j) ms P := h
theorem w_pow (e : 0 ≤ j ∧ j ≤ 1000000) {r : Int} (er : (10 : Int) ^ j.toNat = r) (h : P (.int r) ms) : fPow (.int 10) (.int j) ms P := ⟨⟨e.1, e.2, by decide⟩, by rw [← er] at h; exact h⟩
theorem w_lt (h : P (.bl (decide (i < j))) ms) : fLt (.int i) (.int j) ms P := ⟨trivial, h⟩
theorem w_le (h : P (.bl (decide (i ≤ j))) ms) : fLe (.int i) (.int j) ms P := ⟨trivial, h⟩
theorem w_gt (h : P (.bl (decide (j < i))) ms) : fGt (.int i) (.int j) ms P := ⟨trivial, h⟩
theorem w_ge (h : P (.bl (decide (j ≤ i))) ms) : fGe (.int i) (.int j) ms P := ⟨trivial, h⟩
theorem w_eq_ii (h : P (.bl (i == j)) ms) : fEq (.int i) (.int j) ms P := h
theorem w_eq_ss (h : P (.bl (z == w)) ms) : fEq (.str z) (.str w) ms P := h
theorem w_eq_l0 (h : P (.bl a.isEmpty) ms) : fEq (.lst a) (.lst []) ms P := h
theorem w_eq_bb {b c : Bool} (h : P (.bl (b == c)) ms) : fEq (.bl b) (.bl c) ms P := ⟨⟨_, rfl, rfl⟩, ⟨_, rfl, rfl⟩, by
  have e : eqD (.bl b) (.bl c) = (b == c) := by cases b <;> cases c <;> rfl
  rw [e]; exact h⟩
theorem w_eq_lc (h : ShD (.lst a) ∧ ShD (.lst (d :: c)) ∧ P (.bl (eqD (.lst a) (.lst (d :: c)))) ms) : fEq (.lst a) (.lst (d :: c)) ms P := h
theorem w_eq_tt (h : ShD (.tup a) ∧ ShD (.tup c) ∧ P (.bl (eqD (.tup a) (.tup c))) ms) : fEq (.tup a) (.tup c) ms P := h
theorem w_ne_ii (h : P (.bl (!(i == j))) ms) : fNe (.int i) (.int j) ms P := h
theorem w_ne_ss (h : P (.bl (!(z == w))) ms) : fNe (.str z) (.str w) ms P := h
theorem w_ne_l0 (h : P (.bl (!a.isEmpty)) ms) : fNe (.lst a) (.lst []) ms P := h
theorem w_ne_bb {b c : Bool} (h : P (.bl (!(b == c))) ms) : fNe (.bl b) (.bl c) ms P := ⟨⟨_, rfl, rfl⟩, ⟨_, rfl, rfl⟩, by
  have e : eqD (.bl b) (.bl c) = (b == c) := by cases b <;> cases c <;> rfl
  rw [e]; exact h⟩
theorem w_ne_lc (h : ShD (.lst a) ∧ ShD (.lst (d :: c)) ∧ P (.bl (!eqD (.lst a) (.lst (d :: c)))) ms) : fNe (.lst a) (.lst (d :: c)) ms P := h
theorem w_ne_tt (h : ShD (.tup a) ∧ ShD (.tup c) ∧ P (.bl (!eqD (.tup a) (.tup c))) ms) : fNe (.tup a) (.tup c) ms P := h
theorem w_in_l (h : InOk x a false ms P) : fIn x (.lst a) ms P := h
theorem w_in_t (h : InOk x a false ms P) : fIn x (.tup a) ms P := h
theorem w_notIn_l (h : InOk x a true ms P) : fNotIn x (.lst a) ms P := h
theorem w_notIn_t (h : InOk x a true ms P) : fNotIn x (.tup a) ms P := h
theorem w_ix_t (e : atI a i = some d) (h : P d ms) : fIx (.tup a) (.int i) ms P := by unfold fIx; simp only [e]; exact h
theorem w_ix_l (e : atI a i = some d) (h : P d ms) : fIx (.lst a) (.int i) ms P := by unfold fIx; simp only [asL, e]; exact h
theorem w_ix_f (e : atI a i = some d) (h : P d ms) : fIx (.fro a) (.int i) ms P := by unfold fIx; simp only [asL, e]; exact h
theorem w_ix_o (e0 : look ms p = some a) (e : atI a i = some d) (h : P d ms) : fIx (.opq (.ref p)) (.int i) ms P := by unfold fIx; simp only [asL, e0, e]; exact h
theorem w_ix_s {c : Nat} (e0 : z.length ≤ sizeLine) (e : atI z.cps.toList i = some c) (h : P (.str ⟨#[c]⟩) ms) : fIx (.str z) (.int i) ms P := by unfold fIx; simp only [e]; exact ⟨e0, h⟩
theorem w_at0 {α : Type} (x : α) (r : List α) : atI (x :: r) 0 = some x := by simp [atI, ixN]
theorem w_at1 {α : Type} (x y : α) (r : List α) : atI (x :: y :: r) 1 = some y := by
  have h : (1 : Int) < (r.length : Int) + 1 + 1 := by omega
  simp [atI, ixN, h]
theorem w_at2 {α : Type} (x y z : α) (r : List α) : atI (x :: y :: z :: r) 2 = some z := by
  have h : (2 : Int) < (r.length : Int) + 1 + 1 + 1 := by omega
  simp [atI, ixN, h]
theorem w_at3 {α : Type} (x y z u : α) (r : List α) : atI (x :: y :: z :: u :: r) 3 = some u := by
  have h : (3 : Int) < (r.length : Int) + 1 + 1 + 1 + 1 := by omega
  simp [atI, ixN, h]
theorem w_sl {ol oh : DO} (h : ExG de ds ms fun x m1 => OgG ol ds m1 fun l m2 => OgG oh ds m2 fun u m3 => SlG x l u m3 P) : dSl de ol oh ds ms P := h
theorem w_sl_l (h : P (.lst (cutL a lo hi)) ms) : fSl (.lst a) lo hi ms P := h
theorem w_sl_f (h : P (.lst (cutL a lo hi)) ms) : fSl (.fro a) lo hi ms P := h
theorem w_sl_t (h : P (.tup (cutL a lo hi)) ms) : fSl (.tup a) lo hi ms P := h
theorem w_sl_s (h : z.length ≤ sizeLine ∧ P (.str (cutS z lo hi)) ms) : fSl (.str z) lo hi ms P := h
theorem w_onone (h : PO none ms) : oNone ds ms PO := h
def mSome (d : D) (m : MS) (P : Option Int → MS → Prop) : Prop := match d with
  | .int i => P (some i) m
  | _ => False
theorem w_osome (h : ExG de ds ms fun d m => mSome d m PO) : oSome de ds ms PO := h
theorem w_mSome (h : PO (some i) m) : mSome (.int i) m PO := h
theorem w_len_l (h : P (.int a.length) ms) : cLen [.lst a] ms P := h
theorem w_len_f (h : P (.int a.length) ms) : cLen [.fro a] ms P := h
theorem w_len_t (h : P (.int a.length) ms) : cLen [.tup a] ms P := h
theorem w_len_s (h : z.length ≤ sizeLine ∧ P (.int z.length) ms) : cLen [.str z] ms P := h
theorem w_len_o (e : look ms p = some a) (h : P (.int a.length) ms) : cLen [.opq (.ref p)] ms P := by unfold cLen; simp only [asL, e]; exact h
theorem w_list_l (h : P (.lst a) ms) : cList [.lst a] ms P := h
theorem w_list_f (h : P (.lst a) ms) : cList [.fro a] ms P := h
theorem w_list_t (h : P (.lst a) ms) : cList [.tup a] ms P := h
theorem w_tuple_l (h : P (.tup a) ms) : cTuple [.lst a] ms P := h
theorem w_tuple_t (h : P (.tup a) ms) : cTuple [.tup a] ms P := h
theorem w_str_s (h : P (.str z) ms) : cStr [.str z] ms P := h
theorem w_str_l (h : Shw (.lst a) ∧ P (.str (repS (.lst a))) ms) : cStr [.lst a] ms P := h
theorem w_str_i (h : Shw (.int i) ∧ P (.str (repS (.int i))) ms) : cStr [.int i] ms P := h
theorem w_repr (h : Shw d ∧ P (.str (repS d)) ms) : cRepr [d] ms P := h
theorem w_abs (h : P (.int (if i < 0 then -i else i)) ms) : cAbs [.int i] ms P := h
theorem w_max2 (h : P (.int (if j > i then j else i)) ms) : cMax2 [.int i, .int j] ms P := h
theorem w_min2 (h : P (.int (if j < i then j else i)) ms) : cMin2 [.int i, .int j] ms P := h
theorem w_int_i (h : P (.int i) ms) : cInt1 [.int i] ms P := h
theorem w_int_b (h : P (.int (if b then 1 else 0)) ms) : cInt1 [.bl b] ms P := h
theorem w_all {bs : List Bool} (e : blsOf a = some bs) (h : P (.bl (bs.all id)) ms) : cAll [.lst a] ms P := by unfold cAll; simp only [e]; exact h
theorem w_sum {ns : List Int} (e : intsOf a = some ns) (h : P (.int ns.sum) ms) : cSum [.lst a] ms P := by unfold cSum; simp only [e]; exact h
def mSeq (d : D) (m : MS) (P : List D → MS → Prop) : Prop := match d with
  | .lst xs => P xs m
  | .fro xs => P xs m
  | _ => False
theorem w_iseq (h : ExG de ds ms fun d m => mSeq d m PA) : iSeq de ds ms PA := h
theorem w_mSeq (h : PA a m) : mSeq (.lst a) m PA := h
theorem w_mSeqF (h : PA a m) : mSeq (.fro a) m PA := h
def mTupI (d : D) (m : MS) (P : List D → MS → Prop) : Prop := match d with
  | .tup xs => P xs m
  | _ => False
theorem w_itup (h : ExG de ds ms fun d m => mTupI d m PA) : iTupD de ds ms PA := h
theorem w_mTupI (h : PA a m) : mTupI (.tup a) m PA := h
def mRng (xs : List D) (m : MS) (P : List D → MS → Prop) : Prop := match xs with
  | [.int j] => (-(2 ^ 62) ≤ j ∧ j < 2 ^ 62) ∧ P (rng 0 j.toNat) m
  | _ => False
theorem w_irng1 (h : ArG aa ds ms fun xs m => mRng xs m PA) : iRange1 aa ds ms PA := h
theorem w_mRng (e : -(2 ^ 62) ≤ j ∧ j < 2 ^ 62) (h : PA (rng 0 j.toNat) m) : mRng [.int j] m PA := ⟨e, h⟩
def mZip (xs : List D) (m : MS) (P : List D → MS → Prop) : Prop := match xs with
  | [.lst a, .lst b] => P (zipD a b) m
  | _ => False
theorem w_izip (h : ArG aa ds ms fun xs m => mZip xs m PA) : iZipD aa ds ms PA := h
theorem w_mZip (h : PA (zipD a c) m) : mZip [.lst a, .lst c] m PA := h
def mEnum (xs : List D) (m : MS) (P : List D → MS → Prop) : Prop := match xs with
  | [.lst a] => P (enumD a) m
  | _ => False
theorem w_ienum (h : ArG aa ds ms fun xs m => mEnum xs m PA) : iEnumD aa ds ms PA := h
theorem w_mEnum (h : PA (enumD a) m) : mEnum [.lst a] m PA := h
theorem w_lc {tt : DT} {te : DE} {vs : List Nat} (e : ∀ d, wipeD d vs = wipeD d vs) (h : ItG di ds ms fun xs m => compD g tt te (wipeD ds vs) xs [] m fun ys m' => P (.lst ys) m') : dLc di g tt te vs ds ms P := h
def mIsi (T : Ty) (d : D) (m : MS) (P : D → MS → Prop) : Prop := match tyD d with
  | some a => P (.bl (subT a T)) m
  | none => False
theorem w_isi {T : Ty} (h : ExG de ds ms fun d m => mIsi T d m P) : dIsi T de ds ms P := h
theorem w_mIsiT {T a : Ty} (e : tyD d = some a) (e2 : subT a T = true) (h : P (.bl true) m) : mIsi T d m P := by unfold mIsi; simp only [e, e2]; exact h
theorem w_mIsiF {T a : Ty} (e : tyD d = some a) (e2 : subT a T = false) (h : P (.bl false) m) : mIsi T d m P := by unfold mIsi; simp only [e, e2]; exact h
def mIsE (ml : List (Str × Bool)) (d : D) (m : MS) (P : D → MS → Prop) : Prop := match d with
  | .exc c _ _ => (match ml.lookup c with
    | some b => P (.bl b) m
    | none => False)
  | _ => False
theorem w_isE {ml : List (Str × Bool)} (h : ExG de ds ms fun d m => mIsE ml d m P) : dIsE ml de ds ms P := h
theorem w_mIsE {ml : List (Str × Bool)} {c : Str} {ns : List Str} {b : Bool} (e : ml.lookup c = some b) (h : P (.bl b) m) : mIsE ml (.exc c ns xs) m P := by unfold mIsE; simp only [e]; exact h
def mFld (ml : List (Str × Bool)) (f : Str) (d : D) (m : MS) (P : D → MS → Prop) : Prop := match d with
  | .exc c ns xs => (ml.lookup c).isSome = true ∧ ∃ y, (ns.zip xs).lookup f = some y ∧ P y m
  | _ => False
theorem w_fld {ml : List (Str × Bool)} {f : Str} (h : ExG de ds ms fun d m => mFld ml f d m P) : dFld ml f de ds ms P := h
theorem w_mFld {ml : List (Str × Bool)} {f c : Str} {ns : List Str} {b : Bool} (e : ml.lookup c = some b) (e2 : (ns.zip xs).lookup f = some y) (h : P y m) : mFld ml f (.exc c ns xs) m P := by unfold mFld; simp only [e]; exact ⟨rfl, y, e2, h⟩
def mApp (aa : DA) (ds : DS) (d : D) (m : MS) (P : D → MS → Prop) : Prop := match d with
  | .opq (.ref p) => (∃ xs0, look m p = some xs0) ∧ aa ds m fun ys m2 => (match ys with
    | [y] => (match look m2 p with
      | some xs => xs.length < sizeLine ∧ P .non (put m2 p (xs ++ [y]))
      | none => False)
    | _ => False)
  | _ => False
def mApp2 (p : Addr) (ys : List D) (m : MS) (P : D → MS → Prop) : Prop := match ys with
  | [y] => (match look m p with
    | some xs => xs.length < sizeLine ∧ P .non (put m p (xs ++ [y]))
    | none => False)
  | _ => False
theorem w_append (h : ExG de ds ms fun d m => mApp aa ds d m P) : dAppend de aa ds ms P := h
theorem w_mApp (e : look m p = some xs) (h : ArG aa ds m fun ys m2 => mApp2 p ys m2 P) : mApp aa ds (.opq (.ref p)) m P := ⟨⟨_, e⟩, h⟩
theorem w_mApp2 {m' : MS} (e : look m p = some xs) (e2 : put m p (xs ++ [y]) = m') (h : xs.length < sizeLine ∧ P .non m') : mApp2 p [y] m P := by unfold mApp2; simp only [e, e2]; exact h
theorem put_new {p : Addr} {xs ys : List D} {m : MS} : put ((p, xs) :: m) p ys = (p, ys) :: m := by unfold put; rw [if_pos rfl]
theorem drp_new {p : Addr} {xs : List D} {m : MS} : drp ((p, xs) :: m) p = m := by unfold drp; rw [if_pos rfl]
def mFrz (d : D) (m : MS) (P : D → MS → Prop) : Prop := match d with
  | .opq (.ref p) => (match look m p with
    | some xs => P (.lst xs) (drp m p)
    | none => False)
  | _ => False
theorem w_frz (h : ExG de ds ms fun d m => mFrz d m P) : dFrz de ds ms P := h
theorem w_mFrz {m' : MS} (e : look m p = some xs) (e2 : drp m p = m') (h : P (.lst xs) m') : mFrz (.opq (.ref p)) m P := by unfold mFrz; simp only [e, e2]; exact h
theorem look_new {p : Addr} {xs : List D} {m : MS} : look ((p, xs) :: m) p = some xs := by unfold look; rw [if_pos rfl]
def mChain (f' : OF) (dc : DE) (ds : DS) (y z : D) (m : MS) (P : D → MS → Prop) : Prop := match z with
  | .bl k => if k = true then dc ds m fun w m4 => f' y w m4 P else P (.bl false) m
  | _ => False
theorem w_chain {f f' : OF} (h : ExG da ds ms fun x m1 => ExG db ds m1 fun y m2 => OpG f x y m2 fun z m3 => mChain f' dc ds y z m3 P) : dChain f f' da db dc ds ms P := h
theorem w_mChain {f' : OF} (h : if b = true then ExG dc ds m fun w m4 => OpG f' y w m4 P else P (.bl false) m) : mChain f' dc ds y (.bl b) m P := h
def mIs (neg : Bool) (x y : D) (m : MS) (P : D → MS → Prop) : Prop := fIsB neg x y m P
theorem w_is (h : mIs false x y ms P) : fIs x y ms P := h
theorem w_notIs (h : mIs true x y ms P) : fNotIs x y ms P := h
theorem w_mIsN {neg z : Bool} (e : nonD x = some z) (h : P (.bl (Bool.xor neg z)) ms) : mIs neg x .non ms P := by unfold mIs fIsB; simp only [e]; exact h
theorem w_mIsB {neg a c : Bool} (h : P (.bl (Bool.xor neg (decide (a = c)))) ms) : mIs neg (.bl a) (.bl c) ms P := h
end
end
section
variable {E : EN} {ds : DS} {ms : MS} {P : D → MS → Prop} {t u : DTS} {de da db : DE} {dt du : DT} {g : DG} {gs : DGs} {aa ak : DA} {di : DI} {d : D} {n k i : Nat} {PT : Bool → MS → Prop} {PS : DS → Prop} {f : OF} {c : CF} {is : List Nat} {fs : FS}
theorem r_nx (h : NxG E ds ms) : E.nx ds ms := h
theorem r_rt (h : RtG E d ms) : E.rt d ms := h
theorem r_seq (h : StG (dSeq t u) E ds ms) : dSeq t u E ds ms := h
theorem r_ret (h : StG (dRet de) E ds ms) : dRet de E ds ms := h
theorem r_ifS (h : StG (dIfS dt t u) E ds ms) : dIfS dt t u E ds ms := h
theorem r_asg (h : StG (dAsg de g) E ds ms) : dAsg de g E ds ms := h
theorem r_drop (h : StG (dDrop de) E ds ms) : dDrop de E ds ms := h
theorem r_for (h : StG (dFor di g t) E ds ms) : dFor di g t E ds ms := h
theorem r_exprZ {dz : ZD → DE} (h : StG (dExprZ dz) E ds ms) : dExprZ dz E ds ms := h
theorem r_name (h : TgG (sName i) d ds PS) : sName i d ds PS := h
theorem r_stup (h : TgG (sTup n gs) d ds PS) : sTup n gs d ds PS := h
theorem r_op (h : ExG (dOp f da db) ds ms P) : dOp f da db ds ms P := h
theorem r_call (h : ExG (dCall n k is fs aa ak) ds ms P) : dCall n k is fs aa ak ds ms P := h
theorem r_cb (h : ExG (dCB c aa) ds ms P) : dCB c aa ds ms P := h
theorem r_var (h : ExG (dVar i) ds ms P) : dVar i ds ms P := h
theorem r_c (h : ExG (dC d) ds ms P) : dC d ds ms P := h
theorem r_tup (h : ExG (dTup aa) ds ms P) : dTup aa ds ms P := h
theorem r_lst (h : ExG (dLst aa) ds ms P) : dLst aa ds ms P := h
theorem r_andV (h : ExG (dAndV da db) ds ms P) : dAndV da db ds ms P := h
theorem r_orV (h : ExG (dOrV da db) ds ms P) : dOrV da db ds ms P := h
theorem r_notV (h : ExG (dNotV da) ds ms P) : dNotV da ds ms P := h
theorem r_if (h : ExG (dIf dt da db) ds ms P) : dIf dt da db ds ms P := h
theorem r_test (h : TsG (dTest da) ds ms PT) : dTest da ds ms PT := h
theorem r_not (h : TsG (dNot dt) ds ms PT) : dNot dt ds ms PT := h
theorem r_and (h : TsG (dAnd dt du) ds ms PT) : dAnd dt du ds ms PT := h
theorem r_or (h : TsG (dOr dt du) ds ms PT) : dOr dt du ds ms PT := h
theorem r_lc {tt : DT} {te : DE} {vs : List Nat} (h : ExG (dLc di g tt te vs) ds ms P) : dLc di g tt te vs ds ms P := h
theorem r_sl {ol oh : DO} (h : ExG (dSl de ol oh) ds ms P) : dSl de ol oh ds ms P := h
theorem r_isi {T : Ty} (h : ExG (dIsi T de) ds ms P) : dIsi T de ds ms P := h
theorem r_chain {f' : OF} {dc : DE} (h : ExG (dChain f f' da db dc) ds ms P) : dChain f f' da db dc ds ms P := h
theorem r_neg (h : ExG (dNeg de) ds ms P) : dNeg de ds ms P := h
end
end DL
namespace DL
open PySem PySem.Spec PyProof.Rows L2
def EN.gone (E : EN) (i : Nat) : EN := { nx := fun ds m => E.nx (ds.set i none) m, rt := E.rt, bk := fun ds m => E.bk (ds.set i none) m, ct := fun ds m => E.ct (ds.set i none) m }
def mTryG (ml : List (Str × Bool)) (i : Nat) (ts : DTS) (E : EN) (c : Str) (ns : List Str) (xs : List D) (ds : DS) (ms : MS) : Prop := match ml.lookup c with
  | some true => ts (EN.gone E i) (setSlot ds i (.exc c ns xs)) ms
  | some false => E.ex c ns xs ds ms
  | none => False
def dTryG (ml : List (Str × Bool)) (i : Nat) (tb ts : DTS) : DTS := fun E ds ms => tb { E with ex := mTryG ml i ts E } ds ms
def dTryG0 (ml : List (Str × Bool)) (i : Nat) (tb ts : DTS) : DTS := fun E ds ms => dTryG ml i tb ts { E with ex := fun _ _ _ _ _ => False } ds ms
section
variable {ml : List (Str × Bool)} {i : Nat} {tb ts : DTS} {E : EN} {ds ds' : DS} {ms : MS} {c : Str} {ns : List Str} {xs : List D} {d : D}
theorem w_tryG (h : StG tb (EN.wx E (mTryG ml i ts E)) ds ms) : dTryG ml i tb ts E ds ms := h
theorem w_tryG0 (h : StG (dTryG ml i tb ts) (EN.wx E fun _ _ _ _ _ => False) ds ms) : dTryG0 ml i tb ts E ds ms := h
theorem w_mTryG (e : ml.lookup c = some true) (e2 : setSlot ds i (.exc c ns xs) = ds') (h : StG ts (EN.gone E i) ds' ms) : mTryG ml i ts E c ns xs ds ms := by
  unfold mTryG; rw [e]; subst e2; exact h
theorem w_mTryGF (e : ml.lookup c = some false) (h : XcG E c ns xs ds ms) : mTryG ml i ts E c ns xs ds ms := by
  unfold mTryG; rw [e]; exact h
theorem n_gone (e : ds.set i none = ds') (h : NxG E ds' ms) : NxG (EN.gone E i) ds ms := by subst e; exact h
theorem t_gone (h : RtG E d ms) : RtG (EN.gone E i) d ms := h
theorem b_gone (e : ds.set i none = ds') (h : BkG E ds' ms) : BkG (EN.gone E i) ds ms := by subst e; exact h
theorem c_gone (e : ds.set i none = ds') (h : CtG E ds' ms) : CtG (EN.gone E i) ds ms := by subst e; exact h
end
def dCallA (n m : Nat) (is : List Nat) (fs : FS) (dd : List D) (aa ak : DA) : DE := fun ds ms P => aa ds ms fun xs m1 => ak ds m1 fun zs m2 => xs.length = n ∧ zs.length = m ∧ fs (pick is (xs ++ (zs ++ dd))) m2 P
def dCallAZ (n m : Nat) (is : List Nat) (fx : FX) (dd : List D) (aa ak : DA) (Z : ZD) : DE := fun ds ms P => aa ds ms fun xs m1 => ak ds m1 fun zs m2 => xs.length = n ∧ zs.length = m ∧ fx (pick is (xs ++ (zs ++ dd))) m2 P fun c ns ys m' => Z c ns ys ds m'
section
variable {n k : Nat} {is : List Nat} {fs : FS} {fx : FX} {dd xs zs ys : List D} {aa ak : DA} {ds : DS} {ms m : MS} {P : D → MS → Prop} {Z : ZD}
def mCallA (n k : Nat) (is : List Nat) (fs : FS) (dd xs zs : List D) (m : MS) (P : D → MS → Prop) : Prop := xs.length = n ∧ zs.length = k ∧ fs (pick is (xs ++ (zs ++ dd))) m P
theorem w_callA (h : ArG aa ds ms fun xs m1 => ArG ak ds m1 fun zs m2 => mCallA n k is fs dd xs zs m2 P) : dCallA n k is fs dd aa ak ds ms P := h
theorem w_mCallA (e1 : xs.length = n) (e2 : zs.length = k) (e : pick is (xs ++ (zs ++ dd)) = ys) (h : fs ys m P) : mCallA n k is fs dd xs zs m P := ⟨e1, e2, by rw [e]; exact h⟩
def mCallAZ (n k : Nat) (is : List Nat) (fx : FX) (dd : List D) (Z : ZD) (ds : DS) (xs zs : List D) (m : MS) (P : D → MS → Prop) : Prop := xs.length = n ∧ zs.length = k ∧ fx (pick is (xs ++ (zs ++ dd))) m P fun c ns ys m' => Z c ns ys ds m'
theorem w_callAZ (h : ArG aa ds ms fun xs m1 => ArG ak ds m1 fun zs m2 => mCallAZ n k is fx dd Z ds xs zs m2 P) : dCallAZ n k is fx dd aa ak Z ds ms P := h
theorem w_mCallAZ (e1 : xs.length = n) (e2 : zs.length = k) (e : pick is (xs ++ (zs ++ dd)) = ys) (h : fx ys m P fun c ns ys m' => Z c ns ys ds m') : mCallAZ n k is fx dd Z ds xs zs m P := ⟨e1, e2, by rw [e]; exact h⟩
end
end DL
namespace DL
open PySem PySem.Spec PyProof.Rows L2
def asT (d : D) (ms : MS) : Option (List D) := match d with
  | .tup xs => some xs
  | d => asL d ms
def aStar (de : DE) (da : DA) : DA := fun ds ms P => de ds ms fun d m1 => match asT d m1 with
  | some xs => da ds m1 fun ys m2 => P (xs ++ ys) m2
  | none => False
section
variable {X : Cx} {K : PySem.W.Frag} {da : DE} {e : Expr} {es : List Expr} {p : Pos} {aa : DA}
theorem Rel.asT {F H : Hp} {ms : MS} (R : Rel K F H ms) {v : V} {d : D} {xs : List D} (r : DR K F v d) (h : asT d ms = some xs) : ∃ a vs, v = .ref a ∧ (SqT K H a vs ∨ SqL K H a vs) ∧ DRs K F vs xs := by
  cases r with
  | tup h1 h2 => cases h; exact ⟨_, _, rfl, .inl (R.sub.sqT h1), h2⟩
  | lst h1 h2 => obtain ⟨a, vs, e, h3, h4⟩ := R.asL (.lst h1 h2) h; exact ⟨a, vs, e, .inr h3, h4⟩
  | fro h1 h2 => obtain ⟨a, vs, e, h3, h4⟩ := R.asL (.fro h1 h2) h; exact ⟨a, vs, e, .inr h3, h4⟩
  | opq v => obtain ⟨a, vs, e, h3, h4⟩ := R.asL (.opq v) h; exact ⟨a, vs, e, .inr h3, h4⟩
  | _ => cases h
theorem pda_star (ha : PD X e da) (hr : PDA X es aa) (hs : starEach (.Starred e p :: es) X.env = (true, eval e X.env) :: starEach es X.env := by rfl) : PDA X (.Starred e p :: es) (aStar da aa) :=
  paImp (StX.pa_star ha hr hs) fun σ H Q ⟨F, ds, ms, P, R, S, h1, h2⟩ =>
    ⟨F, ds, ms, _, R, S, h1, fun dx m1 x F1 H1 p1 R1 s1 r1 => by
      revert p1
      split
      · rename_i xs e1
        intro p1
        obtain ⟨a, vs, rfl, h3, h4⟩ := R1.asT r1 e1
        exact ⟨a, vs, rfl, h3, F1, ds, m1, _, R1, S.mono s1.sub, p1, fun ys m2 ws F2 H2 p2 R2 s2 r2 =>
          h2 _ m2 (vs ++ ws) F2 H2 p2 R2 (s1.trans s2) ((h4.mono s2.sub).append r2)⟩
      · intro p1; exact p1.elim⟩
end
end DL
namespace DL
open PySem PySem.Spec PyProof.Rows L2
def dLcM (di : DI) (g : DG) (tt : DT) (te : DE) (vs : List Nat) : DE := fun ds ms P => di ds ms fun xs m => compD g tt te (wipeD ds vs) xs [] m fun ys m' => ∀ p, (∀ q ∈ m', q.1 ≠ p) → P (.opq (.ref p)) ((p, ys) :: m')
/-- a + b, lists, written to -/
def fAddM : OF := fun x y ms P => match x, y with
  | .lst a, .lst b => a.length + b.length ≤ sizeLine ∧ ∀ p, (∀ q ∈ ms, q.1 ≠ p) → P (.opq (.ref p)) ((p, a ++ b) :: ms)
  | _, _ => False
theorem opd_addM {K : PySem.W.Frag} : OpD K (rAddD K) fAddM := by
  intro F H ms x y dx dy P Q R rx ry h q
  cases rx with
  | lst h1 r1 => cases ry with
    | lst h2 r2 =>
      refine .inr (.inr (.inl ⟨_, _, _, _, rfl, rfl, R.sub _ _ h1, R.sub _ _ h2, by rw [r1.length, r2.length]; exact h.1, fun p hp => ?_⟩))
      exact q _ _ _ F _ (h.2 p (R.newMut hp (r1.append r2)).1) (R.newMut hp (r1.append r2)).2 (Stp.newMut hp) (.opq _)
    | _ => exact h.elim
  | _ => exact h.elim
/-- a * k, a list, written to -/
def fMulM : OF := fun x y ms P => match x, y with
  | .lst a, .int k => (-(2 ^ 63) ≤ k ∧ k < 2 ^ 63 ∧ a.length * k.toNat ≤ sizeLine) ∧ ∀ p, (∀ q ∈ ms, q.1 ≠ p) → P (.opq (.ref p)) ((p, (List.replicate k.toNat a).flatten) :: ms)
  | _, _ => False
theorem opd_mulM {K : PySem.W.Frag} : OpD K rMulD fMulM := by
  intro F H ms x y dx dy P Q R rx ry h q
  cases rx with
  | lst h1 r1 => cases ry with
    | int k =>
      obtain ⟨⟨z1, z2, z3⟩, z4⟩ := h
      refine .inr ⟨_, k, _, rfl, rfl, R.sub _ _ h1, z1, z2, by rw [r1.length]; exact z3, fun p hp => ?_⟩
      exact q _ _ _ F _ (z4 p (R.newMut hp (r1.rep k.toNat)).1) (R.newMut hp (r1.rep k.toNat)).2 (Stp.newMut hp) (.opq _)
    | _ => exact h.elim
  | _ => exact h.elim
/-- list(x), written to -/
def cListM : CF := fun xs ms P => match xs with
  | [.tup ys] => ∀ p, (∀ q ∈ ms, q.1 ≠ p) → P (.opq (.ref p)) ((p, ys) :: ms)
  | [.lst ys] => ∀ p, (∀ q ∈ ms, q.1 ≠ p) → P (.opq (.ref p)) ((p, ys) :: ms)
  | _ => False
theorem cal_listM {K : PySem.W.Frag} : CalD K (fun xs H Q => ∃ p ys, xs = [.ref p] ∧ (SqL K H p ys ∨ SqT K H p ys) ∧ ∀ l, H l = none → Q (.ref l) (upd H l (.lst ys))) cListM := fun F H ms vs xs P Q R r h q => by
  match xs, r, h with
  | a :: _ :: _, _, h => cases a <;> exact h.elim
  | [d], .cons (v := v) rd .nil, h =>
    cases rd with
    | tup ha hs => exact ⟨_, _, rfl, .inr (R.sub.sqT ha), fun l hl => q _ _ _ F _ (h l (R.newMut hl hs).1) (R.newMut hl hs).2 (Stp.newMut hl) (.opq _)⟩
    | lst ha hs => exact ⟨_, _, rfl, .inl (SqL.of (R.sub _ _ ha)), fun l hl => q _ _ _ F _ (h l (R.newMut hl hs).1) (R.newMut hl hs).2 (Stp.newMut hl) (.opq _)⟩
    | _ => exact h.elim
theorem w_listM_t {ys : List D} {ms : MS} {P : D → MS → Prop} (h : ∀ p, (∀ q ∈ ms, q.1 ≠ p) → P (.opq (.ref p)) ((p, ys) :: ms)) : cListM [.tup ys] ms P := h
theorem w_listM_l {ys : List D} {ms : MS} {P : D → MS → Prop} (h : ∀ p, (∀ q ∈ ms, q.1 ≠ p) → P (.opq (.ref p)) ((p, ys) :: ms)) : cListM [.lst ys] ms P := h
/-- ahead of a statement a list that changes no more is made fast -/
def dFrzS (i : Nat) (t : DTS) : DTS := fun E ds ms => match slot ds i with
  | some (.opq (.ref p)) => (match look ms p with
    | some xs => t E (setSlot ds i (.lst xs)) (drp ms p)
    | none => False)
  | _ => False
theorem setSlot_σ : ∀ {K : PySem.W.Frag} {F : Hp} {σ : L2.St} {ds : DS} {i : Nat} {v : V} {d : D}, Sl K F σ ds → σ[i]? = some (some v) → DR K F v d → Sl K F σ (setSlot ds i d)
  | _, _, _, _, i, _, _, .nil, _, _ => by cases i <;> exact .nil
  | _, _, _, _, 0, _, _, .sm h r, e, q => by cases e; exact .sm q r
  | _, _, _, _, 0, _, _, .nn r, e, q => by
    have e' := Option.some.inj e
    subst e'
    exact .sm q r
  | _, _, _, _, i + 1, _, _, .sm h r, e, q => .sm h (setSlot_σ (i := i) r e q)
  | _, _, _, _, i + 1, _, _, .nn r, e, q => .nn (setSlot_σ (i := i) r e q)
theorem liftS_frz {K : PySem.W.Frag} {t : DTS} {i : Nat} : ∀ D σ H, liftS K (dFrzS i t) D σ H → liftS K t D σ H := fun D σ H ⟨F, ds, ms, E, R, S, h, n, r, k, q⟩ => by
  unfold dFrzS at h
  split at h
  · rename_i p e
    split at h
    · rename_i xs e1
      obtain ⟨v, hv, hr⟩ := S.get e
      cases hr
      obtain ⟨vs, z1, z2, z3⟩ := relFrz R e1
      exact ⟨_, _, _, E, z1, setSlot_σ (S.mono z2.sub) hv z3, h, fun ds' m' σ' F' H' h' R' s' S' => n ds' m' σ' F' H' h' R' (z2.trans s') S', fun d m' v' F' H' h' R' s' r' => r d m' v' F' H' h' R' (z2.trans s') r',
        fun ds' m' σ' F' H' h' R' s' S' => k ds' m' σ' F' H' h' R' (z2.trans s') S', fun ds' m' σ' F' H' h' R' s' S' => q ds' m' σ' F' H' h' R' (z2.trans s') S'⟩
    · exact h.elim
  · exact h.elim
theorem pds_frz {X : Cx} {st : Stmt} {t : DTS} {i : Nat} (h : PDS X st t) : PDS X st (dFrzS i t) := psImp h liftS_frz
theorem w_frzS {t : DTS} {E : EN} {ds ds' : DS} {ms ms' : MS} {i : Nat} {p : Addr} {xs : List D} (e : slot ds i = some (.opq (.ref p))) (e1 : look ms p = some xs) (e2 : setSlot ds i (.lst xs) = ds') (e3 : drp ms p = ms') (h : StG t E ds' ms') : dFrzS i t E ds ms := by
  unfold dFrzS; simp only [e, e1, e2, e3]; exact h
theorem w_lcM {di : DI} {g : DG} {tt : DT} {te : DE} {vs : List Nat} {ds : DS} {ms : MS} {P : D → MS → Prop} (h : ItG di ds ms fun xs m => compD g tt te (wipeD ds vs) xs [] m fun ys m' => ∀ p, (∀ q ∈ m', q.1 ≠ p) → P (.opq (.ref p)) ((p, ys) :: m')) : dLcM di g tt te vs ds ms P := h
theorem w_addM {a c : List D} {ms : MS} {P : D → MS → Prop} (h : a.length + c.length ≤ sizeLine ∧ ∀ p, (∀ q ∈ ms, q.1 ≠ p) → P (.opq (.ref p)) ((p, a ++ c) :: ms)) : fAddM (.lst a) (.lst c) ms P := h
mutual
def flat : D → Bool
  | .non => true
  | .bl _ => true
  | .int _ => true
  | .str _ => true
  | .tup xs => flats xs
  | .opq _ => true
  | .lst _ => false
  | .fro _ => false
  | .edic => false
  | .dct _ => false
  | .exc _ _ _ => false
def flats : List D → Bool
  | [] => true
  | x :: r => flat x && flats r
end
def flatM (ms : MS) : Prop := ∀ q ∈ ms, flats q.2 = true
mutual
theorem DR.flat {K : PySem.W.Frag} {F F' : Hp} (e : ∀ b vs, (F b = some (.tup vs) → F' b = some (.tup vs)) ∧ ∀ o, F b = some (.frz o (.tup vs)) → F' b = some (.frz o (.tup vs))) : ∀ {v : V} {d : D}, flat d = true → DR K F v d → DR K F' v d
  | _, _, _, .non => .non
  | _, _, _, .bl b => .bl b
  | _, _, _, .int i => .int i
  | _, _, _, .str x => .str x
  | _, _, h, .tup (a := a) (xs := xs) hq hs => .tup (by
      rcases hq with (h1 | ⟨o, h1⟩) | h1
      · exact .inl (.inl ((e _ _).1 h1))
      · exact .inl (.inr ⟨o, (e _ _).2 o h1⟩)
      · exact .inr h1) (DRs.flat e h hs)
  | _, _, _, .opq v => .opq v
  | _, _, h, .lst _ _ => by cases h
  | _, _, h, .fro _ _ => by cases h
  | _, _, h, .edic _ => by cases h
  | _, _, h, .dct _ => by cases h
  | _, _, h, .exc _ _ _ _ => by cases h
theorem DRs.flat {K : PySem.W.Frag} {F F' : Hp} (e : ∀ b vs, (F b = some (.tup vs) → F' b = some (.tup vs)) ∧ ∀ o, F b = some (.frz o (.tup vs)) → F' b = some (.frz o (.tup vs))) : ∀ {vs : List V} {ds : List D}, flats ds = true → DRs K F vs ds → DRs K F' vs ds
  | _, _, _, .nil => .nil
  | _, _, h, .cons h1 h2 => .cons (DR.flat e (Bool.and_eq_true_iff.mp h).1 h1) (DRs.flat e (Bool.and_eq_true_iff.mp h).2 h2)
end
def dLoan (i : Nat) (de : DE) : DE := fun ds ms P => match slot ds i with
  | some (.opq (.ref p)) => (match look ms p with
    | some xs => de (setSlot ds i (.lst xs)) (drp ms p) fun d m => flat d = true ∧ flatM m ∧ P d ((p, xs) :: m)
    | none => False)
  | _ => False
theorem w_loan {i : Nat} {de : DE} {ds ds' : DS} {ms ms' : MS} {P : D → MS → Prop} {p : Addr} {xs : List D} (e : slot ds i = some (.opq (.ref p))) (e1 : look ms p = some xs) (e2 : setSlot ds i (.lst xs) = ds') (e3 : drp ms p = ms') (h : ExG de ds' ms' fun d m => flat d = true ∧ flatM m ∧ P d ((p, xs) :: m)) : dLoan i de ds ms P := by
  unfold dLoan; simp only [e, e1, e2, e3]; exact h
def mSetIx (E : EN) (ds : DS) (v o i : D) (m3 : MS) : Prop := match o, i with
  | .opq (.ref p), .int k => (match look m3 p with
    | some xs => (match ixN xs.length k with
      | some j => E.nx ds (put m3 p (xs.set j v))
      | none => False)
    | none => False)
  | _, _ => False
theorem w_setIx {do_ di dv : DE} {E : EN} {ds : DS} {ms : MS} (h : ExG dv ds ms fun v m1 => ExG do_ ds m1 fun o m2 => ExG di ds m2 fun i m3 => mSetIx E ds v o i m3) : dSetIx do_ di dv E ds ms := h
theorem w_mSetIx {E : EN} {ds : DS} {v : D} {p : Addr} {k : Int} {m m' : MS} {xs : List D} {j : Nat} (e : look m p = some xs) (e2 : ixN xs.length k = some j) (e3 : put m p (xs.set j v) = m') (h : NxG E ds m') : mSetIx E ds v (.opq (.ref p)) (.int k) m := by
  unfold mSetIx; simp only [e, e2, e3]; exact h
end DL
namespace DL
open PySem PySem.Spec PyProof.Rows L2
/-- C(..), an own class without an __init__ -/
def dMk0 (c : Str) (aa : DA) : DE := fun ds ms P => aa ds ms fun xs m => xs.length ≤ sizeLine ∧ P (.exc c [] []) m
/-- C(..), an own class that keeps its arguments -/
def dMkI (c : Str) (fs : List Str) (aa : DA) : DE := fun ds ms P => aa ds ms fun xs m => xs.length = fs.length ∧ P (.exc c fs xs) m
structure CntOk (a : List D) (d : D) (n : Nat) : Prop where
  ex : ∃ ps q, toPys a = some ps ∧ toPy d = some q ∧ PyData.plainAll ps = true ∧ q.plain = true ∧ q.depth ≤ 60 ∧ n = ps.countP fun y => PyData.eqv y q
def dCount (dx : DE) (aa : DA) : DE := fun ds ms P => dx ds ms fun x m1 => match x with
  | .lst a => aa ds m1 fun ys m2 => (match ys with
    | [y] => ∃ n, CntOk a y n ∧ P (.int n) m2
    | _ => False)
  | _ => False
section
variable {ds : DS} {ms m : MS} {P : D → MS → Prop} {aa : DA} {dx : DE} {c : Str} {fs : List Str} {xs ys : List D} {A : Prop} {α β : Type} {u : List α} {v : List β}
theorem w_mk0 (h : ArG aa ds ms fun xs m => xs.length ≤ sizeLine ∧ P (.exc c [] []) m) : dMk0 c aa ds ms P := h
theorem w_mkI (h : ArG aa ds ms fun xs m => xs.length = fs.length ∧ P (.exc c fs xs) m) : dMkI c fs aa ds ms P := h
theorem w_lenq (e : u.length = v.length) (h : A) : u.length = v.length ∧ A := ⟨e, h⟩
def mCnt (aa : DA) (ds : DS) (x : D) (m : MS) (P : D → MS → Prop) : Prop := match x with
  | .lst a => aa ds m fun ys m2 => (match ys with
    | [y] => ∃ n, CntOk a y n ∧ P (.int n) m2
    | _ => False)
  | _ => False
def mCnt2 (a ys : List D) (m : MS) (P : D → MS → Prop) : Prop := match ys with
  | [y] => ∃ n, CntOk a y n ∧ P (.int n) m
  | _ => False
theorem w_count (h : ExG dx ds ms fun x m => mCnt aa ds x m P) : dCount dx aa ds ms P := h
theorem w_mCnt (h : ArG aa ds m fun ys m2 => mCnt2 xs ys m2 P) : mCnt aa ds (.lst xs) m P := h
end
end DL
namespace DL
open PySem PySem.Spec PyProof.Rows L2
abbrev MF := Str → List D → MS → (D → MS → Prop) → Prop
def dM1 (f : MF) (dx dy : DE) : DE := fun ds ms P => dx ds ms fun x m1 => match x with
  | .str a => dy ds m1 fun y m2 => f a [y] m2 P
  | _ => False
def MtD (K : PySem.W.Frag) (r : V → List V → Hp → VK → Prop) (f : MF) : Prop := ∀ (F H : Hp) (ms : MS) (a : Str) (xs : List V) (ys : List D) (P : D → MS → Prop) (Q : VK), Rel K F H ms → DRs K F xs ys → f a ys ms P →
  (∀ d ms' v F' H', P d ms' → Rel K F' H' ms' → Stp F H ms F' H' ms' → DR K F' v d → Q v H') → r (.str a) xs H Q
section
variable {X : Cx} {o e : Expr} {dx dy : DE} {f : MF} {r : V → List V → Hp → VK → Prop} {id : String} {name : Str} {apos pos : Pos}
theorem pd_m1 (slot : Slot "str" name id) (ty : typeOf (.builtin id) = pure (.type "method_descriptor")) (rule : MtR X id r) (hf : MtD X.K r f) (ho : PD X o dx) (he : PD X e dy)
    (hs : starEach [e] X.env = [(false, eval e X.env)] := by rfl) (hbase : attributeBase o name X.env (eval o X.env) = eval o X.env := by rfl) (hline : (apos.endLine == pos.line) = true := by rfl) :
    PD X (.Call (.Attribute o name apos) [e] [] pos) (dM1 f dx dy) :=
  peImp (pe_m1 slot ty rule ho he hs hbase hline) fun σ H Q ⟨F, ds, ms, P, R, S, h1, h2⟩ => ⟨F, ds, ms, _, R, S, h1, fun x m1 v F1 H1 p1 R1 s1 r1 => by
    match x, p1, r1 with
    | .str a, p1, .str _ => exact ⟨⟨a, rfl⟩, F1, ds, m1, _, R1, S.mono s1.sub, p1, fun y m2 w F2 H2 p2 R2 s2 r2 => hf F2 H2 m2 a [w] [y] P Q R2 (.cons r2 .nil) p2 fun d m3 v F3 H3 p3 R3 s3 r3 => h2 d m3 v F3 H3 p3 R3 ((s1.trans s2).trans s3) r3⟩⟩
end
def mPart : MF := fun a ys ms P => match ys with
  | [.str b] => (b.length == 0) = false ∧ a.length ≤ sizeLine ∧ P (.tup [.str (Txt.partition a b).1, .str (Txt.partition a b).2.1, .str (Txt.partition a b).2.2]) ms
  | _ => False
def mStarts : MF := fun a ys ms P => match ys with
  | [.str b] => P (.bl (Txt.startswith a b)) ms
  | _ => False
def mEnds : MF := fun a ys ms P => match ys with
  | [.str b] => P (.bl (Txt.endswith a b)) ms
  | _ => False
def mSplit : MF := fun a ys ms P => match ys with
  | [.str b] => (b.length == 0) = false ∧ a.length + 2 ≤ sizeLine ∧ P (.lst ((Txt.split a b).map D.str)) ms
  | _ => False
def mZfill : MF := fun a ys ms P => match ys with
  | [.int i] => PadOk i = true ∧ P (.str (Txt.zfill a i)) ms
  | _ => False
def mRemSuf : MF := fun a ys ms P => match ys with
  | [.str b] => a.length ≤ sizeLine ∧ P (.str (Txt.removesuffix a b)) ms
  | _ => False
def mJoin : MF := fun a ys ms P => match ys with
  | [d] => ∃ zs : List Str, asT d ms = some (zs.map D.str) ∧ (zs.map (·.length)).sum + zs.length * a.length ≤ 16777216 ∧ P (.str (Txt.join a zs)) ms
  | _ => False
theorem DRs.strs {K : PySem.W.Frag} {F : Hp} : ∀ {vs : List V} {zs : List Str}, DRs K F vs (zs.map D.str) → vs = zs.map V.str
  | _, [], .nil => rfl
  | _, z :: zs, .cons h t => by cases h; rw [DRs.strs t]; rfl
theorem DRs.ofStrs {K : PySem.W.Frag} {F : Hp} : ∀ zs : List Str, DRs K F (zs.map V.str) (zs.map D.str)
  | [] => .nil
  | z :: zs => .cons (.str z) (DRs.ofStrs zs)
section
variable {K : PySem.W.Frag}
theorem mtd_part : MtD K (fun x xs H Q => ∃ a b, x = .str a ∧ xs = [.str b] ∧ (b.length == 0) = false ∧ a.length ≤ sizeLine ∧
    ∀ p, H p = none → Q (.ref p) (upd H p (.tup [.str (Txt.partition a b).1, .str (Txt.partition a b).2.1, .str (Txt.partition a b).2.2]))) mPart := fun F H ms a xs ys P Q R r h q => by
  match ys, r, h with
  | [.str b], .cons (.str _) .nil, ⟨h1, h2, h3⟩ => exact ⟨a, b, rfl, rfl, h1, h2, fun p hp => q _ ms _ _ _ h3 (R.new hp) (Stp.new R hp) (R.newTup hp (.cons (.str _) (.cons (.str _) (.cons (.str _) .nil))))⟩
theorem mtd_starts : MtD K (fun x xs H Q => ∃ a b, x = .str a ∧ xs = [.str b] ∧ Q (.bl (Txt.startswith a b)) H) mStarts := fun F H ms a xs ys P Q R r h q => by
  match ys, r, h with
  | [.str b], .cons (.str _) .nil, h => exact ⟨a, b, rfl, rfl, q _ ms _ F H h R Stp.refl (.bl _)⟩
theorem mtd_ends : MtD K (fun x xs H Q => ∃ a b, x = .str a ∧ xs = [.str b] ∧ Q (.bl (Txt.endswith a b)) H) mEnds := fun F H ms a xs ys P Q R r h q => by
  match ys, r, h with
  | [.str b], .cons (.str _) .nil, h => exact ⟨a, b, rfl, rfl, q _ ms _ F H h R Stp.refl (.bl _)⟩
theorem mtd_split : MtD K (fun x xs H Q => ∃ a b, x = .str a ∧ xs = [.str b] ∧ (b.length == 0) = false ∧ a.length + 2 ≤ sizeLine ∧ rNewStrs (Txt.split a b) H Q) mSplit := fun F H ms a xs ys P Q R r h q => by
  match ys, r, h with
  | [.str b], .cons (.str _) .nil, ⟨h1, h2, h3⟩ => exact ⟨a, b, rfl, rfl, h1, h2, fun p hp => q _ ms _ _ _ h3 (R.new hp) (Stp.new R hp) (R.newLst hp (DRs.ofStrs _))⟩
theorem mtd_zfill : MtD K (fun x xs H Q => ∃ (a : Str) (i : Int), x = .str a ∧ xs = [.int i] ∧ PadOk i = true ∧ Q (.str (Txt.zfill a i)) H) mZfill := fun F H ms a xs ys P Q R r h q => by
  match ys, r, h with
  | [.int i], .cons (.int _) .nil, ⟨h1, h2⟩ => exact ⟨a, i, rfl, rfl, h1, q _ ms _ F H h2 R Stp.refl (.str _)⟩
theorem mtd_remSuf : MtD K (fun x xs H Q => ∃ a b, x = .str a ∧ xs = [.str b] ∧ a.length ≤ sizeLine ∧ Q (.str (Txt.removesuffix a b)) H) mRemSuf := fun F H ms a xs ys P Q R r h q => by
  match ys, r, h with
  | [.str b], .cons (.str _) .nil, ⟨h1, h2⟩ => exact ⟨a, b, rfl, rfl, h1, q _ ms _ F H h2 R Stp.refl (.str _)⟩
theorem mtd_join : MtD K (fun x xs H Q => ∃ a p, ∃ ys : List Str, x = .str a ∧ xs = [.ref p] ∧ (SqL K H p (ys.map V.str) ∨ SqT K H p (ys.map V.str)) ∧
    (ys.map (·.length)).sum + ys.length * a.length ≤ 16777216 ∧ Q (.str (Txt.join a ys)) H) mJoin := fun F H ms a xs ys P Q R r h q => by
  match ys, r, h with
  | [d], .cons rd .nil, ⟨zs, e, hz, h⟩ =>
    obtain ⟨p, vs, rfl, h3, h4⟩ := R.asT rd e
    rw [h4.strs] at h3
    exact ⟨a, p, zs, rfl, rfl, h3.symm, hz, q _ ms _ F H h R Stp.refl (.str _)⟩
end
theorem join_rev {prog : Program} {w : World} {A : Around} {E : Value → Shared → Prop} {s : Shared} {x : Str} {t : Tok} {ys : List Str} {it l : Addr} {items : Array Value} {Q : Value → Shared → Prop} (hh : A.handled = none)
    (hit : s.heap.IsRevIter it l ((items.size : Int) - 1)) (hl : s.heap.IsList l items) (hne : l ≠ it) (hn : items.size ≤ sizeLine) (hP : ∀ acc : Array Value, ItemsOf (fun i v => items[items.size - 1 - i]? = some v) acc items.size → StrsAre acc.toList ys)
    (hok : (ys.map (·.length)).sum + ys.length * x.length ≤ 16777216) (hq : ∀ (h' : Heap) (t' : Tok) (k : Nat), (∀ b o, b ≠ it → s.heap.get? b = some o → h'.get? b = some o) → Q (.str (Txt.join x ys) t') { s with heap := h', toks := k }) :
    wpAny (model prog w) A (call (.builtin "str.join") [.str x t, .ref it]) Q E s := by
  refine wpAny_call (codeAny_call_builtin F.slot_str_join.plain F.entry_str_join (F.slot_str_join.check _ _ _ _ _ _ _ _ (typeIs_str _ _ _) (F.args_str_join_2 _ _) ?_))
  rw [join_tree_other]
  refine wpAny_bind (wpAny_typeOf hit.typeIs ?_)
  show wpAny _ A.in1 ((pyIter (.ref it)).tryCatch _ >>= fun it => collect it >>= fun items => joinTail x items) _ _ s
  refine wpAny_bind (wpAny_tryCatch (wpAny_pyIter_revIter hit ?_))
  refine wpAny_bind (RT.collect_rev (A := A.in1) hh hit hl hne hn fun h' tk acc hk hacc => ?_)
  obtain ⟨lv, hlv, ht⟩ := strsAre_values (hP acc hacc)
  subst ht
  rw [hlv]
  have hok' := joinOk_of hok
  unfold JoinOk at hok'
  rw [Bool.not_eq_true'] at hok'
  have g : Gives (joinTail x (strValues lv)) (joinMade x lv) := by
    have g0 := gives_joinTail x lv hok'
    cases lv with
    | nil => exact g0
    | cons p r => cases r with
      | nil => exact g0
      | cons q r' => exact g0
  exact g prog w A (wants Q E) _ (post_join lv ⟨joinFit_length hok', fun t' k => hq h' t' k hk⟩)
def tJoinRev (K : PySem.W.Frag) (to te : TE) : TE := fun σ H Q => to σ H fun x H1 => (∃ a, x = .str a) ∧ te σ H1 fun v H2 => ∃ (a : Str) (p : Addr) (ys : List Str), x = .str a ∧ v = .ref p ∧ SqL K H2 p (ys.map V.str) ∧
  (ys.reverse.map (·.length)).sum + ys.reverse.length * a.length ≤ 16777216 ∧ Q (.str (Txt.join a ys.reverse)) H2
theorem pe_joinRev {X : Cx} {o e : Expr} {to te : TE} {apos pos p pos2 : Pos} (hc : X.calm = true) (ho : PE X o to) (hg : Gl X "reversed") (hm : X.mg "reversed" = none) (he : PE X e te)
    (hs1 : starEach [.Call (.Name "reversed" p) [e] [] pos2] X.env = [(false, eval (.Call (.Name "reversed" p) [e] [] pos2) X.env)] := by rfl)
    (hs : starEach [e] X.env = (false, eval e X.env) :: starEach [] X.env := by rfl)
    (hbase : attributeBase o "join" X.env (eval o X.env) = eval o X.env := by rfl) (hline : (apos.endLine == pos.line) = true := by rfl) :
    PE X (.Call (.Attribute o "join" apos) [.Call (.Name "reversed" p) [e] [] pos2] [] pos) (tJoinRev X.K to te) := by
  refine ⟨fun pins s σ H Q I h => ?_⟩
  refine PySem.Call_method1 hbase hs1 hline (thn (ho.run pins s σ H _ I h) fun v s1 ⟨x, H1, I1, r1, q1⟩ => ?_)
  obtain ⟨⟨a, rfl⟩, q1⟩ := q1
  obtain ⟨t, rfl⟩ := _root_.id r1
  refine ⟨"str", _, F.plainAttrs_str, F.slot_str_join, F.type_str_join, typeIs_str _ _ _, (fun _ e => nomatch e), Calls.callWith_builtin rfl (Calls.evalArgs_plain (Calls.spliced_cons ?_))⟩
  refine Call_ (ld_blt I1 hg hm PyProof.Rows.boot_reversed (PyProof.Rows.callWith_type1 (args_cons (thn (he.run pins s1 σ H1 _ I1 q1) fun u s2 ⟨w, H2, I2, r2, q2⟩ => args_nil ?_) hs) hs rfl))
  obtain ⟨a', l, ys, ea, ew, hq, hz, q⟩ := q2
  cases ea
  subst ew
  obtain rfl : u = Value.ref l := r2
  obtain ⟨its, rv, p', hsz⟩ := I2.list hq
  refine call_reversed_list p'.isList (Calls.spliced_nil ?_)
  have k0 : ∀ b o, s2.heap.get? b = some o → (s2.heap.push (revObj l ((its.toArray.size : Int) - 1))).get? b = some o := fun b o e => Heap.get?_push_of_some _ e
  have I3 : Inv X pins σ H2 { s2 with heap := s2.heap.push (revObj l ((its.toArray.size : Int) - 1)) } := I2.kept (t' := s2.toks) k0
  obtain ⟨f0, f1, f2, f3, f4, f5⟩ := I2.fpOk (H' := H2) (b := s2.heap.objs.size) (Nat.le_refl _) (I2.hok.fresh (Nat.le_refl _))
  have hl := p'.isList
  obtain ⟨ol, hol, _⟩ := _root_.id hl
  have hne : l ≠ s2.heap.objs.size := Nat.ne_of_lt (Heap.lt_size hol)
  have hn : its.toArray.size ≤ sizeLine := by rw [List.size_toArray, ← rv.length]; exact hsz
  refine join_rev (s := { s2 with heap := s2.heap.push (revObj l ((its.toArray.size : Int) - 1)) }) (I2.ok.hd hc) ⟨_, Heap.get?_push_size _ rfl, rfl, rfl⟩ (hl.push _) hne hn (fun acc hacc => strs_of_vals (by rw [List.map_reverse]; exact RT.vals_rev rv hacc)) hz fun h' t' k hk => ?_
  exact ⟨.str _, H2, I3.turned (t' := k) (fun b o hb e => hk b o hb e) f0 f1 f3 f4 f5, ⟨t', rfl⟩, q⟩
def dJoinRev (dx dy : DE) : DE := fun ds ms P => dx ds ms fun x m1 => match x with
  | .str a => dy ds m1 fun y m2 => ∃ zs : List Str, asL y m2 = some (zs.map D.str) ∧ (zs.reverse.map (·.length)).sum + zs.reverse.length * a.length ≤ 16777216 ∧ P (.str (Txt.join a zs.reverse)) m2
  | _ => False
theorem pd_joinRev {X : Cx} {o e : Expr} {dx dy : DE} {apos pos p pos2 : Pos} (hc : X.calm = true) (ho : PD X o dx) (hg : Gl X "reversed") (hm : X.mg "reversed" = none) (he : PD X e dy)
    (hs1 : starEach [.Call (.Name "reversed" p) [e] [] pos2] X.env = [(false, eval (.Call (.Name "reversed" p) [e] [] pos2) X.env)] := by rfl)
    (hs : starEach [e] X.env = (false, eval e X.env) :: starEach [] X.env := by rfl)
    (hbase : attributeBase o "join" X.env (eval o X.env) = eval o X.env := by rfl) (hline : (apos.endLine == pos.line) = true := by rfl) :
    PD X (.Call (.Attribute o "join" apos) [.Call (.Name "reversed" p) [e] [] pos2] [] pos) (dJoinRev dx dy) :=
  peImp (pe_joinRev hc ho hg hm he hs1 hs hbase hline) fun σ H Q ⟨F, ds, ms, P, R, S, h1, h2⟩ => ⟨F, ds, ms, _, R, S, h1, fun x m1 v F1 H1 p1 R1 s1 r1 => by
    match x, p1, r1 with
    | .str a, p1, .str _ =>
      refine ⟨⟨a, rfl⟩, F1, ds, m1, _, R1, S.mono s1.sub, p1, fun y m2 w F2 H2 p2 R2 s2 r2 => ?_⟩
      obtain ⟨zs, e1, hz, h3⟩ := p2
      obtain ⟨l, vs, rfl, h4, h5⟩ := R2.asL r2 e1
      rw [h5.strs] at h4
      exact ⟨a, l, zs, rfl, rfl, h4, hz, h2 _ m2 _ F2 H2 h3 R2 (s1.trans s2) (.str _)⟩⟩
def cDivmod : CF := fun xs ms P => match xs with
  | [.int i, .int j] => CDivP i j ∧ P (.tup [.int (i / j), .int (i % j)]) ms
  | _ => False
theorem cal_divmod {K : PySem.W.Frag} : CalD K (fun xs H Q => ∃ i j, xs = [.int i, .int j] ∧ CDivP i j ∧ ∀ p, H p = none → Q (.ref p) (upd H p (.tup [.int (i / j), .int (i % j)]))) cDivmod := fun F H ms vs xs P Q R r h q => by
  match xs, r, h with
  | [.int i, .int j], .cons (.int _) (.cons (.int _) .nil), ⟨h1, h2⟩ => exact ⟨i, j, rfl, h1, fun p hp => q _ ms _ _ _ h2 (R.new hp) (Stp.new R hp) (R.newTup hp (.cons (.int _) (.cons (.int _) .nil)))⟩
def cIntS : CF := fun xs ms P => match xs with
  | [.str a] => ∃ n, PySem.intText? a = some n ∧ a.length ≤ 640 ∧ P (.int n) ms
  | _ => False
theorem cal_intS {K : PySem.W.Frag} : CalD K (fun xs H Q => ∃ a n, xs = [.str a] ∧ PySem.intText? a = some n ∧ a.length ≤ 640 ∧ Q (.int n) H) cIntS := fun F H ms vs xs P Q R r h q => by
  match xs, r, h with
  | [.str a], .cons (.str _) .nil, ⟨n, h1, h2, h3⟩ => exact ⟨a, n, rfl, h1, h2, q _ ms _ F H h3 R Stp.refl (.int _)⟩
def fInS (neg : Bool) : OF := fun x y ms P => match x, y with
  | .str a, .str z => ∃ c : Nat, a = ⟨#[c]⟩ ∧ P (.bl (Bool.xor neg (decide (c ∈ z.cps.toList)))) ms
  | _, _ => False
def fInSign : OF := fInS false
def fNotInSign : OF := fInS true
theorem opd_inSign {K : PySem.W.Frag} : OpD K (fun x y H Q => ∃ (c : Nat) (z : Str), x = .str ⟨#[c]⟩ ∧ y = .str z ∧ Q (.bl (decide (c ∈ z.cps.toList))) H) fInSign := fun F H ms x y dx dy P Q R rx ry h q => by
  match dx, dy, h, rx, ry with
  | .str a, .str z, ⟨c, e, h⟩, .str _, .str _ => subst e; exact ⟨c, z, rfl, rfl, by simpa using q _ ms _ F H h R Stp.refl (.bl _)⟩
def dFmt (de : DE) : DE := fun ds ms P => de ds ms fun x m => match x with
  | .str y => y.length ≤ sizeLine ∧ P (.str y) m
  | .int i => i.natAbs.log2 < 1920 ∧ P (.str (toString i)) m
  | _ => False
theorem pd_fmt {X : Cx} {e : Expr} {de : DE} {pos : Pos} (he : PD X e de) : PD X (.FormattedValue e (-1) none pos) (dFmt de) :=
  peImp (pe_fmt he) fun σ H Q ⟨F, ds, ms, P, R, S, h1, h2⟩ => ⟨F, ds, ms, _, R, S, h1, fun x m1 v F1 H1 p1 R1 s1 r1 => by
    match x, p1, r1 with
    | .str a, p1, .str _ => exact .inl ⟨a, rfl, p1.1, h2 _ m1 _ F1 H1 p1.2 R1 s1 (.str _)⟩
    | .int i, p1, .int _ => exact .inr ⟨i, rfl, p1.1, h2 _ m1 _ F1 H1 p1.2 R1 s1 (.str _)⟩⟩
inductive PDJ (X : Cx) : List Expr → List DE → Prop where
  | nil : PDJ X [] []
  | cons {e : Expr} {t : DE} {es : List Expr} {ts : List DE} (h : PD X e t) (r : PDJ X es ts) : PDJ X (e :: es) (t :: ts)
theorem PDJ.pj {X : Cx} {es : List Expr} {ts : List DE} (h : PDJ X es ts) : PJ X es (ts.map (lift X.K)) := by
  induction h with
  | nil => exact .nil
  | cons h r ih => exact .cons h ih
def jsD : List DE → Str → DS → MS → (Str → MS → Prop) → Prop
  | [], acc, _, ms, P => P acc ms
  | t :: ts, acc, ds, ms, P => t ds ms fun x m => match x with
    | .str y => (acc ++ y).length ≤ sizeLine ∧ jsD ts (acc ++ y) ds m P
    | _ => False
def dJoined (ts : List DE) : DE := fun ds ms P => jsD ts Str.empty ds ms fun out m => P (.str out) m
theorem lift_js {K : PySem.W.Frag} {σ : L2.St} {Q : Str → Hp → Prop} : ∀ (ts : List DE) (acc : Str) (F H : Hp) (ds : DS) (ms : MS) (P : Str → MS → Prop), Rel K F H ms → Sl K F σ ds → jsD ts acc ds ms P →
    (∀ out m F' H', P out m → Rel K F' H' m → Stp F H ms F' H' m → Q out H') → tJs (ts.map (lift K)) acc σ H Q
  | [], acc, F, H, ds, ms, P, R, S, h, q => q acc ms F H h R Stp.refl
  | t :: ts, acc, F, H, ds, ms, P, R, S, h, q => ⟨F, ds, ms, _, R, S, h, fun x m1 v F1 H1 p1 R1 s1 r1 => by
    match x, p1, r1 with
    | .str a, p1, .str _ => exact ⟨a, rfl, p1.1, lift_js ts (acc ++ a) F1 H1 ds m1 P R1 (S.mono s1.sub) p1.2 fun out m F' H' p R' s' => q out m F' H' p R' (s1.trans s')⟩⟩
theorem pd_joined {X : Cx} {v1 v2 : Expr} {rest : List Expr} {ts : List DE} {pos : Pos} (h : PDJ X (v1 :: v2 :: rest) ts) : PD X (.JoinedStr (v1 :: v2 :: rest) pos) (dJoined ts) :=
  peImp (pe_joined h.pj) fun σ H Q ⟨F, ds, ms, P, R, S, h1, h2⟩ => lift_js ts Str.empty F H ds ms _ R S h1 fun out m F' H' p R' s' => h2 _ m _ F' H' p R' s' (.str _)
section
variable {ds : DS} {ms m : MS} {P : D → MS → Prop} {dx dy de : DE} {f : MF} {a b z : Str} {i j : Int} {zs : List Str} {ts : List DE} {y d : D}
def mM1 (f : MF) (dy : DE) (ds : DS) (x : D) (m : MS) (P : D → MS → Prop) : Prop := match x with
  | .str a => dy ds m fun y m2 => f a [y] m2 P
  | _ => False
def MtG (f : MF) (a : Str) (ys : List D) (m : MS) (P : D → MS → Prop) : Prop := f a ys m P
theorem w_m1 (h : ExG dx ds ms fun x m => mM1 f dy ds x m P) : dM1 f dx dy ds ms P := h
theorem w_mM1 (h : ExG dy ds m fun y m2 => MtG f a [y] m2 P) : mM1 f dy ds (.str a) m P := h
theorem w_part (h : (b.length == 0) = false ∧ a.length ≤ sizeLine ∧ P (.tup [.str (Txt.partition a b).1, .str (Txt.partition a b).2.1, .str (Txt.partition a b).2.2]) ms) : MtG mPart a [.str b] ms P := h
theorem w_starts (h : P (.bl (Txt.startswith a b)) ms) : MtG mStarts a [.str b] ms P := h
theorem w_ends (h : P (.bl (Txt.endswith a b)) ms) : MtG mEnds a [.str b] ms P := h
theorem w_split (h : (b.length == 0) = false ∧ a.length + 2 ≤ sizeLine ∧ P (.lst ((Txt.split a b).map D.str)) ms) : MtG mSplit a [.str b] ms P := h
theorem w_zfill (h : PadOk i = true ∧ P (.str (Txt.zfill a i)) ms) : MtG mZfill a [.int i] ms P := h
theorem w_remSuf (h : a.length ≤ sizeLine ∧ P (.str (Txt.removesuffix a b)) ms) : MtG mRemSuf a [.str b] ms P := h
theorem w_join (e : asT d ms = some (zs.map D.str)) (h : (zs.map (·.length)).sum + zs.length * a.length ≤ 16777216 ∧ P (.str (Txt.join a zs)) ms) : MtG mJoin a [d] ms P := ⟨zs, e, h⟩
def mJr (dy : DE) (ds : DS) (x : D) (m : MS) (P : D → MS → Prop) : Prop := match x with
  | .str a => dy ds m fun y m2 => ∃ zs : List Str, asL y m2 = some (zs.map D.str) ∧ (zs.reverse.map (·.length)).sum + zs.reverse.length * a.length ≤ 16777216 ∧ P (.str (Txt.join a zs.reverse)) m2
  | _ => False
def mJr2 (a : Str) (y : D) (m : MS) (P : D → MS → Prop) : Prop := ∃ zs : List Str, asL y m = some (zs.map D.str) ∧ (zs.reverse.map (·.length)).sum + zs.reverse.length * a.length ≤ 16777216 ∧ P (.str (Txt.join a zs.reverse)) m
theorem w_joinRev (h : ExG dx ds ms fun x m => mJr dy ds x m P) : dJoinRev dx dy ds ms P := h
theorem w_mJr (h : ExG dy ds m fun y m2 => mJr2 a y m2 P) : mJr dy ds (.str a) m P := h
theorem w_divmod (h : CDivP i j ∧ P (.tup [.int (i / j), .int (i % j)]) ms) : cDivmod [.int i, .int j] ms P := h
theorem w_intS {n : Int} (e : PySem.intText? a = some n) (h : a.length ≤ 640 ∧ P (.int n) ms) : cIntS [.str a] ms P := ⟨n, e, h⟩
theorem w_inSign {c : Nat} (h : P (.bl (decide (c ∈ z.cps.toList))) ms) : fInSign (.str ⟨#[c]⟩) (.str z) ms P := ⟨c, rfl, by simpa using h⟩
theorem w_notInSign {c : Nat} (h : P (.bl (!decide (c ∈ z.cps.toList))) ms) : fNotInSign (.str ⟨#[c]⟩) (.str z) ms P := ⟨c, rfl, by simpa using h⟩
def mFmt (x : D) (m : MS) (P : D → MS → Prop) : Prop := match x with
  | .str y => y.length ≤ sizeLine ∧ P (.str y) m
  | .int i => i.natAbs.log2 < 1920 ∧ P (.str (toString i)) m
  | _ => False
theorem w_fmt (h : ExG de ds ms fun x m => mFmt x m P) : dFmt de ds ms P := h
theorem w_mFmtS (h : a.length ≤ sizeLine ∧ P (.str a) m) : mFmt (.str a) m P := h
theorem w_mFmtI (h : i.natAbs.log2 < 1920 ∧ P (.str (toString i)) m) : mFmt (.int i) m P := h
def JsG (ts : List DE) (acc : Str) (ds : DS) (ms : MS) (P : Str → MS → Prop) : Prop := jsD ts acc ds ms P
def mJs (ts : List DE) (acc : Str) (ds : DS) (x : D) (m : MS) (P : Str → MS → Prop) : Prop := match x with
  | .str y => (acc ++ y).length ≤ sizeLine ∧ jsD ts (acc ++ y) ds m P
  | _ => False
theorem w_joined (h : JsG ts Str.empty ds ms fun out m => P (.str out) m) : dJoined ts ds ms P := h
theorem w_jsN {P : Str → MS → Prop} (h : P a ms) : JsG [] a ds ms P := h
theorem w_jsC {P : Str → MS → Prop} (h : ExG de ds ms fun x m => mJs ts a ds x m P) : JsG (de :: ts) a ds ms P := h
theorem w_mJs {P : Str → MS → Prop} (h : (a ++ b).length ≤ sizeLine ∧ JsG ts (a ++ b) ds m P) : mJs ts a ds (.str b) m P := h
end
end DL
namespace DL
open PySem PySem.Spec PyProof.Rows L2
def maxOf : List Int → Int → Int
  | [], d => d
  | n :: r, _ => r.foldl max n
def dMaxDef (aa ak : DA) : DE := fun ds ms P => aa ds ms fun xs m1 => ak ds m1 fun zs m2 => match xs, zs with
  | [.lst ys], [.int d] => ∃ ns : List Int, ys = ns.map D.int ∧ P (.int (maxOf ns d)) m2
  | _, _ => False
section
variable {ds : DS} {ms m : MS} {P : D → MS → Prop} {aa ak : DA}
def mMaxD (xs zs : List D) (m : MS) (P : D → MS → Prop) : Prop := match xs, zs with
  | [.lst ys], [.int d] => ∃ ns : List Int, ys = ns.map D.int ∧ P (.int (maxOf ns d)) m
  | _, _ => False
theorem w_maxDef (h : ArG aa ds ms fun xs m1 => ArG ak ds m1 fun zs m2 => mMaxD xs zs m2 P) : dMaxDef aa ak ds ms P := h
theorem w_mMaxD {ns : List Int} {d : Int} (h : P (.int (maxOf ns d)) m) : mMaxD [.lst (ns.map D.int)] [.int d] m P := ⟨ns, rfl, h⟩
end
section
variable {E : EN} {ds : DS} {ms : MS} {P : D → MS → Prop} {t : DTS} {de da db dc : DE} {g : DG} {aa : DA} {di : DI} {i : Nat} {f : MF} {ts : List DE}
theorem r_frzS (h : StG (dFrzS i t) E ds ms) : dFrzS i t E ds ms := h
theorem r_setIx (h : StG (dSetIx da db dc) E ds ms) : dSetIx da db dc E ds ms := h
theorem r_lcM {tt : DT} {te : DE} {vs : List Nat} (h : ExG (dLcM di g tt te vs) ds ms P) : dLcM di g tt te vs ds ms P := h
theorem r_m1 (h : ExG (dM1 f da db) ds ms P) : dM1 f da db ds ms P := h
theorem r_joined (h : ExG (dJoined ts) ds ms P) : dJoined ts ds ms P := h
theorem r_frz (h : ExG (dFrz de) ds ms P) : dFrz de ds ms P := h
theorem r_append (h : ExG (dAppend de aa) ds ms P) : dAppend de aa ds ms P := h
end
end DL
namespace DL
open PySem PySem.Spec PyProof.Rows L2 SX TL NumText
def dig (c : Nat) : Bool := decide (48 ≤ c) && decide (c ≤ 57)
/-- the figures of a whole number from nought on, written as it is written -/
def figs (l : List Nat) : Bool := !l.isEmpty && l.all dig && (l == [48] || l.head? != some 48)
def numI (i : Int) : List Nat := if i < 0 then 45 :: numL i.natAbs else numL i.natAbs
theorem dig_iff {c : Nat} : dig c = true ↔ 48 ≤ c ∧ c ≤ 57 := by unfold dig; simp
theorem digs_iff {l : List Nat} : l.all dig = true ↔ AllDigits l := by
  rw [List.all_eq_true]
  exact ⟨fun h c hc => dig_iff.mp (h c hc), fun h c hc => dig_iff.mpr (h c hc)⟩
theorem val_snoc (l : List Nat) (c : Nat) : digitsVal (l ++ [c]) = digitsVal l * 10 + (c - 48) := by
  unfold digitsVal; rw [List.foldl_append]; rfl
theorem val_from (l : List Nat) : ∀ a : Nat, l.foldl (fun acc c => acc * 10 + (c - 48)) a = a * 10 ^ l.length + digitsVal l := by
  unfold digitsVal
  induction l with
  | nil => intro a; simp
  | cons c r ih =>
    intro a
    rw [List.foldl_cons, List.foldl_cons, ih, ih (0 * 10 + (c - 48)), List.length_cons, Nat.pow_succ]
    have e : (a * 10 + (c - 48)) * 10 ^ r.length = a * (10 ^ r.length * 10) + (0 * 10 + (c - 48)) * 10 ^ r.length := by
      rw [Nat.add_mul, Nat.mul_assoc, Nat.mul_comm 10, Nat.zero_mul, Nat.zero_add]
    rw [e, Nat.add_assoc]
theorem val_app (a b : List Nat) : digitsVal (a ++ b) = digitsVal a * 10 ^ b.length + digitsVal b := by
  have h := val_from b (digitsVal a)
  rw [← h]
  unfold digitsVal
  rw [List.foldl_append]
theorem val_cons (c : Nat) (r : List Nat) : digitsVal (c :: r) = (c - 48) * 10 ^ r.length + digitsVal r := by
  have := val_app [c] r
  rw [List.cons_append, List.nil_append] at this
  rw [this]
  show (0 * 10 + (c - 48)) * _ + _ = _
  rw [Nat.zero_mul, Nat.zero_add]
theorem val_pos {c : Nat} {r : List Nat} (h : 48 < c) : 1 ≤ digitsVal (c :: r) := by
  rw [val_cons]
  have h1 : 1 ≤ 10 ^ r.length := Nat.one_le_pow _ _ (by decide)
  have h2 : 1 * 1 ≤ (c - 48) * 10 ^ r.length := Nat.mul_le_mul (by omega) h1
  omega
theorem val_lt {l : List Nat} (h : AllDigits l) : digitsVal l < 10 ^ l.length := by
  induction l with
  | nil => decide
  | cons c r ih =>
    have h1 := h.head
    have h2 := ih h.tail
    rw [val_cons, List.length_cons, Nat.pow_succ]
    have h3 : (c - 48) * 10 ^ r.length ≤ 9 * 10 ^ r.length := Nat.mul_le_mul_right _ (by omega)
    omega
theorem figs_ne {l : List Nat} (h : figs l = true) : l ≠ [] := by
  rintro rfl; cases h
theorem figs_digs {l : List Nat} (h : figs l = true) : AllDigits l := by
  unfold figs at h
  simp only [Bool.and_eq_true] at h
  exact digs_iff.mp h.1.2
theorem figs_head {c : Nat} {r : List Nat} (h : figs (c :: r) = true) : (c = 48 ∧ r = []) ∨ 48 < c := by
  have hd := (figs_digs h).head
  unfold figs at h
  simp only [Bool.and_eq_true, Bool.or_eq_true, beq_iff_eq, List.cons.injEq, List.head?_cons, bne_iff_ne, ne_eq, Option.some.injEq] at h
  rcases h.2 with h | h
  · exact .inl h
  · exact .inr (by omega)
theorem figs_of {c : Nat} {r : List Nat} (hd : AllDigits (c :: r)) (h : 48 < c) : figs (c :: r) = true := by
  unfold figs
  simp only [Bool.and_eq_true, Bool.or_eq_true, bne_iff_ne, ne_eq, List.head?_cons, Option.some.injEq]
  exact ⟨⟨rfl, digs_iff.mpr hd⟩, .inr (by omega)⟩
/-- what is written so is the number's own text -/
theorem figs_num : ∀ (n : Nat) (l : List Nat), l.length = n → figs l = true → numL (digitsVal l) = l := by
  intro n
  induction n with
  | zero => intro l hl h; exact absurd (List.length_eq_zero_iff.mp hl) (figs_ne h)
  | succ n ih =>
    intro l hl h
    have hd := figs_digs h
    cases e : l.reverse with
    | nil => rw [List.reverse_eq_nil_iff] at e; rw [e] at hl; cases hl
    | cons c r =>
      have el : l = r.reverse ++ [c] := by rw [← List.reverse_reverse l, e, List.reverse_cons]
      generalize r.reverse = q at el
      subst el
      have hc : 48 ≤ c ∧ c ≤ 57 := hd c (by simp)
      rw [val_snoc]
      cases q with
      | nil =>
        show numL (0 * 10 + (c - 48)) = [c]
        rw [Nat.zero_mul, Nat.zero_add, numL_lt (by omega)]
        congr 1
        omega
      | cons d t =>
        have h1 : 48 < d := by
          rw [List.cons_append] at h
          rcases figs_head h with ⟨_, z⟩ | z
          · simp at z
          · exact z
        have hq : AllDigits (d :: t) := fun x hx => hd x (List.mem_append_left _ hx)
        have fq := figs_of hq h1
        have v1 := val_pos (c := d) (r := t) h1
        have e1 := ih (d :: t) (by simp at hl ⊢; omega) fq
        rw [numL_step (by omega)]
        have e2 : (digitsVal (d :: t) * 10 + (c - 48)) / 10 = digitsVal (d :: t) := by omega
        have e3 : (digitsVal (d :: t) * 10 + (c - 48)) % 10 = c - 48 := by omega
        rw [e2, e3, e1]
        congr 2
        omega
theorem num_figs (n : Nat) : figs (numL n) = true := by
  induction n using Nat.strongRecOn with
  | _ n ih =>
    by_cases h : n < 10
    · rw [numL_lt h]
      by_cases h0 : n = 0
      · subst h0; rfl
      · exact figs_of (fun c hc => by rw [List.mem_singleton.mp hc]; omega) (by omega)
    · have hi := ih (n / 10) (by omega)
      have hd := numL_digits n
      rw [numL_step (by omega)] at hd ⊢
      cases e : numL (n / 10) with
      | nil => exact absurd e (numL_ne _)
      | cons c r =>
        rw [e] at hi hd
        rw [List.cons_append] at hd ⊢
        refine figs_of hd ?_
        rcases figs_head hi with ⟨z1, z2⟩ | z
        · exfalso
          subst z1; subst z2
          have := numL_val (n / 10)
          rw [e] at this
          have z : digitsVal [48] = 0 := rfl
          omega
        · exact z
theorem figs_eq {a b : List Nat} (ha : figs a = true) (hb : figs b = true) (h : digitsVal a = digitsVal b) : a = b := by
  rw [← figs_num _ a rfl ha, h, figs_num _ b rfl hb]
/-- a number's text: its signs -/
theorem toStr_int (i : Int) : Str.ofString (toString i) = S (numI i) := by
  unfold numI
  cases i with
  | ofNat n =>
    rw [if_neg (show ¬ (Int.ofNat n < 0) from Int.not_lt.mpr (Int.natCast_nonneg n))]
    exact num_S n
  | negSucc n =>
    rw [if_pos (by omega)]
    have e : toString (Int.negSucc n) = "-" ++ toString ((n + 1 : Nat) : Int) := rfl
    rw [e]
    refine ext_tl ?_
    rw [tl_ofString, String.toList_append, List.map_append, ← tl_ofString, ← tl_ofString, tl_num]
    have h1 : tl (Str.ofString "-") = [45] := by decide +kernel
    rw [h1]
    rfl
theorem repS_int (i : Int) : repS (.int i) = S (numI i) := toStr_int i
theorem numL_len' {n k : Nat} (h : n < 2 ^ k) : (numL n).length ≤ k + 1 := by
  refine Nat.le_trans (numL_len (k := k + 1) (by omega) (Nat.lt_of_lt_of_le h ?_)) (Nat.le_refl _)
  exact Nat.le_trans (Nat.pow_le_pow_left (by decide) k) (Nat.pow_le_pow_right (by decide) (by omega))
theorem cutS_S (l : List Nat) (lo hi : Option Int) : cutS (S l) lo hi = S (cutL l lo hi) := by
  unfold cutS cutL
  rw [S_len]
theorem cutL_to {α : Type} (l : List α) (i : Int) (h : 0 ≤ i) : cutL l none (some i) = l.take i.toNat := by
  obtain ⟨n, rfl⟩ := Int.eq_ofNat_of_zero_le h
  unfold cutL
  rw [show HT.sIx l.length l.length (some (n : Int)) = min n l.length from HT.sIx_nat _ _ n, HT.sIx_none, Int.toNat_natCast]
  show List.take (min n l.length - 0) (l.drop 0) = _
  rw [List.drop_zero, Nat.sub_zero, ← List.take_eq_take_min]
theorem cutL_from {α : Type} (l : List α) (i : Int) (h : 0 ≤ i) : cutL l (some i) none = l.drop i.toNat := by
  obtain ⟨n, rfl⟩ := Int.eq_ofNat_of_zero_le h
  unfold cutL
  rw [show HT.sIx l.length 0 (some (n : Int)) = min n l.length from HT.sIx_nat _ _ n, HT.sIx_none, Int.toNat_natCast]
  rw [List.take_of_length_le (by rw [List.length_drop]; omega)]
  by_cases hn : n ≤ l.length
  · rw [Nat.min_eq_left hn]
  · rw [Nat.min_eq_right (by omega), List.drop_length, List.drop_of_length_le (by omega)]
theorem cutL_mid {α : Type} (l : List α) (i j : Int) (h : 0 ≤ i) (hj : i ≤ j) : cutL l (some i) (some j) = (l.drop i.toNat).take (j - i).toNat := by
  obtain ⟨n, rfl⟩ := Int.eq_ofNat_of_zero_le h
  obtain ⟨m, rfl⟩ := Int.eq_ofNat_of_zero_le (Int.le_trans h hj)
  unfold cutL
  rw [show HT.sIx l.length 0 (some (n : Int)) = min n l.length from HT.sIx_nat _ _ n, show HT.sIx l.length l.length (some (m : Int)) = min m l.length from HT.sIx_nat _ _ m, Int.toNat_natCast]
  by_cases hn : n ≤ l.length
  · rw [Nat.min_eq_left hn]
    by_cases hm : m ≤ l.length
    · rw [Nat.min_eq_left hm]
      congr 1
      omega
    · rw [Nat.min_eq_right (by omega), List.take_of_length_le (by rw [List.length_drop]; omega), List.take_of_length_le (by rw [List.length_drop]; omega)]
  · rw [Nat.min_eq_right (show l.length ≤ n by omega), List.drop_length, List.take_nil, List.drop_of_length_le (by omega), List.take_nil]
theorem cutL_1 {α : Type} (l : List α) : cutL l (some 1) none = l.drop 1 := cutL_from l 1 (by decide)
theorem S_app (a b : List Nat) : S a ++ S b = S (a ++ b) := S_cat a b
theorem lenS (l : List Nat) : (S l).length = l.length := S_len l
theorem tlS (l : List Nat) : (S l).cps.toList = l := rfl
theorem lit (s : String) (l : List Nat) (h : tl (Str.ofString s) = l := by decide +kernel) : Str.ofString s = S l := ext_tl h
theorem starts_S (a b : List Nat) : Txt.startswith (S a) (S b) = decide (a.take b.length = b) := by
  unfold Txt.startswith
  rw [StrLaws.subAt_eq, lenS, lenS]
  show (decide (0 + b.length ≤ a.length) && (List.take b.length (List.drop 0 a) == b)) = _
  rw [List.drop_zero]
  by_cases h : a.take b.length = b
  · have h2 := congrArg List.length h
    rw [List.length_take] at h2
    rw [decide_eq_true h, decide_eq_true (by omega), h]
    simp
  · rw [decide_eq_false h]
    have : (List.take b.length a == b) = false := by simp [h]
    rw [this, Bool.and_false]
theorem int_figs {l : List Nat} (h : AllDigits l) (hne : l ≠ []) (hl : l.length ≤ 640) : intText? (S l) = some ((digitsVal l : Nat) : Int) := intText_digits (x := S l) h hne (by rw [lenS]; omega)
theorem rep_val : ∀ k : Nat, digitsVal (List.replicate k 48) = 0
  | 0 => rfl
  | k + 1 => by rw [List.replicate_succ, val_cons, rep_val k]; simp
theorem zfill_num {n : Nat} (h : n < 10 ^ 60) : Txt.zfill (S (numL n)) 60 = S (List.replicate (60 - (numL n).length) 48 ++ numL n) := by
  have hl := numL_len (k := 60) (by decide) h
  unfold Txt.zfill
  rw [lenS]
  by_cases h60 : (60 : Int) ≤ ((numL n).length : Nat)
  · rw [if_pos h60]
    have e : 60 - (numL n).length = 0 := by omega
    rw [e]
    rfl
  · rw [if_neg h60]
    have e : Int.toNat 60 - (numL n).length = 60 - (numL n).length := rfl
    rw [e]
    unfold zfilled
    have hd := numL_digits n
    cases e2 : numL n with
    | nil => exact absurd e2 (numL_ne n)
    | cons c r =>
      rw [e2] at hd
      have hc := hd.head
      have e3 : (S (c :: r)).cps[0]? = some c := rfl
      rw [e3]
      have hp : ∀ m : Nat, Builtin.Str.padded (S (c :: r)) m 0 48 = S (List.replicate m 48 ++ c :: r) := by
        intro m
        refine ext_tl ?_
        unfold Builtin.Str.padded
        simp [tl]
      have h43 : c ≠ 43 := by omega
      have h45 : c ≠ 45 := by omega
      rw [← hp]
      split
      · rename_i z; cases z; omega
      · rename_i z; cases z; omega
      · rfl
theorem zf_len {n : Nat} (h : n < 10 ^ 60) : (List.replicate (60 - (numL n).length) 48 ++ numL n).length = 60 := by
  have hl := numL_len (k := 60) (by decide) h
  rw [List.length_append, List.length_replicate]; omega
/-- a number's text is that of its front, and its last sixty figures -/
theorem num_cut {n : Nat} (h : 10 ^ 60 ≤ n) : numL n = numL (n / 10 ^ 60) ++ (List.replicate (60 - (numL (n % 10 ^ 60)).length) 48 ++ numL (n % 10 ^ 60)) := by
  have hm : n % 10 ^ 60 < 10 ^ 60 := Nat.mod_lt _ (by decide)
  have hq : 1 ≤ n / 10 ^ 60 := Nat.div_pos h (by decide)
  have hz := zf_len hm
  refine figs_eq (num_figs n) ?_ ?_
  · have f := num_figs (n / 10 ^ 60)
    cases e : numL (n / 10 ^ 60) with
    | nil => exact absurd e (numL_ne _)
    | cons c r =>
      rw [e] at f
      rw [List.cons_append]
      refine figs_of (fun x hx => ?_) ?_
      · rw [← List.cons_append] at hx
        rcases List.mem_append.mp hx with hx | hx
        · exact figs_digs f x hx
        · rcases List.mem_append.mp hx with hx | hx
          · rw [List.eq_of_mem_replicate hx]; decide
          · exact numL_digits _ x hx
      · rcases figs_head f with ⟨z1, z2⟩ | z
        · exfalso
          subst z1; subst z2
          have := numL_val (n / 10 ^ 60)
          rw [e] at this
          have z : digitsVal [48] = 0 := rfl
          omega
        · exact z
  · rw [numL_val, val_app, hz, val_app, rep_val, numL_val, numL_val, Nat.zero_mul, Nat.zero_add]
    rw [Nat.mul_comm]
    exact (Nat.div_add_mod n (10 ^ 60)).symm
section
variable {E : EN} {ds : DS} {ms m : MS} {P : D → MS → Prop} {PA : List D → MS → Prop} {c : DT} {tb : DTS} {de : DE} {aa : DA} {n : Nat} {z : Str} {i j k : Int}
theorem w_whileN (h : whileD c tb E n ds ms) : StG (dWhile c tb) E ds ms := ⟨n, h⟩
theorem w_whS (h : TsG c ds ms fun b m => if b = true then StG tb (EN.lp E (whileD c tb E n)) ds m else NxG E ds m) : whileD c tb E (n + 1) ds ms := h
def mStrI (d : D) (m : MS) (P : List D → MS → Prop) : Prop := match d with
  | .str z => P (strD z) m
  | _ => False
theorem w_istr (h : ExG de ds ms fun d m => mStrI d m PA) : iStrD de ds ms PA := h
theorem w_mStrI (h : PA (strD z) m) : mStrI (.str z) m PA := h
def mRng3 (xs : List D) (m : MS) (P : List D → MS → Prop) : Prop := match xs with
  | [.int i, .int j, .int c] => ∃ n, RgC i j c n ∧ P (rngC i c n) m
  | _ => False
theorem w_irng3 (h : ArG aa ds ms fun xs m => mRng3 xs m PA) : iRange3 aa ds ms PA := h
theorem w_mRng3 (e : RgC i j k n) (h : PA (rngC i k n) m) : mRng3 [.int i, .int j, .int k] m PA := ⟨n, e, h⟩
end
/-- range(i, j, k), short -/
theorem rgc_up {i j k : Int} (h0 : 0 ≤ i) (hj : i ≤ j) (h1 : j < 1000000) (hk : 0 < k) (hk2 : k < 1000000) : RgC i j k (((j - i + k - 1) / k).toNat) := by
  have hq : Builtin.Range.rangeSize i j k = (j - i + k - 1) / k := by
    unfold Builtin.Range.rangeSize
    rw [if_pos (by omega)]
    by_cases h : i < j
    · rw [if_pos h]
      have e : j - i + k - 1 = (j - i - 1) + 1 * k := by omega
      rw [e, Int.add_mul_ediv_right _ _ (by omega)]
    · rw [if_neg h]
      have e : j - i + k - 1 = k - 1 := by omega
      rw [e, Int.ediv_eq_zero_of_lt (by omega) (by omega)]
  have hn : 0 ≤ (j - i + k - 1) / k := Int.ediv_nonneg (by omega) (by omega)
  have hl : (j - i + k - 1) / k ≤ j - i + k - 1 := Int.ediv_le_self _ (by omega)
  have hf : ∀ x : Int, -(2 ^ 63) ≤ x → x < 2 ^ 63 → Builtin.Range.rangeFitsLong x = true := fun x a b => by
    unfold Builtin.Range.rangeFitsLong
    rw [decide_eq_true a, decide_eq_true b]; rfl
  refine ⟨by omega, by omega, ?_, by rw [hq]; omega⟩
  unfold Builtin.Range.small
  rw [hq, hf i (by omega) (by omega), hf j (by omega) (by omega), hf k (by omega) (by omega), hf _ (by omega) (by omega), if_pos (show k > 0 by omega), hf _ (by omega) (by omega)]
  simp
section
variable {m : MS} {P : Bool → Prop} {b : Bool} {xs : List D} {i : Int}
theorem w_truB (h : P b) : truD (.bl b) m P := h
theorem w_truL (h : P (!xs.isEmpty)) : truD (.lst xs) m P := h
theorem w_truI (h : P (i != 0)) : truD (.int i) m P := h
end
theorem pre1 (s c : Nat) (r : List Nat) : pre [s] (c :: r) = (c == s) := by
  unfold pre
  simp
theorem spl_par (s : Nat) : ∀ (l acc : List Nat), (par [s] acc l = none ∧ spl [s] 0 acc l = [acc ++ l] ∧ s ∉ l) ∨ ∃ a b, par [s] acc l = some (acc ++ a, b) ∧ spl [s] 0 acc l = (acc ++ a) :: spl [s] 0 [] b ∧ s ∉ a ∧ l = a ++ s :: b
  | [], acc => .inl ⟨rfl, by rw [List.append_nil]; rfl, by simp⟩
  | c :: r, acc => by
    by_cases h : c = s
    · subst h
      refine .inr ⟨[], r, ?_, ?_, by simp, rfl⟩
      · rw [par_hit (by rw [pre1]; simp), List.append_nil]; rfl
      · rw [spl_hit (by rw [pre1]; simp), List.append_nil]; rfl
    · have hp : pre [s] (c :: r) = false := by rw [pre1]; simp [h]
      rw [par_miss hp, spl_miss hp]
      rcases spl_par s r (acc ++ [c]) with ⟨h1, h2, h3⟩ | ⟨a, b, h1, h2, h3, h4⟩
      · refine .inl ⟨h1, by rw [h2, List.append_assoc]; rfl, ?_⟩
        intro z
        rcases List.mem_cons.mp z with z | z
        · exact h z.symm
        · exact h3 z
      · refine .inr ⟨c :: a, b, by rw [h1, List.append_assoc]; rfl, by rw [h2, List.append_assoc]; rfl, ?_, by rw [h4]; rfl⟩
        intro z
        rcases List.mem_cons.mp z with z | z
        · exact h z.symm
        · exact h3 z
end DL
namespace DL
open PySem PySem.Spec PyProof.Rows L2
def sLst (n : Nat) (gs : DGs) : DG := fun d ds P => match d with
  | .lst xs => xs.length = n ∧ gs xs ds P
  | _ => False
theorem w_slst {n : Nat} {gs : DGs} {xs : List D} {ds : DS} {PS : DS → Prop} (e : xs.length = n) (h : TgsG gs xs ds PS) : sLst n gs (.lst xs) ds PS := ⟨e, h⟩
end DL
namespace DL
open PySem PySem.W PySem.Calls PySem.PX
end DL
namespace DL
open PySem PySem.Spec PyProof.Rows L2
def putD (kvs : List (Str × Int)) (k : Str) (v : Int) : List (Str × Int) :=
  if (kvs.any fun kv => decide (kv.1 = k)) = true then kvs.map fun kv => if kv.1 = k then (kv.1, v) else kv else kvs ++ [(k, v)]
def getD (kvs : List (Str × Int)) (k : Str) : Option Int := (kvs.find? fun kv => decide (kv.1 = k)).map (·.2)
theorem dctK_any (k : Str) : ∀ kvs : List (Str × Int), ((dctK kvs).any fun kv => decide (kv.1 = (.inr k : Key))) = kvs.any fun kv => decide (kv.1 = k)
  | [] => rfl
  | p :: r => by
    show (decide ((Sum.inr p.1 : Key) = .inr k) || (dctK r).any _) = (decide (p.1 = k) || r.any _)
    rw [dctK_any k r]
    congr 1
    exact decide_eq_decide.mpr ⟨fun h => Sum.inr.inj h, fun h => by rw [h]⟩
theorem dctK_map (k : Str) (v : Int) : ∀ kvs : List (Str × Int), ((dctK kvs).map fun kv => if kv.1 = (.inr k : Key) then (kv.1, V.int v) else kv) = dctK (kvs.map fun kv => if kv.1 = k then (kv.1, v) else kv)
  | [] => rfl
  | p :: r => by
    have ih := dctK_map k v r
    unfold dctK at ih ⊢
    simp only [List.map_cons]
    rw [ih]
    congr 1
    by_cases h : p.1 = k
    · simp only [h, if_true]
    · have h2 : ¬ ((Sum.inr p.1 : Key) = .inr k) := fun e => h (Sum.inr.inj e)
      simp only [h, h2, if_false]
theorem dctK_put (kvs : List (Str × Int)) (k : Str) (v : Int) : putK (dctK kvs) (.inr k) (.int v) = dctK (putD kvs k v) := by
  unfold putK putD
  rw [dctK_any, dctK_map]
  split
  · rfl
  · unfold dctK; rw [List.map_append]; rfl
theorem dctK_val (k : Str) : ∀ kvs : List (Str × Int), valV (dctK kvs) (.inr k) = (getD kvs k).map V.int
  | [] => rfl
  | p :: r => by
    have ih := dctK_val k r
    by_cases h : p.1 = k
    · have : valV (dctK (p :: r)) (.inr k) = some (V.int p.2) := valV_pos (p := ((.inr p.1 : Key), V.int p.2)) (by rw [h])
      rw [this]; unfold getD; simp [List.find?_cons, h]
    · have : valV (dctK (p :: r)) (.inr k) = valV (dctK r) (.inr k) := valV_neg (p := ((.inr p.1 : Key), V.int p.2)) (fun e => h (Sum.inr.inj e))
      rw [this, ih]; unfold getD; simp [List.find?_cons, h]
def ddPut (y z : D) (acc : List (Str × Int)) (P : List (Str × Int) → Prop) : Prop := match y, z with
  | .str k, .int v => acc.length < sizeLine ∧ P (putD acc k v)
  | _, _ => False
def compDD (g : DG) (tt : DT) (tk tv : DE) (ds : DS) : List D → List (Str × Int) → MS → (List (Str × Int) → MS → Prop) → Prop
  | [], acc, ms, P => P acc ms
  | x :: r, acc, ms, P => g x ds fun ds2 => tt ds2 ms fun b m3 => if b = true then tk ds2 m3 fun y m4 => tv ds2 m4 fun z m5 => ddPut y z acc fun acc' => compDD g tt tk tv ds r acc' m5 P else compDD g tt tk tv ds r acc m3 P
def dDc (di : DI) (g : DG) (tt : DT) (tk tv : DE) (vs : List Nat) : DE := fun ds ms P => di ds ms fun xs m => compDD g tt tk tv (wipeD ds vs) xs [] m fun ys m' => P (.dct ys) m'
section
variable {K : PySem.W.Frag} {di : DI} {dg : DG} {tt : DT} {tk tv : DE} {g : TG} {vs : List Nat}
theorem lift_dc (hg : TgD K g dg vs) (hm : MonG g) : ∀ σ H Q, lift K (dDc di dg tt tk tv vs) σ H Q → tDc (liftI K di) g (liftT K tt) (lift K tk) (lift K tv) vs σ H Q := fun σ H Q ⟨F, ds, ms, P, R, S, h, q⟩ => by
  refine ⟨F, ds, ms, _, R, S, h, fun xs m F0 H0 J p0 R0 s0 wk L hL => ?_⟩
  have nL : F0 L = none := R0.sub.none hL
  have nM : ∀ p ∈ m, p.1 ≠ L := fun p hp => by
    obtain ⟨_, ws, h2, _⟩ := R0.mu p hp
    exact ne_of_none h2 hL
  let Pv : Nat → Hp → Prop := fun at_ Hc => ∃ F1 m1 acc, Rel K F1 Hc m1 ∧ Stp F0 H0 m F1 Hc m1 ∧ Hc L = some (.dK (dctK acc)) ∧ F1 L = none ∧ (∀ p ∈ m1, p.1 ≠ L) ∧ compDD dg tt tk tv (wipeD ds vs) (xs.drop at_) acc m1 fun ys m' => P (.dct ys) m'
  have first : Pv 0 (upd H0 L (.dK [])) := ⟨F0, m, [], R0.lay hL, ⟨Sub.refl F0, fun a u h1 _ _ => by rw [upd_ne (ne_of_none h1 hL)]; exact h1, fun _ _ h => .inl h, fun q hq => .inl ⟨q, hq, rfl⟩⟩, upd_same, nL, nM, p0⟩
  refine ⟨fun at_ left Hc => Pv at_ Hc ∧ at_ + left = xs.length, ⟨xs.length, first, Nat.zero_add _⟩, fun at_ left H1 held => ?_⟩
  obtain ⟨⟨F1, m1, acc, R1, s1, hD, hF, hM, h1⟩, sum⟩ := held
  have under : Sub F0 H1 := s1.sub.trans R1.sub
  cases left with
  | succ left =>
    have more : at_ < xs.length := by omega
    refine .inr ⟨wk.goes at_ H1 more under, Pv (at_ + 1), fun Hn pn => ⟨left, Nat.lt_succ_self _, pn, by omega⟩, fun x H2 yl => ?_⟩
    obtain ⟨d, hd, hy⟩ := wk.yields at_ H1 x H2 more under yl
    rw [drop_get hd] at h1
    have fin : ∀ {F2 : Hp} {x : V}, Rel K F2 H2 m1 → Stp F0 H0 m F2 H2 m1 → Sub F1 F2 → DR K F2 x d → H2 L = some (.dK (dctK acc)) → F2 L = none →
        g x (L2.wipe σ vs) H2 fun σ2 H3 => L2.wipe σ2 vs = L2.wipe σ vs ∧ liftT K tt σ2 H3 fun b H4 => if b = true then lift K tk σ2 H4 fun y H5 => lift K tv σ2 H5 fun z H6 => ∃ kvs k, y = kV k ∧ H6 L = some (.dK kvs) ∧ kvs.length < sizeLine ∧
          (∃ F1 m1 acc', Rel K F1 (upd H6 L (.dK (putK kvs k z))) m1 ∧ Stp F0 H0 m F1 (upd H6 L (.dK (putK kvs k z))) m1 ∧ (upd H6 L (.dK (putK kvs k z))) L = some (.dK (dctK acc')) ∧ F1 L = none ∧ (∀ p ∈ m1, p.1 ≠ L) ∧ compDD dg tt tk tv (wipeD ds vs) (xs.drop (at_ + 1)) acc' m1 fun ys m' => P (.dct ys) m')
          else ∃ F1 m1 acc, Rel K F1 H4 m1 ∧ Stp F0 H0 m F1 H4 m1 ∧ H4 L = some (.dK (dctK acc)) ∧ F1 L = none ∧ (∀ p ∈ m1, p.1 ≠ L) ∧ compDD dg tt tk tv (wipeD ds vs) (xs.drop (at_ + 1)) acc m1 fun ys m' => P (.dct ys) m' := by
      intro F2 x R2 s2 s12 rx hD2 hF2
      have hw := hg.wip x (L2.wipe σ vs) H2 _ (hg.snd x (L2.wipe σ vs) F2 H2 (fun σ2 H3 => H3 = H2 ∧ ∃ ds2, Sl K F2 σ2 ds2 ∧ tt ds2 m1 fun b m3 => if b = true then tk ds2 m3 fun y m4 => tv ds2 m4 fun z m5 => ddPut y z acc fun acc' => compDD dg tt tk tv (wipeD ds vs) (xs.drop (at_ + 1)) acc' m5 fun ys m' => P (.dct ys) m' else compDD dg tt tk tv (wipeD ds vs) (xs.drop (at_ + 1)) acc m3 fun ys m' => P (.dct ys) m') d (wipeD ds vs) _ R2.sub ((S.wipe vs).mono (s0.sub.trans s2.sub)) rx h1 fun ds2 σ2 h2 S2 => ⟨rfl, ds2, S2, h2⟩)
      refine hm _ _ _ _ _ ?_ hw
      rintro σ2 H3 ⟨e1, rfl, ds2, S2, h2⟩
      refine ⟨e1.trans (wipe_wipe fun u hu => hu), F2, ds2, m1, _, R2, S2, h2, fun b m4 F4 H4 p4 R4 s4 => ?_⟩
      obtain ⟨hD4, hF4, hM4⟩ := s4.kp hD2 hF2 hM
      cases b with
      | false =>
        rw [if_neg Bool.false_ne_true] at p4 ⊢
        exact ⟨F4, m4, acc, R4, s2.trans s4, hD4, hF4, hM4, p4⟩
      | true =>
        rw [if_pos rfl] at p4 ⊢
        refine ⟨F4, ds2, m4, _, R4, S2.mono s4.sub, p4, fun y m5 v5 F5 H5 p5 R5 s5 r5 => ?_⟩
        obtain ⟨hD5, hF5, hM5⟩ := s5.kp hD4 hF4 hM4
        refine ⟨F5, ds2, m5, _, R5, (S2.mono s4.sub).mono s5.sub, p5, fun z m6 v6 F6 H6 p6 R6 s6 r6 => ?_⟩
        obtain ⟨hD6, hF6, hM6⟩ := s6.kp hD5 hF5 hM5
        have s06 := ((s2.trans s4).trans s5).trans s6
        match y, z, r5, r6, p6 with
        | .str k, .int v, .str _, .int _, p6 =>
        refine ⟨dctK acc, .inr k, rfl, hD6, by unfold dctK; rw [List.length_map]; exact p6.1, F6, m6, putD acc k v, ?_, ?_, by rw [upd_same, dctK_put], hF6, hM6, p6.2⟩
        · refine ⟨fun b u e => ?_, fun p hp => ?_, R6.nd, R6.one⟩
          · rw [upd_ne (fun z => by rw [z, hF6] at e; cases e)]; exact R6.sub b u e
          · obtain ⟨z1, ws, z2, z3⟩ := R6.mu p hp
            exact ⟨z1, ws, by rw [upd_ne (hM6 p hp)]; exact z2, z3⟩
        · exact ⟨s06.sub, fun a u z1 z2 z3 => by rw [upd_ne (ne_of_none z1 hL)]; exact s06.keep a u z1 z2 z3, s06.newF, s06.newM⟩
    rcases hy with ⟨rfl, rx⟩ | ⟨T, a, b, da, db, rfl, hT, rfl, rfl, ra', rb'⟩
    · exact fin R1 s1 (Sub.refl F1) (rx.mono s1.sub) hD hF
    · have hne : L ≠ T := ne_of_none hD hT
      exact fin (R1.new hT) (s1.trans (Stp.new R1 hT)) (Sub.new (R1.sub.none hT)) (R1.newTup hT (.cons (ra'.mono s1.sub) (.cons (rb'.mono s1.sub) .nil))) (by rw [upd_ne hne]; exact hD) (by rw [upd_ne hne]; exact hF)
  | zero =>
    have whole : at_ = xs.length := by omega
    subst whole
    refine .inl ⟨wk.stops H1 under, ?_⟩
    rw [List.drop_length] at h1
    have sF : Sub F1 (upd F1 L (.dK (dctK acc))) := Sub.new hF
    refine q _ m1 _ (upd F1 L (.dK (dctK acc))) H1 h1 ?_ (s0.trans ?_) (.dct upd_same)
    · refine ⟨fun b u e => ?_, fun p hp => ?_, R1.nd, R1.one.mono sF⟩
      · by_cases hb : b = L
        · subst hb; rw [upd_same] at e; rw [hD]; exact e
        · rw [upd_ne hb] at e; exact R1.sub b u e
      · obtain ⟨z1, ws, z2, z3⟩ := R1.mu p hp
        exact ⟨by rw [upd_ne (hM p hp)]; exact z1, ws, z2, z3.mono sF⟩
    · refine ⟨s1.sub.trans sF, s1.keep, fun a u e => ?_, s1.newM⟩
      by_cases hb : a = L
      · subst hb; exact .inr (.inl hL)
      · rw [upd_ne hb] at e; exact s1.newF a u e
end
section
variable {X : Cx} {kx vx tg iter o i : Expr} {ifs : List Expr} {scope : Scope} {own : List (Str × Nat)} {pos : Pos} {di : DI} {g : TG} {dg : DG} {tt : DT} {tk tv da db : DE}
/-- d[k] of such a dict -/
def dDGet (da db : DE) : DE := fun ds ms P => da ds ms fun x m1 => db ds m1 fun y m2 => match x, y with
  | .dct kvs, .str k => (match getD kvs k with
    | some v => P (.int v) m2
    | none => False)
  | _, _ => False
theorem pd_dget (hu : X.A.units + 1 < cLine) (ho : PD X o da) (hi : PD X i db) (hs : NoSl i) : PD X (.Subscript o i pos) (dDGet da db) :=
  peImp (pe_dget hu ho hi hs) fun σ H Q ⟨F, ds, ms, P, R, S, h1, h2⟩ =>
    ⟨F, ds, ms, _, R, S, h1, fun x m1 v1 F1 H1 p1 R1 s1 r1 => ⟨F1, ds, m1, _, R1, S.mono s1.sub, p1, fun y m2 v2 F2 H2 p2 R2 s2 r2 => by
      match x, y, r1, r2, p2 with
      | .dct kvs, .str k, .dct (a := a) hx, .str _, p2 =>
        cases e : getD kvs k with
        | none => simp only [e] at p2
        | some v =>
          simp only [e] at p2
          refine ⟨a, .int v, rfl, ?_, h2 _ m2 _ F2 H2 p2 R2 (s1.trans s2) (.int v)⟩
          have := DGet.k (k := .inr k) (R2.sub _ _ (s2.sub _ _ hx))
          rw [dctK_val, e] at this
          exact this⟩⟩
end
def fInDB (neg : Bool) : OF := fun x y ms P => match x, y with
  | .str k, .dct kvs => P (.bl (Bool.xor neg (getD kvs k).isSome)) ms
  | _, _ => False
def fInDct : OF := fInDB false
def fNotInDct : OF := fInDB true
def rInDct (neg : Bool) : R2 := fun x y H Q => ∃ a o, y = .ref a ∧ DGet H a x o ∧ Q (.bl (Bool.xor neg o.isSome)) H
theorem op_inDct {X : Cx} (hu : X.A.units + 64 < cLine) : OpR X (compareOp .In) (rInDct false) := by
  rintro pins s σ H x y v u Q I rx ry ⟨a, o, rfl, g, q⟩
  cases ry
  exact d_in (by omega) I g rx fun s' I' => ⟨.bl _, H, I', rfl, by simpa using q⟩
theorem op_notInDct {X : Cx} (hu : X.A.units + 64 < cLine) : OpR X (compareOp .NotIn) (rInDct true) := by
  rintro pins s σ H x y v u Q I rx ry ⟨a, o, rfl, g, q⟩
  cases ry
  exact d_notIn (by omega) I g rx fun s' I' => ⟨.bl _, H, I', rfl, by simpa using q⟩
theorem opd_inDB {K : PySem.W.Frag} {neg : Bool} : OpD K (rInDct neg) (fInDB neg) := fun F H ms x y dx dy P Q R rx ry h q => by
  match dx, dy, rx, ry, h with
  | .str k, .dct kvs, .str _, .dct (a := a) hx, h =>
    refine ⟨a, valV (dctK kvs) (.inr k), rfl, DGet.k (k := .inr k) (R.sub _ _ hx), ?_⟩
    have e : (valV (dctK kvs) (.inr k)).isSome = (getD kvs k).isSome := by rw [dctK_val, Option.isSome_map]
    rw [e]
    exact q _ ms _ F H h R Stp.refl (.bl _)
theorem opd_inDct {K : PySem.W.Frag} : OpD K (rInDct false) fInDct := opd_inDB
theorem opd_notInDct {K : PySem.W.Frag} : OpD K (rInDct true) fNotInDct := opd_inDB
end DL
namespace DL
open PySem PySem.Spec PyProof.Rows L2
def stepIx (n : Nat) (a b : Int) : List Nat := sliceRange (sliceBounds (some a) none (some b) n).1 (sliceBounds (some a) none (some b) n).2.1 (sliceBounds (some a) none (some b) n).2.2
def stepL {α : Type} (xs : List α) (a b : Int) : List α := (stepIx xs.length a b).filterMap (xs[·]?)
theorem vals_get : ∀ {xs : List V} {us : List Value} (i : Nat), Vals xs us → (xs[i]? = none ∧ us[i]? = none) ∨ ∃ x u, xs[i]? = some x ∧ us[i]? = some u ∧ RelV x u
  | _, _, _, .nil => .inl ⟨rfl, rfl⟩
  | _, _, 0, .cons r _ => .inr ⟨_, _, rfl, rfl, r⟩
  | _, _, i + 1, .cons _ t => by
    rcases vals_get i t with ⟨h1, h2⟩ | ⟨x, u, h1, h2, h3⟩
    · exact .inl ⟨h1, h2⟩
    · exact .inr ⟨x, u, h1, h2, h3⟩
theorem vals_pick {xs : List V} {us : List Value} (r : Vals xs us) : ∀ ix : List Nat, Vals (ix.filterMap (xs[·]?)) (ix.filterMap (us[·]?))
  | [] => .nil
  | i :: ix => by
    rcases vals_get i r with ⟨h1, h2⟩ | ⟨x, u, h1, h2, h3⟩
    · rw [List.filterMap_cons_none h1, List.filterMap_cons_none h2]; exact vals_pick r ix
    · rw [List.filterMap_cons_some h1, List.filterMap_cons_some h2]; exact .cons h3 (vals_pick r ix)
theorem drs_get {K : PySem.W.Frag} {F : Hp} : ∀ {xs : List V} {us : List D} (i : Nat), DRs K F xs us → (xs[i]? = none ∧ us[i]? = none) ∨ ∃ x u, xs[i]? = some x ∧ us[i]? = some u ∧ DR K F x u
  | _, _, _, .nil => .inl ⟨rfl, rfl⟩
  | _, _, 0, .cons r _ => .inr ⟨_, _, rfl, rfl, r⟩
  | _, _, i + 1, .cons _ t => by
    rcases drs_get i t with ⟨h1, h2⟩ | ⟨x, u, h1, h2, h3⟩
    · exact .inl ⟨h1, h2⟩
    · exact .inr ⟨x, u, h1, h2, h3⟩
theorem drs_pick {K : PySem.W.Frag} {F : Hp} {xs : List V} {us : List D} (r : DRs K F xs us) : ∀ ix : List Nat, DRs K F (ix.filterMap (xs[·]?)) (ix.filterMap (us[·]?))
  | [] => .nil
  | i :: ix => by
    rcases drs_get i r with ⟨h1, h2⟩ | ⟨x, u, h1, h2, h3⟩
    · rw [List.filterMap_cons_none h1, List.filterMap_cons_none h2]; exact drs_pick r ix
    · rw [List.filterMap_cons_some h1, List.filterMap_cons_some h2]; exact .cons h3 (drs_pick r ix)
def dStepL (a b : Int) (de : DE) : DE := fun ds ms P => de ds ms fun x m => match asL x m with
  | some xs => P (.lst (stepL xs a b)) m
  | none => False
def mClear (x : D) (m : MS) (P : D → MS → Prop) : Prop := ∃ p xs, x = .opq (.ref p) ∧ look m p = some xs ∧ P .non (put m p [])
def dClear (dx : DE) : DE := fun ds ms P => dx ds ms fun x m => mClear x m P
section
variable {ds : DS} {ms m : MS} {P : D → MS → Prop} {de da db : DE} {di : DI} {g : DG} {tt : DT} {tk tv : DE} {vs : List Nat} {kvs : List (Str × Int)} {k : Str} {v : Int} {xs : List D} {a b : Int} {p : Addr} {d : D} {m' : MS}
def mDGet (x y : D) (m : MS) (P : D → MS → Prop) : Prop := match x, y with
  | .dct kvs, .str k => (match getD kvs k with
    | some v => P (.int v) m
    | none => False)
  | _, _ => False
def mStepL (a b : Int) (x : D) (m : MS) (P : D → MS → Prop) : Prop := match asL x m with
  | some xs => P (.lst (stepL xs a b)) m
  | none => False
theorem w_dc (h : ItG di ds ms fun xs m => compDD g tt tk tv (wipeD ds vs) xs [] m fun ys m' => P (.dct ys) m') : dDc di g tt tk tv vs ds ms P := h
theorem w_dget (h : ExG da ds ms fun x m1 => ExG db ds m1 fun y m2 => mDGet x y m2 P) : dDGet da db ds ms P := h
theorem w_mDGet (e : getD kvs k = some v) (h : P (.int v) m) : mDGet (.dct kvs) (.str k) m P := by unfold mDGet; simp only [e]; exact h
theorem w_inDct (h : P (.bl (getD kvs k).isSome) ms) : fInDct (.str k) (.dct kvs) ms P := by unfold fInDct fInDB; simpa using h
theorem w_notInDct (h : P (.bl (!(getD kvs k).isSome)) ms) : fNotInDct (.str k) (.dct kvs) ms P := by unfold fNotInDct fInDB; simpa using h
theorem w_stepL (h : ExG de ds ms fun x m => mStepL a b x m P) : dStepL a b de ds ms P := h
theorem w_mStepL (h : P (.lst (stepL xs a b)) m) : mStepL a b (.lst xs) m P := h
theorem w_clear (h : ExG de ds ms fun x m => mClear x m P) : dClear de ds ms P := h
theorem w_mClear (e : look m p = some xs) (e2 : put m p [] = m') (h : P .non m') : mClear (.opq (.ref p)) m P := ⟨p, xs, rfl, e, by rw [e2]; exact h⟩
end
end DL
namespace DL
open PySem PySem.Spec PyProof.Rows L2
def dListR (da : DE) : DE := fun ds ms P => da ds ms fun d m => match d with
  | .int n => (0 ≤ n ∧ n ≤ 16777216) ∧ P (.lst (rng 0 n.toNat)) m
  | _ => False
def mListR (d : D) (m : MS) (P : D → MS → Prop) : Prop := match d with
  | .int n => (0 ≤ n ∧ n ≤ 16777216) ∧ P (.lst (rng 0 n.toNat)) m
  | _ => False
theorem w_listR {da : DE} {ds : DS} {ms : MS} {P : D → MS → Prop} (h : ExG da ds ms fun x m => mListR x m P) : dListR da ds ms P := h
mutual
inductive Der (ms : MS) : D → D → Prop
  | lst {xs ys : List D} : Ders ms xs ys → Der ms (.lst xs) (.lst ys)
  | tup {xs ys : List D} : Ders ms xs ys → Der ms (.tup xs) (.tup ys)
  | ref {p : Addr} {xs ys : List D} : look ms p = some xs → Ders ms xs ys → Der ms (.opq (.ref p)) (.lst ys)
  | same (d : D) : Der ms d d
inductive Ders (ms : MS) : List D → List D → Prop
  | nil : Ders ms [] []
  | cons {x y : D} {xs ys : List D} : Der ms x y → Ders ms xs ys → Ders ms (x :: xs) (y :: ys)
end
theorem Ders.same {ms : MS} : ∀ xs : List D, Ders ms xs xs
  | [] => .nil
  | x :: r => .cons (.same x) (Ders.same r)
/-- all that is known, with the lists that are written to as they stand now -/
def held (F H : Hp) (ms : MS) : Hp := fun b => if (look ms b).isSome then H b else F b
def dPickZ (n : Nat) (is : List Nat) (fx1 fx2 : FX) (di : DE) (aa : DA) (Z : ZD) : DE := fun ds ms P => di ds ms fun d m =>
  (d = .int 0 ∧ aa ds m fun xs m1 => xs.length = n ∧ fx1 (pick is xs) m1 P fun c ns ys m' => Z c ns ys ds m') ∨
  (d = .int 1 ∧ aa ds m fun xs m1 => xs.length = n ∧ fx2 (pick is xs) m1 P fun c ns ys m' => Z c ns ys ds m')
def mPickZ (n : Nat) (is : List Nat) (fx1 fx2 : FX) (aa : DA) (Z : ZD) (ds : DS) (P : D → MS → Prop) (d : D) (m : MS) : Prop :=
  (d = .int 0 ∧ aa ds m fun xs m1 => xs.length = n ∧ fx1 (pick is xs) m1 P fun c ns ys m' => Z c ns ys ds m') ∨
  (d = .int 1 ∧ aa ds m fun xs m1 => xs.length = n ∧ fx2 (pick is xs) m1 P fun c ns ys m' => Z c ns ys ds m')
def mPickA (n : Nat) (is : List Nat) (fx : FX) (Z : ZD) (ds : DS) (P : D → MS → Prop) (xs : List D) (m : MS) : Prop := xs.length = n ∧ fx (pick is xs) m P fun c ns ys m' => Z c ns ys ds m'
theorem w_pickZ {n : Nat} {is : List Nat} {fx1 fx2 : FX} {di : DE} {aa : DA} {Z : ZD} {ds : DS} {ms : MS} {P : D → MS → Prop} (h : ExG di ds ms fun d m => mPickZ n is fx1 fx2 aa Z ds P d m) : dPickZ n is fx1 fx2 di aa Z ds ms P := h
theorem w_mPickZ0 {n : Nat} {is : List Nat} {fx1 fx2 : FX} {aa : DA} {Z : ZD} {ds : DS} {m : MS} {P : D → MS → Prop} (h : ArG aa ds m fun xs m1 => mPickA n is fx1 Z ds P xs m1) : mPickZ n is fx1 fx2 aa Z ds P (.int 0) m := .inl ⟨rfl, h⟩
theorem w_mPickZ1 {n : Nat} {is : List Nat} {fx1 fx2 : FX} {aa : DA} {Z : ZD} {ds : DS} {m : MS} {P : D → MS → Prop} (h : ArG aa ds m fun xs m1 => mPickA n is fx2 Z ds P xs m1) : mPickZ n is fx1 fx2 aa Z ds P (.int 1) m := .inr ⟨rfl, h⟩
theorem w_mPickA {n : Nat} {is : List Nat} {fx : FX} {Z : ZD} {ds : DS} {P : D → MS → Prop} {xs ys : List D} {m : MS} (e1 : xs.length = n) (e : pick is xs = ys) (h : fx ys m P fun c ns zs m' => Z c ns zs ds m') : mPickA n is fx Z ds P xs m := ⟨e1, by rw [e]; exact h⟩
end DL
namespace DL
open PySem PySem.Spec PyProof.Rows L2
structure FirstAt (is : List Int) (v : Int) (j : Nat) : Prop where
  at_ : is[j]? = some v
  no : ∀ k, k < j → is[k]? ≠ some v
def dIndex (dx : DE) (aa : DA) : DE := fun ds ms P => dx ds ms fun x m1 => match x with
  | .lst a => aa ds m1 fun ys m2 => (match ys with
    | [y] => ∃ (is : List Int) (v : Int) (j : Nat), a = is.map D.int ∧ y = .int v ∧ FirstAt is v j ∧ P (.int (j : Int)) m2
    | _ => False)
  | _ => False
def mIndex (aa : DA) (ds : DS) (x : D) (m : MS) (P : D → MS → Prop) : Prop := match x with
  | .lst a => aa ds m fun ys m2 => (match ys with
    | [y] => ∃ (is : List Int) (v : Int) (j : Nat), a = is.map D.int ∧ y = .int v ∧ FirstAt is v j ∧ P (.int (j : Int)) m2
    | _ => False)
  | _ => False
def mIndexA (a : List D) (ys : List D) (m : MS) (P : D → MS → Prop) : Prop := match ys with
  | [y] => ∃ (is : List Int) (v : Int) (j : Nat), a = is.map D.int ∧ y = .int v ∧ FirstAt is v j ∧ P (.int (j : Int)) m
  | _ => False
theorem w_index {dx : DE} {aa : DA} {ds : DS} {ms : MS} {P : D → MS → Prop} (h : ExG dx ds ms fun x m => mIndex aa ds x m P) : dIndex dx aa ds ms P := h
theorem w_mIndex {aa : DA} {ds : DS} {a : List D} {m : MS} {P : D → MS → Prop} (h : ArG aa ds m fun ys m2 => mIndexA a ys m2 P) : mIndex aa ds (.lst a) m P := h
end DL
namespace DL
open PySem PySem.Spec PyProof.Rows L2
end DL
namespace DL
open PySem PySem.Spec PyProof.Rows L2
def dSortSet (da : DE) : DE := fun ds ms P => da ds ms fun d m => match d with
  | .lst xs => ∃ is : List Int, xs = is.map D.int ∧ is.length ≤ 60 ∧ ∀ js : List Int, js.Pairwise (· < ·) → (∀ k, k ∈ js ↔ k ∈ is) → P (.lst (js.map D.int)) m
  | _ => False
def mSortSet (d : D) (m : MS) (P : D → MS → Prop) : Prop := match d with
  | .lst xs => ∃ is : List Int, xs = is.map D.int ∧ is.length ≤ 60 ∧ ∀ js : List Int, js.Pairwise (· < ·) → (∀ k, k ∈ js ↔ k ∈ is) → P (.lst (js.map D.int)) m
  | _ => False
theorem w_sortSet {da : DE} {ds : DS} {ms : MS} {P : D → MS → Prop} (h : ExG da ds ms fun d m => mSortSet d m P) : dSortSet da ds ms P := h
end DL
namespace DL
open PySem PySem.Spec PyProof.Rows L2
def mRevL (x : D) (m : MS) (P : D → MS → Prop) : Prop := match asL x m with
  | some xs => P (.lst xs.reverse) m
  | none => False
def dRevL (de : DE) : DE := fun ds ms P => de ds ms fun x m => mRevL x m P
section
variable {ds : DS} {ms m : MS} {P : D → MS → Prop} {de : DE} {xs : List D}
theorem w_revL (h : ExG de ds ms fun x m => mRevL x m P) : dRevL de ds ms P := h
theorem w_mRevL (h : P (.lst xs.reverse) m) : mRevL (.lst xs) m P := h
end
/-- what keeps no promise (the call of itself where it is not needed) -/
def noFS : FS := fun _ _ _ => False
theorem FnG.none {P : Program} {w : World} {K : PySem.W.Frag} {mg : Str → Option Value} {base : Heap} {k : Nat} {f : Addr} {fd : FuncData} {ps : List Str} : FnG P w K mg base k f fd ps (spD K noFS) :=
  ⟨fun _ _ _ _ ⟨_, _, _, _, _, _, h, _⟩ => h.elim, fun _ _ _ _ _ _ _ _ _ _ _ _ ⟨_, _, _, _, _, _, h, _⟩ => h.elim⟩
end DL
namespace DL
open PySem PySem.Spec PyProof.Rows L2
mutual
inductive Vw (L : MS) : D → D → Prop
  | same {d : D} : Vw L d d
  | tup {xs ys : List D} : VwS L xs ys → Vw L (.tup xs) (.tup ys)
  | lst {p : Addr} {xs ys : List D} : (p, xs) ∈ L → VwS L xs ys → Vw L (.opq (.ref p)) (.lst ys)
inductive VwS (L : MS) : List D → List D → Prop
  | nil : VwS L [] []
  | cons {x y : D} {xs ys : List D} : Vw L x y → VwS L xs ys → VwS L (x :: xs) (y :: ys)
end
theorem VwS.same {L : MS} : ∀ xs : List D, VwS L xs xs
  | [] => .nil
  | _ :: r => .cons .same (VwS.same r)
open Classical in
/-- the lent lists too -/
noncomputable def lent (L : MS) (F H : Hp) : Hp := fun b => if ∃ q ∈ L, q.1 = b then H b else F b
open Classical in
/-- without them -/
noncomputable def back (L : MS) (F : Hp) : Hp := fun b => if ∃ q ∈ L, q.1 = b then none else F b
section
variable {K : PySem.W.Frag} {F H : Hp} {L ms0 : MS}
theorem lent_in {b : Addr} (h : ∃ q ∈ L, q.1 = b) : lent L F H b = H b := if_pos h
theorem lent_out {b : Addr} (h : ¬ ∃ q ∈ L, q.1 = b) : lent L F H b = F b := if_neg h
theorem back_in {b : Addr} (h : ∃ q ∈ L, q.1 = b) : back L F b = none := if_pos h
theorem back_out {b : Addr} (h : ¬ ∃ q ∈ L, q.1 = b) : back L F b = F b := if_neg h
theorem none_in (R : Rel K F H (L ++ ms0)) {b : Addr} (h : ∃ q ∈ L, q.1 = b) : F b = none := by
  obtain ⟨q, hq, rfl⟩ := h
  exact (R.mu q (List.mem_append_left _ hq)).1
theorem lent_sub (R : Rel K F H (L ++ ms0)) : Sub F (lent L F H) := fun b o e => by
  by_cases h : ∃ q ∈ L, q.1 = b
  · rw [none_in R h] at e; cases e
  · rw [lent_out h]; exact e
mutual
theorem DR.vw (R : Rel K F H (L ++ ms0)) : ∀ {d d' : D}, Vw L d d' → ∀ {v : V}, DR K F v d → DR K (lent L F H) v d'
  | _, _, .same, _, r => r.mono (lent_sub R)
  | _, _, .tup hs, _, r => by
    cases r with
    | tup hq rs => exact .tup ((lent_sub R).sqT hq) (DRs.vw R hs rs)
  | _, _, .lst (p := p) hm hs, _, r => by
    cases r
    obtain ⟨_, vs, h2, h3⟩ := R.mu _ (List.mem_append_left _ hm)
    exact .lst (by rw [lent_in ⟨_, hm, rfl⟩]; exact h2) (DRs.vw R hs h3)
theorem DRs.vw (R : Rel K F H (L ++ ms0)) : ∀ {ds ds' : List D}, VwS L ds ds' → ∀ {vs : List V}, DRs K F vs ds → DRs K (lent L F H) vs ds'
  | _, _, .nil, _, r => by cases r; exact .nil
  | _, _, .cons h hs, _, r => by
    cases r with
    | cons r1 r2 => exact .cons (DR.vw R h r1) (DRs.vw R hs r2)
end
theorem out_of (R : Rel K F H (L ++ ms0)) {q : Addr × List D} (hq : q ∈ ms0) : ¬ ∃ r ∈ L, r.1 = q.1 := by
  rintro ⟨r, hr, e⟩
  have nd := R.nd
  rw [List.map_append] at nd
  exact (List.nodup_append.mp nd).2.2 _ (List.mem_map_of_mem hr) _ (List.mem_map_of_mem hq) e
theorem relLent (R : Rel K F H (L ++ ms0)) : Rel K (lent L F H) H ms0 ∧ Stp F H (L ++ ms0) (lent L F H) H ms0 := by
  refine ⟨⟨fun b o e => ?_, fun q hq => ?_, ?_, R.one.mono (lent_sub R)⟩, ⟨lent_sub R, fun _ _ h _ _ => h, fun a o e => ?_, fun q hq => .inl ⟨q, List.mem_append_right _ hq, rfl⟩⟩⟩
  · by_cases h : ∃ q ∈ L, q.1 = b
    · rw [lent_in h] at e; exact e
    · rw [lent_out h] at e; exact R.sub b o e
  · obtain ⟨h1, vs, h2, h3⟩ := R.mu q (List.mem_append_right _ hq)
    exact ⟨by rw [lent_out (out_of R hq)]; exact h1, vs, h2, h3.mono (lent_sub R)⟩
  · have nd := R.nd
    rw [List.map_append] at nd
    exact (List.nodup_append.mp nd).2.1
  · by_cases h : ∃ q ∈ L, q.1 = a
    · obtain ⟨q, hq, e2⟩ := h
      exact .inr (.inr ⟨q, List.mem_append_left _ hq, e2⟩)
    · rw [lent_out h] at e; exact .inl e
theorem relBack {F2 H2 : Hp} {m : MS} {v : V} {d : D} (R : Rel K F H (L ++ ms0)) (R2 : Rel K F2 H2 m) (s2 : Stp (lent L F H) H ms0 F2 H2 m) (fd : flat d = true) (fm : flatM m) (r2 : DR K F2 v d) :
    Rel K (back L F2) H2 (L ++ m) ∧ Stp F H (L ++ ms0) (back L F2) H2 (L ++ m) ∧ DR K (back L F2) v d := by
  have at_ : ∀ q ∈ L, ∃ vs, F2 q.1 = some (.lst vs) ∧ DRs K F vs q.2 := fun q hq => by
    obtain ⟨_, vs, h2, h3⟩ := R.mu q (List.mem_append_left _ hq)
    exact ⟨vs, s2.sub q.1 _ (by rw [lent_in ⟨q, hq, rfl⟩]; exact h2), h3⟩
  have sub3 : Sub F (back L F2) := fun b o hb => by
    by_cases h : ∃ q ∈ L, q.1 = b
    · rw [none_in R h] at hb; cases hb
    · rw [back_out h]
      exact s2.sub b o (by rw [lent_out h]; exact hb)
  have keepT : ∀ b u, F2 b = some u → (∀ vs, u ≠ .lst vs) → back L F2 b = some u := fun b u hb nl => by
    by_cases h : ∃ q ∈ L, q.1 = b
    · obtain ⟨q, hq, rfl⟩ := h
      obtain ⟨vs, e, _⟩ := at_ q hq
      rw [e] at hb
      cases hb
      exact absurd rfl (nl vs)
    · rw [back_out h]; exact hb
  have ee : ∀ b ws, (F2 b = some (.tup ws) → back L F2 b = some (.tup ws)) ∧ ∀ o, F2 b = some (.frz o (.tup ws)) → back L F2 b = some (.frz o (.tup ws)) :=
    fun b ws => ⟨fun hb => keepT b _ hb (fun vs z => by cases z), fun o hb => keepT b _ hb (fun vs z => by cases z)⟩
  refine ⟨⟨fun b o hb => ?_, fun q hq => ?_, ?_, R.one.mono sub3⟩, ⟨sub3, fun a o k1 k2 k3 => ?_, fun a o k1 => ?_, fun q hq => ?_⟩, r2.flat ee fd⟩
  · by_cases h : ∃ q ∈ L, q.1 = b
    · rw [back_in h] at hb; cases hb
    · rw [back_out h] at hb; exact R2.sub b o hb
  · rcases List.mem_append.mp hq with hq | hq
    · obtain ⟨vs, e, rs⟩ := at_ q hq
      exact ⟨back_in ⟨q, hq, rfl⟩, vs, R2.sub _ _ e, rs.mono sub3⟩
    · obtain ⟨y1, us, y2, y3⟩ := R2.mu q hq
      refine ⟨?_, us, y2, y3.flat ee (fm q hq)⟩
      by_cases h : ∃ r ∈ L, r.1 = q.1
      · exact back_in h
      · rw [back_out h]; exact y1
  · rw [List.map_append, List.nodup_append]
    have nd := R.nd
    rw [List.map_append] at nd
    refine ⟨(List.nodup_append.mp nd).1, R2.nd, fun a ha b hb e => ?_⟩
    obtain ⟨q, hq, rfl⟩ := List.mem_map.mp ha
    obtain ⟨r, hr, rfl⟩ := List.mem_map.mp hb
    obtain ⟨vs, e1, _⟩ := at_ q hq
    obtain ⟨y1, _⟩ := R2.mu r hr
    rw [e, y1] at e1
    cases e1
  · have hn : ¬ ∃ q ∈ L, q.1 = a := fun ⟨q, hq, z⟩ => k3 q (List.mem_append_left _ hq) z
    exact s2.keep a o k1 (by rw [lent_out hn]; exact k2) fun q hq => k3 q (List.mem_append_right _ hq)
  · by_cases h : ∃ q ∈ L, q.1 = a
    · rw [back_in h] at k1; cases k1
    · rw [back_out h] at k1
      rcases s2.newF a o k1 with z | z | ⟨q, hq, z⟩
      · rw [lent_out h] at z; exact .inl z
      · exact .inr (.inl z)
      · exact .inr (.inr ⟨q, List.mem_append_right _ hq, z⟩)
  · rcases List.mem_append.mp hq with hq | hq
    · exact .inl ⟨q, List.mem_append_left _ hq, rfl⟩
    · rcases s2.newM q hq with ⟨q2, hq2, z⟩ | z | ⟨o, z⟩
      · exact .inl ⟨q2, List.mem_append_right _ hq2, z⟩
      · exact .inr (.inl z)
      · by_cases h : ∃ r ∈ L, r.1 = q.1
        · obtain ⟨r, hr, e⟩ := h
          exact .inl ⟨r, List.mem_append_left _ hr, e⟩
        · rw [lent_out h] at z; exact .inr (.inr ⟨o, z⟩)
end
/-- a slot's lists are lent to an expression that tells flat data -/
def dView (i : Nat) (de : DE) : DE := fun ds ms P => ∃ (L ms0 : MS) (d d' : D), ms = L ++ ms0 ∧ slot ds i = some d ∧ Vw L d d' ∧ de (setSlot ds i d') ms0 fun r m => flat r = true ∧ flatM m ∧ P r (L ++ m)
theorem lift_view {K : PySem.W.Frag} {i : Nat} {de : DE} : ∀ σ H Q, lift K (dView i de) σ H Q → lift K de σ H Q := fun σ H Q ⟨F, ds, ms, P, R, S, h1, h2⟩ => by
  obtain ⟨L, ms0, d, d', rfl, e, vw, h1⟩ := h1
  obtain ⟨v, hv, hr⟩ := S.get e
  obtain ⟨R1, s1⟩ := relLent R
  refine ⟨_, _, _, _, R1, setSlot_σ (S.mono s1.sub) hv (hr.vw R vw), h1, fun r m u F2 H2 hp R2 s2 r2 => ?_⟩
  obtain ⟨fd, fm, hp⟩ := hp
  obtain ⟨R3, s3, r3⟩ := relBack R R2 s2 fd fm r2
  exact h2 r (L ++ m) u _ H2 hp R3 s3 r3
theorem pd_view {X : Cx} {e : Expr} {de : DE} {i : Nat} (h : PD X e de) : PD X e (dView i de) := peImp h lift_view
theorem pdt_cmpV {X : Cx} {a b : Expr} {da db : DE} {pos : Pos} {i : Nat} {op : CmpOp} {r : R2} {f : OF} (ho : OpR X (compareOp op) r) (hf : OpD X.K r f) (ha : PD X a da) (hb : PD X b db) (hm : behindInMarks op b = false := by first | exact nomark _ | rfl) : PDT X (.Compare a [op] [b] pos) (dTest (dView i (dOp f da db))) := by
  refine ptImp (pt_cmpR ho ha hb hm) fun σ H Q h => ?_
  obtain ⟨F, ds, ms, P, R, S, h1, h2⟩ := h
  refine lift_op hf σ H _ (lift_view σ H _ ⟨F, ds, ms, _, R, S, h1, fun d m v F1 H1 p1 R1 s1 r1 => ?_⟩)
  cases d with
  | bl b => cases r1; exact ⟨b, rfl, h2 b m F1 H1 p1 R1 s1⟩
  | _ => exact p1.elim
theorem w_view {i : Nat} {de : DE} {ds ds' : DS} {ms : MS} {P : D → MS → Prop} (L ms0 : MS) {d d' : D} (e : ms = L ++ ms0) (e1 : slot ds i = some d) (vw : Vw L d d') (e2 : setSlot ds i d' = ds') (h : ExG de ds' ms0 fun r m => flat r = true ∧ flatM m ∧ P r (L ++ m)) : dView i de ds ms P :=
  ⟨L, ms0, d, d', e, e1, vw, by rw [e2]; exact h⟩
/-- ahead of a statement a slot's lists are made fast -/
def dViewS (i : Nat) (t : DTS) : DTS := fun E ds ms => ∃ (L ms0 : MS) (d d' : D), ms = L ++ ms0 ∧ slot ds i = some d ∧ Vw L d d' ∧ t E (setSlot ds i d') ms0
theorem liftS_view {K : PySem.W.Frag} {t : DTS} {i : Nat} : ∀ D σ H, liftS K (dViewS i t) D σ H → liftS K t D σ H := fun D σ H ⟨F, ds, ms, E, R, S, h, n, r, k, q⟩ => by
  obtain ⟨L, ms0, d, d', rfl, e, vw, h⟩ := h
  obtain ⟨v, hv, hr⟩ := S.get e
  obtain ⟨z1, z2⟩ := relLent R
  exact ⟨_, _, _, E, z1, setSlot_σ (S.mono z2.sub) hv (hr.vw R vw), h, fun ds' m' σ' F' H' h' R' s' S' => n ds' m' σ' F' H' h' R' (z2.trans s') S', fun d m' v' F' H' h' R' s' r' => r d m' v' F' H' h' R' (z2.trans s') r',
    fun ds' m' σ' F' H' h' R' s' S' => k ds' m' σ' F' H' h' R' (z2.trans s') S', fun ds' m' σ' F' H' h' R' s' S' => q ds' m' σ' F' H' h' R' (z2.trans s') S'⟩
theorem pds_view {X : Cx} {st : Stmt} {t : DTS} {i : Nat} (h : PDS X st t) : PDS X st (dViewS i t) := psImp h liftS_view
theorem w_viewS {t : DTS} {E : EN} {ds ds' : DS} {ms : MS} {i : Nat} (L ms0 : MS) {d d' : D} (e : ms = L ++ ms0) (e1 : slot ds i = some d) (vw : Vw L d d') (e2 : setSlot ds i d' = ds') (h : StG t E ds' ms0) : dViewS i t E ds ms :=
  ⟨L, ms0, d, d', e, e1, vw, by rw [e2]; exact h⟩
/-- what an expression tells is made fast, its lists too -/
def dViewE (de : DE) : DE := fun ds ms P => de ds ms fun d m => ∃ (L ms0 : MS) (d' : D), m = L ++ ms0 ∧ Vw L d d' ∧ P d' ms0
theorem pd_viewE {X : Cx} {e : Expr} {de : DE} (h : PD X e de) : PD X e (dViewE de) := peImp h fun σ H Q ⟨F, ds, ms, P, R, S, h1, h2⟩ =>
  ⟨F, ds, ms, _, R, S, h1, fun d m v F1 H1 p1 R1 s1 r1 => by
    obtain ⟨L, ms0, d', rfl, vw, p1⟩ := p1
    obtain ⟨z1, z2⟩ := relLent R1
    exact h2 d' ms0 v _ _ p1 z1 (s1.trans z2) (r1.vw R1 vw)⟩
theorem w_viewE {de : DE} {ds : DS} {ms : MS} {P : D → MS → Prop} (h : ExG de ds ms fun d m => ∃ (L ms0 : MS) (d' : D), m = L ++ ms0 ∧ Vw L d d' ∧ P d' ms0) : dViewE de ds ms P := h
end DL
namespace DL
open PySem PySem.Spec PyProof.Rows L2
section
variable {K : PySem.W.Frag} {F1 H1 F2 H2 : Hp} {ms m2 : MS} {p : Addr} {xs : List D} {vs : List V}
theorem relPark (R : Rel K F1 H1 ms) : Rel K F1 H1 (drp ms p) := ⟨R.sub, fun q hq => R.mu q (drp_sub q hq), drp_nd R.nd, R.one⟩
theorem unpark (R1 : Rel K F1 H1 ms) (e1 : look ms p = some xs) (hF : F1 p = none) (hH : H1 p = some (.lst vs)) (rs : DRs K F1 vs xs) (s : Stp F1 H1 (drp ms p) F2 H2 m2) (R2 : Rel K F2 H2 m2) :
    Rel K F2 H2 ((p, xs) :: m2) ∧ Stp F1 H1 ms F2 H2 ((p, xs) :: m2) := by
  have off := drp_ne (p := p) R1.nd
  have h2 : H2 p = some (.lst vs) := s.keep p _ hH hF off
  have f2 : F2 p = none := by
    cases e : F2 p with
    | none => rfl
    | some u =>
      rcases s.newF p u e with z | z | ⟨q, hq, z⟩
      · rw [hF] at z; cases z
      · rw [hH] at z; cases z
      · exact absurd z (off q hq)
  refine ⟨⟨R2.sub, fun q hq => ?_, ?_, R2.one⟩, ⟨s.sub, fun a o k1 k2 k3 => s.keep a o k1 k2 fun q hq => k3 q (drp_sub q hq), fun a o h => ?_, fun q hq => ?_⟩⟩
  · rcases List.mem_cons.mp hq with rfl | hq
    · exact ⟨f2, vs, h2, rs.mono s.sub⟩
    · exact R2.mu q hq
  · rw [List.map_cons, List.nodup_cons]
    refine ⟨fun hm => ?_, R2.nd⟩
    obtain ⟨q, hq, eq⟩ := List.mem_map.mp hm
    have eq : q.1 = p := eq
    rcases s.newM q hq with ⟨q2, hq2, z⟩ | z | ⟨o, z⟩
    · exact off q2 hq2 (z.trans eq)
    · rw [eq, hH] at z; cases z
    · rw [eq, hF] at z; cases z
  · rcases s.newF a o h with z | z | ⟨q, hq, z⟩
    · exact .inl z
    · exact .inr (.inl z)
    · exact .inr (.inr ⟨q, drp_sub q hq, z⟩)
  · rcases List.mem_cons.mp hq with rfl | hq
    · exact .inl ⟨_, look_mem e1, rfl⟩
    · rcases s.newM q hq with ⟨q2, hq2, z⟩ | z | z
      · exact .inl ⟨q2, drp_sub q2 hq2, z⟩
      · exact .inr (.inl z)
      · exact .inr (.inr z)
end
end DL
namespace DL
open PySem PySem.Spec PyProof.Rows L2
/-- xs.extend(ys): ys is known -/
def dExtend (dx : DE) (aa : DA) : DE := fun ds ms P => dx ds ms fun x m1 => match x with
  | .opq (.ref p) => (∃ xs0, look m1 p = some xs0) ∧ aa ds m1 fun ys m2 => (match ys with
    | [.lst zs] => (match look m2 p with
      | some xs => xs.length + zs.length ≤ sizeLine ∧ P .non (put m2 p (xs ++ zs))
      | none => False)
    | _ => False)
  | _ => False
section
variable {X : Cx} {o e : Expr} {dx : DE} {aa : DA} {apos cpos : Pos}
theorem pd_extend (ho : PD X o dx) (ha : PDA X [e] aa)
    (h1 : attributeBase o "extend" X.env (eval o X.env) = eval o X.env := by rfl)
    (h2 : ((backTo cpos (starEach [e] X.env)).all (fun x => !x.1) && (backToKw cpos (keywordEach [] X.env)).all (fun x => x.1.isSome) && decide ([e].length + ([] : List Keyword).length + (if ([] : List Keyword).isEmpty then 0 else 1) < 30)) = true := by rfl)
    (h3 : (apos.endLine == cpos.line) = true := by rfl) (h4 : starEach [e] X.env = (false, eval e X.env) :: starEach [] X.env := by rfl) (h5 : (backTo cpos (starEach [] X.env)).any (·.1) = false := by rfl) :
    PD X (.Call (.Attribute o "extend" apos) [e] [] cpos) (dExtend dx aa) := by
  refine peImp (pe_bm PySem.F.plainAttrs_list PySem.F.slot_list_extend PySem.F.type_list_extend mt_extend ho ha h1 h2 h3 h4 h5) fun σ H Q h => ?_
  obtain ⟨F, ds, ms, P, R, S, z1, z2⟩ := h
  refine ⟨F, ds, ms, _, R, S, z1, fun x m1 v F1 H1 p1 R1 s1 r1 => ?_⟩
  match x, p1, r1 with
  | .opq (.ref p), ⟨⟨xs0, e0⟩, z3⟩, r1 =>
    cases r1
    obtain ⟨_, vs, hH, _⟩ := R1.look e0
    refine ⟨.inl ⟨rfl, vs, SqL.of hH⟩, F1, ds, m1, _, R1, S.mono s1.sub, z3, fun ys m2 ws F2 H2 p2 R2 s2 r2 => ?_⟩
    match ys, r2, p2 with
    | [.lst zs], .cons (.lst hb rb) .nil, p3 =>
      cases e1 : look m2 p with
      | none => simp only [e1] at p3
      | some xs =>
        simp only [e1] at p3
        obtain ⟨_, us, hH2, rs2⟩ := R2.look e1
        exact ⟨p, _, us, _, rfl, rfl, hH2, R2.sub _ _ hb, by rw [rs2.length, rb.length]; exact p3.1, z2 _ _ _ F2 _ p3.2 (relPut R2 e1 (rs2.append rb)) ((s1.trans s2).trans (stpPut R2 e1)) .non⟩
end
def mExt2 (p : Addr) (ys : List D) (m : MS) (P : D → MS → Prop) : Prop := match ys with
  | [.lst zs] => (match look m p with
    | some xs => xs.length + zs.length ≤ sizeLine ∧ P .non (put m p (xs ++ zs))
    | none => False)
  | _ => False
def mExt (aa : DA) (ds : DS) (d : D) (m : MS) (P : D → MS → Prop) : Prop := match d with
  | .opq (.ref p) => (∃ xs0, look m p = some xs0) ∧ aa ds m fun ys m2 => mExt2 p ys m2 P
  | _ => False
theorem w_extend {dx : DE} {aa : DA} {ds : DS} {ms : MS} {P : D → MS → Prop} (h : ExG dx ds ms fun d m => mExt aa ds d m P) : dExtend dx aa ds ms P := h
theorem w_mExt {aa : DA} {ds : DS} {m : MS} {P : D → MS → Prop} {p : Addr} {xs : List D} (e : look m p = some xs) (h : ArG aa ds m fun ys m2 => mExt2 p ys m2 P) : mExt aa ds (.opq (.ref p)) m P := ⟨⟨_, e⟩, h⟩
theorem w_mExt2 {m m' : MS} {P : D → MS → Prop} {p : Addr} {xs zs : List D} (e : look m p = some xs) (e2 : put m p (xs ++ zs) = m') (h : xs.length + zs.length ≤ sizeLine ∧ P .non m') : mExt2 p [.lst zs] m P := by
  unfold mExt2
  simp only [e, e2]
  exact h
end DL
namespace DL
open PySem PySem.Spec PyProof.Rows L2
/-- what is set apart meanwhile comes back, and nothing has come to its place -/
def EN.parkN (E : EN) (p : Addr) (xs : List D) : EN := { nx := fun ds m => (∀ e ∈ m, e.1 ≠ p) → E.nx ds ((p, xs) :: m), rt := fun d m => (∀ e ∈ m, e.1 ≠ p) → E.rt d ((p, xs) :: m), bk := fun ds m => (∀ e ∈ m, e.1 ≠ p) → E.bk ds ((p, xs) :: m), ct := fun ds m => (∀ e ∈ m, e.1 ≠ p) → E.ct ds ((p, xs) :: m) }
theorem offHead {p : Addr} {xs : List D} {m : MS} (h : (((p, xs) :: m).map (·.1)).Nodup) : ∀ e ∈ m, e.1 ≠ p := fun e he z => by
  rw [List.map_cons, List.nodup_cons] at h
  exact h.1 (by show p ∈ _; rw [← z]; exact List.mem_map_of_mem he)
def dForE (de : DE) (g : DG) (tb : DTS) : DTS := fun E ds ms => de ds ms fun d m => ∃ p xs, d = .opq (.ref p) ∧ look m p = some xs ∧ loopD g tb (E.parkN p xs) xs ds (drp m p)
def dLcE (de : DE) (g : DG) (tt : DT) (te : DE) (vs : List Nat) : DE := fun ds ms P => de ds ms fun d m => ∃ p xs, d = .opq (.ref p) ∧ look m p = some xs ∧ compD g tt te (wipeD ds vs) xs [] (drp m p) fun ys m' => (∀ e ∈ m', e.1 ≠ p) → P (.lst ys) ((p, xs) :: m')
section
variable {K : PySem.W.Frag} {dg : DG} {tb : DTS} {tt : DT} {te de : DE} {g : TG} {us vs : List Nat}
theorem lift_forE (hg : TgD K g dg us) : ∀ D σ H, liftS K (dForE de dg tb) D σ H → tFor (iList K (lift K de)) g (liftS K tb) D σ H := fun D σ H ⟨F, ds, ms, E, R, S, h0, n, r, k, q⟩ => by
  refine ⟨F, ds, ms, _, R, S, h0, fun d m v F1 H1 p1 R1 s1 r1 => ?_⟩
  obtain ⟨p, xs, rfl, e1, h⟩ := p1
  cases r1
  obtain ⟨hF, vs, hH, rs⟩ := R1.look e1
  refine ⟨p, rfl, ⟨vs, SqL.of hH⟩, ?_⟩
  have off := drp_ne (p := p) R1.nd
  refine for_it (walk_list (K := K) (a := p) (xs := vs)) (fun j σ1 H2 => ∃ F2 ds2 m2, Rel K F2 H2 m2 ∧ Stp F1 H1 (drp m p) F2 H2 m2 ∧ Sl K F2 σ1 ds2 ∧ loopD dg tb (E.parkN p xs) (xs.drop j) ds2 m2)
    ⟨F1, ds, drp m p, relPark R1, Stp.refl, S.mono s1.sub, h⟩ (fun j σ1 H2 _ ⟨F2, ds2, m2, R2, s2, S2, h2⟩ => SqL.of (s2.keep p _ hH hF off)) ?_ ?_
  · rintro j x σ1 H2 H3 hj ⟨F2, ds2, m2, R2, s2, S2, h2⟩ ⟨rfl, hx⟩
    obtain ⟨d, hd, rx⟩ := rs.getV hx
    rw [drop_get hd] at h2
    refine hg.snd x σ1 F2 H3 _ d ds2 _ R2.sub S2 (rx.mono s2.sub) h2 fun ds3 σ3 h3 S3 => ?_
    refine ⟨F2, ds3, m2, _, R2, S3, h3, ?_, ?_, ?_, ?_⟩
    · exact fun ds4 m4 σ4 F4 H4 h4 R4 s4 S4 => ⟨F4, ds4, m4, R4, s2.trans s4, S4, h4⟩
    · intro d4 m4 v4 F4 H4 h4 R4 s4 r4
      obtain ⟨R5, s5⟩ := unpark R1 e1 hF hH rs (s2.trans s4) R4
      exact r d4 _ v4 F4 H4 (h4 (offHead R5.nd)) R5 (s1.trans s5) r4
    · intro ds4 m4 σ4 F4 H4 h4 R4 s4 S4
      obtain ⟨R5, s5⟩ := unpark R1 e1 hF hH rs (s2.trans s4) R4
      exact n ds4 _ σ4 F4 H4 (h4 (offHead R5.nd)) R5 (s1.trans s5) S4
    · exact fun ds4 m4 σ4 F4 H4 h4 R4 s4 S4 => ⟨F4, ds4, m4, R4, s2.trans s4, S4, h4⟩
  · rintro σ1 H2 ⟨F2, ds2, m2, R2, s2, S2, h2⟩
    rw [rs.length, List.drop_length] at h2
    obtain ⟨R5, s5⟩ := unpark R1 e1 hF hH rs s2 R2
    exact n ds2 _ σ1 F2 H2 (h2 (offHead R5.nd)) R5 (s1.trans s5) S2
theorem pds_forE {X : Cx} {tg iter : Expr} {body : List Stmt} {pos : Pos} (hc : X.calm = true) (hi : PD X iter de) (hg : PG X tg g) (hd : TgD X.K g dg us) (hb : PDSs X body tb) (hp : PassesOwn (model X.prog X.w) X.A X.env X.xe := by exact PassesOwn.never)
    (hs : ∀ x, foldedSetIterable iter X.env x = pure x := by intro _; rfl) : PDS X (.For tg iter body [] pos) (dForE de dg tb) := psImp (ps_for hp hc (pi_list hi) hg hb hs) (lift_forE hd)
theorem lift_lcE (hg : TgD K g dg vs) (hm : MonG g) : ∀ σ H Q, lift K (dLcE de dg tt te vs) σ H Q → tLc (iList K (lift K de)) g (liftT K tt) (lift K te) vs σ H Q := fun σ H Q ⟨F, ds, ms, P, R, S, h0, q⟩ => by
  refine ⟨F, ds, ms, _, R, S, h0, fun d m v F0 H0 p1 R0 s0 r1 => ?_⟩
  obtain ⟨p, xs, rfl, e1, h⟩ := p1
  cases r1
  obtain ⟨hF0, vs0, hH0, rs⟩ := R0.look e1
  refine ⟨p, rfl, ⟨vs0, SqL.of hH0⟩, fun L hL => ?_⟩
  have off := drp_ne (p := p) R0.nd
  have Rp := relPark (p := p) R0
  have nL : F0 L = none := R0.sub.none hL
  have nM : ∀ r ∈ drp m p, r.1 ≠ L := fun r hr => by
    obtain ⟨_, ws, h2, _⟩ := Rp.mu r hr
    exact ne_of_none h2 hL
  refine lc_it (walk_list (K := K) (a := p) (xs := vs0)) (fun j H1 => ∃ F1 m1 acc av, Rel K F1 H1 m1 ∧ Stp F0 H0 (drp m p) F1 H1 m1 ∧ H1 L = some (.lst av) ∧ F1 L = none ∧ (∀ r ∈ m1, r.1 ≠ L) ∧ DRs K F1 av acc ∧ compD dg tt te (wipeD ds vs) (xs.drop j) acc m1 fun ys m' => (∀ e ∈ m', e.1 ≠ p) → P (.lst ys) ((p, xs) :: m'))
    ⟨F0, drp m p, [], [], Rp.lay hL, ⟨Sub.refl F0, fun a u h1 _ _ => by rw [upd_ne (ne_of_none h1 hL)]; exact h1, fun _ _ h => .inl h, fun r hr => .inl ⟨r, hr, rfl⟩⟩, upd_same, nL, nM, .nil, h⟩
    (fun j H1 _ ⟨F1, m1, acc, av, R1, s1, _⟩ => SqL.of (s1.keep p _ hH0 hF0 off)) ?_ ?_
  · rintro j x H1 H2 hj ⟨F1, m1, acc, av, R1, s1, hD, hF, hM, ra, h1⟩ ⟨rfl, hx⟩
    obtain ⟨d, hd, rx⟩ := rs.getV hx
    rw [drop_get hd] at h1
    have hw := hg.wip x (L2.wipe σ vs) H2 _ (hg.snd x (L2.wipe σ vs) F1 H2 (fun σ2 H3 => H3 = H2 ∧ ∃ ds2, Sl K F1 σ2 ds2 ∧ tt ds2 m1 fun b m3 => if b = true then te ds2 m3 fun y m4 => acc.length < sizeLine ∧ compD dg tt te (wipeD ds vs) (xs.drop (j + 1)) (acc ++ [y]) m4 fun ys m' => (∀ e ∈ m', e.1 ≠ p) → P (.lst ys) ((p, xs) :: m') else compD dg tt te (wipeD ds vs) (xs.drop (j + 1)) acc m3 fun ys m' => (∀ e ∈ m', e.1 ≠ p) → P (.lst ys) ((p, xs) :: m')) d (wipeD ds vs) _ R1.sub ((S.wipe vs).mono (s0.sub.trans s1.sub)) (rx.mono s1.sub) h1 fun ds2 σ2 h2 S2 => ⟨rfl, ds2, S2, h2⟩)
    refine hm _ _ _ _ _ ?_ hw
    rintro σ2 H3 ⟨e2, rfl, ds2, S2, h2⟩
    refine ⟨e2.trans (wipe_wipe fun u hu => hu), F1, ds2, m1, _, R1, S2, h2, fun b m4 F4 H4 p4 R4 s4 => ?_⟩
    obtain ⟨hD4, hF4, hM4⟩ := s4.kp hD hF hM
    cases b with
    | false =>
      rw [if_neg Bool.false_ne_true] at p4 ⊢
      exact ⟨F4, m4, acc, av, R4, s1.trans s4, hD4, hF4, hM4, ra.mono s4.sub, p4⟩
    | true =>
      rw [if_pos rfl] at p4 ⊢
      refine ⟨F4, ds2, m4, _, R4, S2.mono s4.sub, p4, fun y m5 v5 F5 H5 p5 R5 s5 r5 => ?_⟩
      obtain ⟨hD5, hF5, hM5⟩ := s5.kp hD4 hF4 hM4
      have ra5 := (ra.mono s4.sub).mono s5.sub
      have s05 := (s1.trans s4).trans s5
      refine ⟨av, hD5, by rw [ra.length]; exact p5.1, F5, m5, acc ++ [y], av ++ [v5], ⟨fun b u z => ?_, fun r hr => ?_, R5.nd, R5.one⟩, ⟨s05.sub, fun a u z1 z2 z3 => by rw [upd_ne (ne_of_none z1 hL)]; exact s05.keep a u z1 z2 z3, s05.newF, s05.newM⟩, upd_same, hF5, hM5, ra5.append (.cons r5 .nil), p5.2⟩
      · rw [upd_ne (fun w => by rw [w, hF5] at z; cases z)]; exact R5.sub b u z
      · obtain ⟨z1, ws, z2, z3⟩ := R5.mu r hr
        exact ⟨z1, ws, by rw [upd_ne (hM5 r hr)]; exact z2, z3⟩
  · rintro H1 ⟨F1, m1, acc, av, R1, s1, hD, hF, hM, ra, h1⟩
    rw [rs.length, List.drop_length] at h1
    have sF : Sub F1 (upd F1 L (.lst av)) := Sub.new hF
    have R6 : Rel K (upd F1 L (.lst av)) H1 m1 := by
      refine ⟨fun b u z => ?_, fun r hr => ?_, R1.nd, R1.one.mono sF⟩
      · by_cases hb : b = L
        · subst hb; rw [upd_same] at z; rw [hD]; exact z
        · rw [upd_ne hb] at z; exact R1.sub b u z
      · obtain ⟨z1, ws, z2, z3⟩ := R1.mu r hr
        exact ⟨by rw [upd_ne (hM r hr)]; exact z1, ws, z2, z3.mono sF⟩
    have s6 : Stp F0 H0 (drp m p) (upd F1 L (.lst av)) H1 m1 := by
      refine ⟨s1.sub.trans sF, s1.keep, fun a u z => ?_, s1.newM⟩
      by_cases hb : a = L
      · subst hb; exact .inr (.inl hL)
      · rw [upd_ne hb] at z; exact s1.newF a u z
    obtain ⟨R7, s7⟩ := unpark R0 e1 hF0 hH0 rs s6 R6
    exact q _ _ _ _ H1 (h1 (offHead R7.nd)) R7 (s0.trans s7) (.lst upd_same (ra.mono sF))
theorem pd_lcE {X : Cx} {elt tg iter : Expr} {ifs : List Expr} {scope : Scope} {own : List (Str × Nat)} {pos : Pos} (hc : X.calm = true) (hN : X.N.Nodup) (hi : PD X iter de) (ok : BlkOk X.N X.env.scope scope own)
    (hg : ∀ (s : Shared) (H : Hp) (C : Addr) (cl : List (Str × Addr)) (fp : List Addr), PG (X.blk s H scope (compEnvC scope cl C X.env) fp) tg g)
    (hd : TgD X.K g dg (own.map (·.2))) (hm : MonG g)
    (ht : ∀ (s : Shared) (H : Hp) (C : Addr) (cl : List (Str × Addr)) (fp : List Addr), PDTs (X.blk s H scope (compEnvC scope cl C X.env) fp) ifs tt)
    (he : ∀ (s : Shared) (H : Hp) (C : Addr) (cl : List (Str × Addr)) (fp : List Addr), PD (X.blk s H scope (compEnvC scope cl C X.env) fp) elt te)
    (hs : ∀ x, foldedSetIterable iter X.env x = pure x := by intro _; rfl) :
    PD X (.ListComp elt [⟨tg, iter, ifs, 0⟩] scope pos) (dLcE de dg tt te (own.map (·.2))) :=
  peImp (pe_lc hc hN (pi_list hi) ok hg ht he hs) (lift_lcE hd hm)
def mForE (g : DG) (tb : DTS) (E : EN) (ds : DS) (d : D) (m : MS) : Prop := ∃ p xs, d = .opq (.ref p) ∧ look m p = some xs ∧ loopD g tb (E.parkN p xs) xs ds (drp m p)
def mLcE (g : DG) (tt : DT) (te : DE) (ds : DS) (P : D → MS → Prop) (d : D) (m : MS) : Prop := ∃ p xs, d = .opq (.ref p) ∧ look m p = some xs ∧ compD g tt te ds xs [] (drp m p) fun ys m' => (∀ e ∈ m', e.1 ≠ p) → P (.lst ys) ((p, xs) :: m')
theorem w_forE {E : EN} {ds : DS} {ms : MS} (h : ExG de ds ms fun d m => mForE dg tb E ds d m) : dForE de dg tb E ds ms := h
theorem w_mForE {E : EN} {ds : DS} {m m' : MS} {p : Addr} {xs : List D} (e1 : look m p = some xs) (e2 : drp m p = m') (h : loopD dg tb (E.parkN p xs) xs ds m') : mForE dg tb E ds (.opq (.ref p)) m := ⟨p, xs, rfl, e1, by rw [e2]; exact h⟩
theorem w_lcE {ds : DS} {ms : MS} {P : D → MS → Prop} (h : ExG de ds ms fun d m => mLcE dg tt te (wipeD ds vs) P d m) : dLcE de dg tt te vs ds ms P := h
theorem w_mLcE {ds : DS} {m m' : MS} {P : D → MS → Prop} {p : Addr} {xs : List D} (e1 : look m p = some xs) (e2 : drp m p = m') (h : compD dg tt te ds xs [] m' fun ys m2 => (∀ e ∈ m2, e.1 ≠ p) → P (.lst ys) ((p, xs) :: m2)) : mLcE dg tt te ds P (.opq (.ref p)) m := ⟨p, xs, rfl, e1, by rw [e2]; exact h⟩
end
end DL
namespace DL
open PySem PySem.Spec PyProof.Rows L2
end DL
namespace DL
open PySem PySem.Spec PyProof.Rows L2
def seen (m : MS) : D → Option (List D)
  | .lst a => some a
  | .opq (.ref p) => look m p
  | _ => none
end DL
namespace DL
open PySem PySem.Spec PyProof.Rows L2
/-- a part that is known ahead -/
def Known (t : TO) (a : Option Int) : Prop := ∀ σ H Q, Q a H → t σ H Q
theorem known_none : Known tNoPart none := fun _ _ _ q => q
theorem known_int {i : Int} : Known (tPart (tC (.int i))) (some i) := fun _ _ _ q => ⟨i, rfl, q⟩
theorem slice_known {X : Cx} {lo hi st : Option Expr} {pos : Pos} {tl th ts : TO} {a b c : Option Int} (pl : PO X lo tl) (ph : PO X hi th) (pt : PO X st ts) (kl : Known tl a) (kh : Known th b) (kt : Known ts c)
    {pins : List (Addr × Obj)} {s : Shared} {σ : L2.St} {H : Hp} {K : Value → Shared → Prop} (I : Inv X pins σ H s)
    (go : ∀ (z : Shared) (u v w : Value), Inv X pins σ H z → IsPart u a → IsPart v b → IsPart w c → K (.ref z.heap.objs.size) { z with heap := z.heap.push { cls := .type "slice", data := .fields #[u, v, w] } }) :
    wpAny (model X.prog X.w) X.A (eval (.Slice lo hi st pos) X.env) K X.xe s :=
  wpAny_Slice (thn (pl.run pins s σ H (fun o G => o = a ∧ G = H) I (kl _ _ _ ⟨rfl, rfl⟩)) fun u z1 g1 => match g1 with
    | ⟨_, _, J1, d1, rfl, rfl⟩ => thn (ph.run pins z1 σ _ (fun o G => o = b ∧ G = H) J1 (kh _ _ _ ⟨rfl, rfl⟩)) fun v z2 g2 => match g2 with
      | ⟨_, _, J2, d2, rfl, rfl⟩ => thn (pt.run pins z2 σ _ (fun o G => o = c ∧ G = H) J2 (kt _ _ _ ⟨rfl, rfl⟩)) fun w z3 g3 => match g3 with
        | ⟨_, _, J3, d3, rfl, rfl⟩ => go z3 u v w J3 d1 d2 d3)
def tStepV (K : PySem.W.Frag) (a b : Int) (te : TE) : TE := fun σ H Q => te σ H fun x G => ∃ l xs, x = .ref l ∧ SqL K G l xs ∧ ∀ p, G p = none → Q (.ref p) (upd G p (.lst (stepL xs a b)))
theorem stepIx_len (n : Nat) (a b : Int) (pb : 0 < b) : (stepIx n a b).length ≤ n := by
  have up : (sliceBounds (some a) none (some b) n).2.1 = (n : Int) := by simp only [sliceBounds, Option.getD_some, if_pos pb]
  have lo : 0 ≤ (sliceBounds (some a) none (some b) n).1 := by
    simp only [sliceBounds, Option.getD_some, if_pos pb]
    omega
  exact sliceRange_length_le _ _ _ n (fun _ => ⟨lo, Int.le_of_eq up⟩) fun c => absurd pb c
theorem stepL_len {α : Type} (xs : List α) {a b : Int} (pb : 0 < b) : (stepL xs a b).length ≤ xs.length := Nat.le_trans (List.length_filterMap_le ..) (stepIx_len _ a b pb)
theorem pe_stepL {X : Cx} {e : Expr} {te : TE} {a b : Int} {j k : Nat} {p1 p2 p3 pos : Pos} (pb : 0 < b) (he : PE X e te) :
    PE X (.Subscript e (.Slice (some (.Constant (.int a) j p1)) none (some (.Constant (.int b) k p2)) p3) pos) (tStepV X.K a b te) where
  run pins s σ H Q I h := Subscript_ (thn (he.run pins s σ H _ I h) fun v z g => by
    obtain ⟨x, G, J, rx, l, xs, rfl, sq, q⟩ := g
    cases rx
    refine slice_known (po_some pe_int) po_none (po_some pe_int) known_int known_none known_int J fun z u v w J d1 d2 d3 => ?_
    have J' : Inv X pins σ G { z with heap := z.heap.push { cls := .type "slice", data := .fields #[u, v, w] } } := J.kept (t' := z.toks) fun _ _ => Heap.get?_push_of_some _
    obtain ⟨its, vr, lay, room⟩ := J'.list sq
    have n := vr.length
    refine tail_any (ops := [.ref l, .ref z.heap.objs.size]) lay.isList.typeIs slot_list_getitem.lookup ?_ (by with_unfolding_all rfl)
    refine wpAny_getItem_list_slice lay.isList (.new _ u v w) d1 d2 d3 (fun c => absurd (Option.some.inj c) (Int.ne_of_gt pb)) ?_ (by rw [List.size_toArray]; omega)
    have picked : slicePick its.toArray (some a) none (some b) = (stepL its a b).toArray := by
      unfold slicePick stepL stepIx
      rw [List.size_toArray]
      simp only [List.getElem?_toArray]
    have made : Vals (stepL xs a b) (stepL its a b) := by
      have := vals_pick vr (stepIx its.length a b)
      unfold stepL
      rw [n]
      exact this
    rw [picked]
    exact ⟨.ref _, _, J'.laid (t' := z.toks) (o := .lst (stepL xs a b)) (fun _ _ => Heap.get?_push_of_some _) (Nat.le_refl _) ⟨Nat.le_trans (stepL_len xs pb) room, _, 0, made, Heap.get?_push_size _ rfl⟩, rfl, q _ (J'.hok.fresh (Nat.le_refl _))⟩)
theorem pd_stepL {X : Cx} {e : Expr} {de : DE} {a b : Int} {j k : Nat} {p1 p2 p3 pos : Pos} (pb : 0 < b) (he : PD X e de) :
    PD X (.Subscript e (.Slice (some (.Constant (.int a) j p1)) none (some (.Constant (.int b) k p2)) p3) pos) (dStepL a b de) :=
  peImp (pe_stepL pb he) fun σ H Q ⟨F, ds, ms, P, R, S, h1, h2⟩ => ⟨F, ds, ms, _, R, S, h1, fun x m v F1 H1 p1 R1 s1 r1 => by
    cases seen : asL x m with
    | none => rw [seen] at p1; exact p1.elim
    | some us =>
      rw [seen] at p1
      obtain ⟨l, ws, rfl, sq, rs⟩ := R1.asL r1 seen
      refine ⟨l, ws, rfl, sq, fun p new => h2 _ m _ _ _ p1 (R1.new new) (s1.trans (Stp.new R1 new)) (R1.newLst new ?_)⟩
      have := drs_pick rs (stepIx us.length a b)
      unfold stepL
      rw [rs.length]
      exact this⟩
theorem RoomG.u1 {k : Nat} {A : Around} (r : RoomG k A) : A.units + 1 < cLine := by have := r.r.un; omega
theorem RoomG.u64 {k : Nat} {A : Around} (r : RoomG k A) : A.units + 64 < cLine := by have := r.r.un; omega
section
variable {X : Cx} {i : Nat} {y : Str} {py pos spos : Pos} {kx vx tg iter : Expr} {ifs : List Expr} {scope : Scope} {own : List (Str × Nat)} {wi : TI} {g : TG} {dg : DG} {tt : TT} {tk tv : TE} {di : DI} {td : DT} {dk dv : DE}
/-- what a comprehension made is stored while its own frame still stands -/
theorem store_made {pins : List (Addr × Obj)} {z : Shared} {σ : L2.St} {G : Hp} {D : Ends} {C M : Addr} {m : Str → Option Value} (nd : X.N.Nodup) (at_ : X.N[i]? = some y) (loc : X.env.scope.names.lookup y = some .local)
    (J : Inv X pins σ G z) (room : z.heap.Ns C m) (off : FpOk X pins G C) (q : gName i (.ref M) σ G D.nx) :
    compPost (model X.prog X.w) X.A X.xe (some (assign (.Name y py) X.env)) (fun _ z' => SP X pins D .next z') (.ref M) C (.ok .next) z :=
  wpAny_assign_Name (store_ok2 (v := V.ref M) J nd at_ (.inl loc) rfl (fun z2 J2 ⟨a, same, which⟩ => by
    have apart : C ≠ a := which.elim (fun e => e.symm ▸ off.2.1) fun e c => off.2.2.2.2.1 y a e c.symm
    exact ⟨m, room.sameBut same apart, fun G3 same3 => ⟨_, G, J2.turned (t' := z2.toks) (fun b o hb e => (same3.2 b hb).trans e) off.1 off.2.1 off.2.2.2.1 off.2.2.2.2.1 off.2.2.2.2.2, q⟩⟩) (.inr loc))
theorem ps_setDc (calm : X.calm = true) (nd : X.N.Nodup) (at_ : X.N[i]? = some y) (loc : X.env.scope.names.lookup y = some .local)
    (sw : swapsWith (.DictComp kx vx [⟨tg, iter, ifs, 0⟩] scope pos) (some (.Name y py)) spos.line X.env = pure true) (hi : PI X tg iter wi) (ok : BlkOk X.N X.env.scope scope own)
    (hg : ∀ (z : Shared) (G : Hp) (C : Addr) (cl : List (Str × Addr)) (fp : List Addr), PG (X.blk z G scope (compEnvC scope cl C X.env) fp) tg g)
    (ht : ∀ (z : Shared) (G : Hp) (C : Addr) (cl : List (Str × Addr)) (fp : List Addr), PTs (X.blk z G scope (compEnvC scope cl C X.env) fp) ifs tt)
    (hk : ∀ (z : Shared) (G : Hp) (C : Addr) (cl : List (Str × Addr)) (fp : List Addr), PE (X.blk z G scope (compEnvC scope cl C X.env) fp) kx tk)
    (hv : ∀ (z : Shared) (G : Hp) (C : Addr) (cl : List (Str × Addr)) (fp : List Addr), PE (X.blk z G scope (compEnvC scope cl C X.env) fp) vx tv)
    (hs : ∀ x, foldedSetIterable iter X.env x = pure x := by intro _; rfl) :
    PS X (.Assign [.Name y py] (.DictComp kx vx [⟨tg, iter, ifs, 0⟩] scope pos) spos) (tAsg (tDc wi g tt tk tv (own.map (·.2))) (gName i)) where
  run pins s σ H D I h := by
    have made := dc_core (pos := pos) (pos' := firstIterPos [⟨tg, iter, ifs, 0⟩] pos) (use := some (assign (.Name y py) X.env)) (Qf := fun _ z => SP X pins D .next z) (Q := fun x G => gName i x σ G D.nx) calm nd I hi ok hg ht hk hv hs h fun M C z m G J q room off => store_made nd at_ loc J room off q
    rw [exec_Assign_Name_used _ _ _ _ sw]
    exact wpAny_bind (wpAny_standAt (wpAny_bind (wpAny_bind (thn made fun _ _ q => wpAny_pure (wpAny_pure q)))))
theorem pds_setDc {wi : DI} {tt : DT} {dk dv : DE} (calm : X.calm = true) (nd : X.N.Nodup) (at_ : X.N[i]? = some y) (loc : X.env.scope.names.lookup y = some .local)
    (sw : swapsWith (.DictComp kx vx [⟨tg, iter, ifs, 0⟩] scope pos) (some (.Name y py)) spos.line X.env = pure true) (hi : PDI X tg iter wi) (ok : BlkOk X.N X.env.scope scope own)
    (hg : ∀ (z : Shared) (G : Hp) (C : Addr) (cl : List (Str × Addr)) (fp : List Addr), PG (X.blk z G scope (compEnvC scope cl C X.env) fp) tg g) (hd : TgD X.K g dg (own.map (·.2))) (hm : MonG g)
    (ht : ∀ (z : Shared) (G : Hp) (C : Addr) (cl : List (Str × Addr)) (fp : List Addr), PDTs (X.blk z G scope (compEnvC scope cl C X.env) fp) ifs tt)
    (hk : ∀ (z : Shared) (G : Hp) (C : Addr) (cl : List (Str × Addr)) (fp : List Addr), PD (X.blk z G scope (compEnvC scope cl C X.env) fp) kx dk)
    (hv : ∀ (z : Shared) (G : Hp) (C : Addr) (cl : List (Str × Addr)) (fp : List Addr), PD (X.blk z G scope (compEnvC scope cl C X.env) fp) vx dv)
    (hs : ∀ x, foldedSetIterable iter X.env x = pure x := by intro _; rfl) :
    PDS X (.Assign [.Name y py] (.DictComp kx vx [⟨tg, iter, ifs, 0⟩] scope pos) spos) (dAsg (dDc wi dg tt dk dv (own.map (·.2))) (sName i)) :=
  psImp (ps_setDc calm nd at_ loc sw hi ok hg ht hk hv hs) fun D σ H h => by
    obtain ⟨F, ds, ms, P, R, S, z1, z2⟩ := h
    exact lift_dc hd hm σ H _ ⟨F, ds, ms, _, R, S, z1, fun d m v F1 H1 p1 R1 s1 r1 => z2.1 _ m _ F1 H1 p1 R1 s1 ((S.mono s1.sub).set r1 i)⟩
theorem sw_dict {l : Nat} {env : Env} {gs : List Comprehension} (fn : env.scope.kind = .function) (loc : env.scope.names.lookup y = some .local) (same : (py.line == pos.line) = true)
    (own : (scope.names.any fun (n, k) => n == y && (k == .local || k == .cell)) = false) : swapsWith (.DictComp kx vx gs scope pos) (some (.Name y py)) l env = pure true := by
  have b : env.blockKind = .function := by rw [Env.blockKind, fn]; rfl
  have k : env.kindOf y = some .local := loc
  simp only [swapsWith, b, k, own, Expr.pos, same]
  rfl
end
end DL
namespace DL
open PySem PySem.Spec PyProof.Rows L2 SX TL NumText
end DL
namespace DL
open PySem PySem.Spec PyProof.Rows L2
theorem DRs.less {K : PySem.W.Frag} {F : Hp} : ∀ {vs : List V} {ds : List D} (k : Nat), DRs K F vs ds → DRs K F (vs.eraseIdx k) (ds.eraseIdx k)
  | [], _, _, .nil => .nil
  | _ :: _, _, 0, .cons _ r => r
  | _ :: _, _, k + 1, .cons a r => .cons a (DRs.less k r)
theorem less_last {α : Type} : ∀ xs : List α, xs.eraseIdx (xs.length - 1) = xs.dropLast
  | [] => rfl
  | [_] => rfl
  | x :: y :: r => by
    show x :: (y :: r).eraseIdx r.length = x :: (y :: r).dropLast
    rw [← less_last (y :: r)]; rfl
def mPop (x : D) (m : MS) (P : D → MS → Prop) : Prop := ∃ p xs y, x = .opq (.ref p) ∧ look m p = some xs ∧ xs[xs.length - 1]? = some y ∧ P y (put m p xs.dropLast)
def dPop (dx : DE) : DE := fun ds ms P => dx ds ms fun x m => mPop x m P
section
variable {X : Cx} {o e : Expr} {dx : DE} {aa : DA} {apos cpos : Pos}
theorem pd_pop (ho : PD X o dx) (hbase : attributeBase o "pop" X.env (eval o X.env) = eval o X.env := by rfl) (hline : (apos.endLine == cpos.line) = true := by rfl) : PD X (.Call (.Attribute o "pop" apos) [] [] cpos) (dPop dx) :=
  peImp (pe_bm0 PySem.F.plainAttrs_list PySem.F.slot_list_pop PySem.F.type_list_pop mt_pop ho hbase hline) fun σ H Q ⟨F, ds, ms, P, R, S, h1, h2⟩ =>
    ⟨F, ds, ms, _, R, S, h1, fun x m v F1 H1 p1 R1 s1 r1 => by
      obtain ⟨p, xs, y, rfl, e1, ey, p1⟩ := p1
      cases r1
      obtain ⟨hF, vs, hH, rs⟩ := R1.look e1
      obtain ⟨w, ew, rw_⟩ := rs.get ey
      rw [← rs.length] at ew
      have last := DRs.less (vs.length - 1) rs
      rw [less_last, rs.length, less_last] at last
      exact ⟨.inl ⟨rfl, vs, SqL.of hH⟩, p, vs, w, rfl, rfl, hH, ew, h2 _ _ _ F1 _ p1 (relPut R1 e1 last) (s1.trans (stpPut R1 e1)) rw_⟩⟩
end
section
variable {ds : DS} {ms m m' : MS} {P : D → MS → Prop} {de : DE} {aa : DA} {p : Addr} {xs ys : List D} {d : D} {i : Int} {k : Nat}
theorem w_pop (h : ExG de ds ms fun x m => mPop x m P) : dPop de ds ms P := h
theorem w_mPop (e : look m p = some xs) (ed : xs[xs.length - 1]? = some d) (e2 : put m p xs.dropLast = m') (h : P d m') : mPop (.opq (.ref p)) m P := ⟨p, xs, d, rfl, e, ed, by rw [e2]; exact h⟩
end
end DL
namespace DL
open PySem PySem.Spec PyProof.Rows L2
end DL
namespace DL
open PySem PySem.Spec PyProof.Rows L2
def dTryN (tb : DTS) : DTS := fun E ds ms => tb { E with ex := fun _ _ _ _ _ => False } ds ms
theorem px_tryN {X : Cx} {x : Str} {cl : Value} {body suite : List Stmt} {b₀ : Stmt} {np pos pos' : Pos} {tb : DTS} {W : WX} (hc : Names X x cl) (tk : Takes X W)
    (hb : ∀ (W : WX) (q : List (Addr × Obj)) (xe : Value → Shared → Prop), Takes (X.tr q xe) W → PassesOwn (model X.prog X.w) X.A X.env xe → PXs (X.tr q xe) W body tb)
    (hs : X.stack = X.env :: X.outer := by rfl) (hf : X.env.frame = some X.env.locals := by rfl) :
    PX X W (.Try body [.ExceptHandler (some (.Name x np)) none (b₀ :: suite) pos'] [] [] pos) (dTryN tb) :=
  psImp (L2.ps_try_only (tb := fun W => liftX X.K W tb) (ts := fun _ _ _ => fun _ _ _ => False) hs hf hc tk hb fun _ _ _ _ _ _ _ => ⟨fun _ _ _ _ _ _ h => h.elim⟩) fun D σ H ⟨F, ds, ms, E, R, S, h, n1, r1, k1, q1, x1⟩ =>
    ⟨F, ds, ms, _, R, S, h, n1, r1, k1, q1, fun c ns xs ds1 m1 cv d ws σ1 F1 H1 z => z.elim⟩
theorem w_tryN {tb : DTS} {E : EN} {ds : DS} {ms : MS} (h : StG tb (EN.wx E fun _ _ _ _ _ => False) ds ms) : dTryN tb E ds ms := h
def fSlM : SF := fun x lo hi ms P => match x with
  | .lst xs => ∀ p, (∀ q ∈ ms, q.1 ≠ p) → P (.opq (.ref p)) ((p, cutL xs lo hi) :: ms)
  | _ => False
def dSlM (de : DE) (lo hi : DO) : DE := fun ds ms P => de ds ms fun x m1 => lo ds m1 fun l m2 => hi ds m2 fun u m3 => fSlM x l u m3 P
theorem pd_sliceM {X : Cx} {e : Expr} {de : DE} {lo hi : Option Expr} {tl th : DO} {p2 pos : Pos} (he : PD X e de) (hl : PDO X lo tl) (hu : PDO X hi th) : PD X (.Subscript e (.Slice lo hi none p2) pos) (dSlM de tl th) := peImp (pe_slice sl_D he hl hu) fun σ H Q ⟨F, ds, ms, P, R, S, h1, h2⟩ =>
  ⟨F, ds, ms, _, R, S, h1, fun x m1 v F1 H1 p1 R1 s1 r1 => ⟨F1, ds, m1, _, R1, S.mono s1.sub, p1, fun l m2 F2 H2 p2 R2 s2 => ⟨F2, ds, m2, _, R2, S.mono (s1.trans s2).sub, p2, fun u m3 F3 H3 p3 R3 s3 => by
    have s13 := (s1.trans s2).trans s3
    have r3 := (r1.mono s2.sub).mono s3.sub
    cases r3 with
    | lst ha hs =>
      exact .inl ⟨_, _, rfl, SqL.of (R3.sub _ _ ha), fun p hp2 => h2 _ _ _ F3 _ (p3 p (R3.newMut hp2 (hs.cut l u)).1) (R3.newMut hp2 (hs.cut l u)).2 (s13.trans (Stp.newMut hp2)) (.opq _)⟩
    | _ => exact p3.elim⟩⟩⟩
theorem w_slM {de : DE} {lo hi : DO} {ds : DS} {ms : MS} {P : D → MS → Prop} (h : ExG de ds ms fun x m1 => OgG lo ds m1 fun l m2 => OgG hi ds m2 fun u m3 => fSlM x l u m3 P) : dSlM de lo hi ds ms P := h
theorem w_fSlM {xs : List D} {lo hi : Option Int} {ms : MS} {P : D → MS → Prop} (h : ∀ p, (∀ q ∈ ms, q.1 ≠ p) → P (.opq (.ref p)) ((p, cutL xs lo hi) :: ms)) : fSlM (.lst xs) lo hi ms P := h
structure FirstS (zs : List Str) (v : Str) (j : Nat) : Prop where
  at_ : zs[j]? = some v
  no : ∀ k, k < j → zs[k]? ≠ some v
def dIndexS (dx : DE) (aa : DA) : DE := fun ds ms P => dx ds ms fun x m1 => match x with
  | .lst a => aa ds m1 fun ys m2 => (match ys with
    | [y] => ∃ (zs : List Str) (v : Str) (j : Nat), a = zs.map D.str ∧ y = .str v ∧ FirstS zs v j ∧ P (.int (j : Int)) m2
    | _ => False)
  | _ => False
theorem drs_strs {K : PySem.W.Frag} {F : Hp} : ∀ (zs : List Str) {vs : List V}, DRs K F vs (zs.map D.str) → vs = zs.map V.str
  | [], vs, h => by cases h; rfl
  | i :: r, vs, h => by
    cases h with
    | cons h1 h2 =>
      cases h1
      rw [drs_strs r h2]; rfl
section
variable {X : Cx} {o e : Expr} {dx : DE} {aa : DA} {apos cpos : Pos}
theorem pd_indexS (ho : PD X o dx) (ha : PDA X [e] aa)
    (hbase : attributeBase o "index" X.env (eval o X.env) = eval o X.env := by rfl)
    (hfew : ((backTo cpos (starEach [e] X.env)).all (fun x => !x.1) && (backToKw cpos (keywordEach [] X.env)).all (fun x => x.1.isSome) && decide ([e].length + ([] : List Keyword).length + (if ([] : List Keyword).isEmpty then 0 else 1) < 30)) = true := by rfl)
    (hline : (apos.endLine == cpos.line) = true := by rfl) (hs : starEach [e] X.env = (false, eval e X.env) :: starEach [] X.env := by rfl) (hplain : (backTo cpos (starEach [] X.env)).any (·.1) = false := by rfl) :
    PD X (.Call (.Attribute o "index" apos) [e] [] cpos) (dIndexS dx aa) :=
  peImp (pe_bm PySem.F.plainAttrs_list PySem.F.slot_list_index PySem.F.type_list_index mt_index ho ha hbase hfew hline hs hplain) fun σ H Q ⟨F, ds, ms, P, R, S, h1, h2⟩ =>
    ⟨F, ds, ms, _, R, S, h1, fun x m1 v F1 H1 p1 R1 s1 r1 => by
      cases r1 with
      | lst hl hs =>
        rename_i l vs as
        refine ⟨.inl ⟨rfl, vs, SqL.of (R1.sub _ _ hl)⟩, F1, ds, m1, _, R1, S.mono s1.sub, p1, fun ys m2 ws F2 H2 p2 R2 s2 r2 => ?_⟩
        cases r2 with
        | nil => exact p2.elim
        | cons ry rr =>
          cases rr with
          | cons _ _ => exact p2.elim
          | nil =>
            obtain ⟨is, w, j, rfl, rfl, c, p3⟩ := p2
            cases ry
            obtain rfl := drs_strs is hs
            refine ⟨l, _, .str w, j, .str w, rfl, rfl, SqL.of (R2.sub _ _ (s2.sub _ _ hl)), rfl, ?_, ?_, ?_, fun k z hk hz => ?_, h2 _ m2 _ F2 H2 p3 R2 (s1.trans s2) (.int _)⟩
            · rw [List.all_eq_true]
              intro z hz
              obtain ⟨i, _, rfl⟩ := List.mem_map.mp hz
              rfl
            · rw [List.getElem?_map, c.at_]; rfl
            · show (w == w) = true
              exact beq_self_eq_true w
            · rw [List.getElem?_map] at hz
              cases e : is[k]? with
              | none => rw [e] at hz; cases hz
              | some i =>
                rw [e] at hz
                cases hz
                have := c.no k hk
                show (i == w) = false
                exact beq_eq_false_iff_ne.mpr fun z => this (by rw [e, z])
      | _ => exact p1.elim⟩
end
def mIndexS (aa : DA) (ds : DS) (x : D) (m : MS) (P : D → MS → Prop) : Prop := match x with
  | .lst a => aa ds m fun ys m2 => (match ys with
    | [y] => ∃ (zs : List Str) (v : Str) (j : Nat), a = zs.map D.str ∧ y = .str v ∧ FirstS zs v j ∧ P (.int (j : Int)) m2
    | _ => False)
  | _ => False
def mIndexSA (a : List D) (ys : List D) (m : MS) (P : D → MS → Prop) : Prop := match ys with
  | [y] => ∃ (zs : List Str) (v : Str) (j : Nat), a = zs.map D.str ∧ y = .str v ∧ FirstS zs v j ∧ P (.int (j : Int)) m
  | _ => False
theorem w_indexS {dx : DE} {aa : DA} {ds : DS} {ms : MS} {P : D → MS → Prop} (h : ExG dx ds ms fun x m => mIndexS aa ds x m P) : dIndexS dx aa ds ms P := h
theorem w_mIndexS {aa : DA} {ds : DS} {a : List D} {m : MS} {P : D → MS → Prop} (h : ArG aa ds m fun ys m2 => mIndexSA a ys m2 P) : mIndexS aa ds (.lst a) m P := h
theorem w_mIndexSA {a : List D} {zs : List Str} {v : Str} {j : Nat} {m : MS} {P : D → MS → Prop} (e : a = zs.map D.str) (c : FirstS zs v j) (h : P (.int (j : Int)) m) : mIndexSA a [.str v] m P := ⟨zs, v, j, e, rfl, c, h⟩
def dNd (de : DE) : DE := fun ds ms P => de ds ms fun d m => (m.map (·.1)).Nodup → P d m
theorem pd_nd {X : Cx} {e : Expr} {de : DE} (h : PD X e de) : PD X e (dNd de) := peImp h fun σ H Q ⟨F, ds, ms, P, R, S, h1, h2⟩ =>
  ⟨F, ds, ms, _, R, S, h1, fun d m v F1 H1 p1 R1 s1 r1 => h2 d m v F1 H1 (p1 R1.nd) R1 s1 r1⟩
theorem w_nd {de : DE} {ds : DS} {ms : MS} {P : D → MS → Prop} (h : ExG de ds ms fun d m => (m.map (·.1)).Nodup → P d m) : dNd de ds ms P := h
def mRng2 (xs : List D) (m : MS) (P : List D → MS → Prop) : Prop := match xs with
  | [.int i, .int j] => (-(2 ^ 62) ≤ i ∧ i < 2 ^ 62 ∧ -(2 ^ 62) ≤ j ∧ j < 2 ^ 62) ∧ P (rng i (j - i).toNat) m
  | _ => False
theorem w_irng2 {aa : DA} {ds : DS} {ms : MS} {PA : List D → MS → Prop} (h : ArG aa ds ms fun xs m => mRng2 xs m PA) : iRange2 aa ds ms PA := h
theorem w_mRng2 {i j : Int} {m : MS} {PA : List D → MS → Prop} (e : -(2 ^ 62) ≤ i ∧ i < 2 ^ 62 ∧ -(2 ^ 62) ≤ j ∧ j < 2 ^ 62) (h : PA (rng i (j - i).toNat) m) : mRng2 [.int i, .int j] m PA := ⟨e, h⟩
end DL
namespace Pf
open PySem PySem.Spec PyProof.Rows L2 DL
local macro_rules | `(tactic| walk_at "dl") => `(tactic| simp only [dSeq, dWhile, dTest, dOp, dVar, dC, dPar, dRet, dRetN, dCB, dAsg, dIfS, dNext, dTup, dLst, dLstM, dCall, dNeg, dSetIx, dDrop, dAnd, dOr, dNot, dAndV, dOrV, dNotV, dIf, dFor, dLc, dSl, dIsi, dYes, dTru, truD, dAppend, dFrz,
  aNil, aCons, oNone, oSome, sName, sTup, sCons, sNil, iRange1, iRange2, iSeq, iTupD, iZipD, iEnumD, slot, setSlot, startD, List.length_nil, List.length_cons, Nat.reduceAdd, List.append_nil, List.cons_append, List.nil_append, pick, List.filterMap_cons, List.filterMap_nil, List.getElem?_cons_zero, List.getElem?_cons_succ,
  fI, fAdd, fSub, fMul, fDiv, fMod, fPow, fLt, fLe, fGt, fGe, fEq, fNe, cAbs, cMax2, cMin2, cInt1, cLen, cRepr, true_and, and_true, decide_eq_true_eq, if_true, dDoX, dRaise, dRaiseI, dExprZ, dRetZ, dAsgZ, dCallZ, dTry0, dTry, dIsE, dFld, dEdic, EN.lp, EN.wn, EN.wx])
theorem t9 : (10 : Int) ^ Int.toNat 9 = 1000000000 := by decide +kernel
theorem t6 : (10 : Int) ^ Int.toNat 6 = 1000000 := by decide +kernel
theorem t18 : (10 : Int) ^ Int.toNat 18 = 1000000000000000000 := by decide +kernel
theorem t30 : (10 : Int) ^ Int.toNat 30 = 1000000000000000000000000000000 := by decide +kernel
theorem t39 : (10 : Int) ^ Int.toNat 39 = 1000000000000000000000000000000000000000 := by decide +kernel
theorem t56 : (10 : Int) ^ Int.toNat 56 = 100000000000000000000000000000000000000000000000000000000 := by decide +kernel
theorem t60 : (10 : Int) ^ Int.toNat 60 = 1000000000000000000000000000000000000000000000000000000000000 := by decide +kernel
theorem t40 : (10 : Int) ^ Int.toNat 40 = 10000000000000000000000000000000000000000 := by decide +kernel
theorem t50 : (10 : Int) ^ Int.toNat 50 = 100000000000000000000000000000000000000000000000000 := by decide +kernel
theorem t59 : (10 : Int) ^ Int.toNat 59 = 100000000000000000000000000000000000000000000000000000000000 := by decide +kernel
theorem t58 : (10 : Int) ^ Int.toNat 58 = 10000000000000000000000000000000000000000000000000000000000 := by decide +kernel
def fr (p : Int × Int) : D := .tup [.int p.1, .int p.2]
def Bd (n : Nat) (x : Int) : Prop := x.natAbs < 2 ^ n
theorem Bd.mono {n m : Nat} {x : Int} (h : Bd n x) (hm : n ≤ m) : Bd m x := Nat.lt_of_lt_of_le h (Nat.pow_le_pow_right (by decide) hm)
theorem Bd.add {n : Nat} {x y : Int} (h : Bd n x) (h2 : Bd n y) : Bd (n + 1) (x + y) := by
  unfold Bd at *
  have := Int.natAbs_add_le x y
  rw [Nat.pow_succ]
  omega
theorem Bd.log {n : Nat} {x : Int} (h : Bd n x) (h0 : 0 < n) : x.natAbs.log2 < n := PySem.Flt.log2_lt_of h0 h
theorem Bd.mulOk {n m : Nat} {x y : Int} (h : Bd n x) (h2 : Bd m y) (h0 : 0 < n) (h1 : 0 < m) (hs : n + m ≤ 1000000) : CMulD x y := .inl (wide_mul h h2 h0 h1 hs)
mutual
def wt : PyData → Nat
  | .none => 10
  | .bool _ => 10
  | .int _ => 2000
  | .str x => 10 * x.length + 10
  | .list xs => wts xs + 10
  | .tuple xs => wts xs + 10
  | .dict _ => 10
def wts : List PyData → Nat
  | [] => 0
  | x :: r => wt x + 2 + wts r
end
mutual
def lay1 : PyData → Bool
  | .none => true
  | .bool _ => true
  | .int _ => true
  | .str x => x.cps.all (· < 0x110000)
  | .list xs => lay1s xs
  | .tuple xs => lay1s xs
  | .dict kvs => kvs.isEmpty
def lay1s : List PyData → Bool
  | [] => true
  | x :: r => lay1 x && lay1s r
end
mutual
theorem lay1_of : ∀ p : PyData, p.canLay0 = true → lay1 p = true
  | .none, _ => rfl
  | .bool _, _ => rfl
  | .int _, _ => rfl
  | .str x, h => h
  | .list xs, h => lay1s_of xs h
  | .tuple xs, h => lay1s_of xs h
  | .dict _, h => by cases h
theorem lay1s_of : ∀ xs : List PyData, PyData.canLayAll0 xs = true → lay1s xs = true
  | [], _ => rfl
  | x :: r, h => by
    obtain ⟨a1, a2⟩ := Bool.and_eq_true_iff.mp h
    show (lay1 x && lay1s r) = true
    rw [lay1_of x a1, lay1s_of r a2]; rfl
end
theorem listText_le (ts : List Str) : (listText ts).length ≤ piled ts + 4 := by
  have e : (listText ts).length = (textFrom 0 "[" ts).length + 1 := by
    show (textFrom 0 "[" ts ++ "]").length = _
    rw [strLen_append]; rfl
  cases ts with
  | nil => rw [e]; decide +kernel
  | cons t r =>
    have h1 : textFrom 0 "[" (t :: r) = textFrom 1 ("[" ++ (if 0 > 0 then ", " else "" : String) ++ t) r := rfl
    have h2 := textFrom_length_pos r 1 ("[" ++ (if 0 > 0 then ", " else "" : String) ++ t) (by decide)
    have h3 : (("[" : Str) ++ ((if 0 > 0 then ", " else "" : String) : Str) ++ t).length = 1 + t.length := by
      rw [strLen_append, strLen_append]
      show 1 + 0 + t.length = _
      omega
    rw [e, h1, h2, h3, piled_cons]
    omega
mutual
theorem shown_le : ∀ p : PyData, lay1 p = true → p.showable = true → p.shown.length ≤ wt p
  | .none, _, _ => by decide +kernel
  | .bool b, _, _ => by cases b <;> decide +kernel
  | .int i, _, h => by
    have := int_text_len_1921 (i := i) (of_decide_eq_true h)
    show (Str.ofString (toString i)).length ≤ 2000
    omega
  | .str x, h, _ => by
    have h' : x.cps.all (· < 0x110000) = true := h
    have := StrLaws.reprText_len x fun c hc => by
      rw [Array.all_eq_true'] at h'
      have z := of_decide_eq_true (h' c (Array.mem_toList_iff.mp hc))
      exact Nat.lt_trans z (by decide)
    show (reprText x).length ≤ 10 * x.length + 10
    omega
  | .list xs, h, h2 => by
    have := shownAll_le xs h h2
    have h3 := listText_le (PyData.shownAll xs)
    show (listText (PyData.shownAll xs)).length ≤ wts xs + 10
    omega
  | .tuple xs, h, h2 => by
    have := shownAll_le xs h h2
    have h3 := fmt_text (PyData.shownAll xs)
    show (tupleText (PyData.shownAll xs)).length ≤ wts xs + 10
    omega
  | .dict kvs, h, _ => by
    cases kvs with
    | nil => exact (by decide +kernel : (PyData.dict []).shown.length ≤ 10)
    | cons _ _ => cases h
theorem shownAll_le : ∀ xs : List PyData, lay1s xs = true → PyData.showableAll xs = true → piled (PyData.shownAll xs) ≤ wts xs
  | [], _, _ => Nat.le_refl 0
  | x :: r, h, h2 => by
    obtain ⟨a1, a2⟩ := Bool.and_eq_true_iff.mp h
    obtain ⟨b1, b2⟩ := Bool.and_eq_true_iff.mp h2
    have z1 := shown_le x a1 b1
    have z2 := shownAll_le r a2 b2
    show piled (PyData.shown x :: PyData.shownAll r) ≤ wt x + 2 + wts r
    rw [piled_cons]
    omega
end
structure Sm (d : D) (n k : Nat) : Prop where
  ex : ∃ p, toPy d = some p ∧ p.canLay0 = true ∧ p.showable = true ∧ wt p ≤ n ∧ p.depth ≤ k
theorem Sm.mono {d : D} {n k n' k' : Nat} (h : Sm d n k) (h1 : n ≤ n') (h2 : k ≤ k') : Sm d n' k' := by
  obtain ⟨p, a, b, c, e, f⟩ := h.ex
  exact ⟨p, a, b, c, Nat.le_trans e h1, Nat.le_trans f h2⟩
theorem Sm.shw {d : D} {n k : Nat} (h : Sm d n k) (hn : n ≤ 16000000 := by decide) (hk : k ≤ 60 := by decide) : Shw d := by
  obtain ⟨p, a, b, c, e, f⟩ := h.ex
  exact ⟨p, a, c, by omega, Nat.le_trans (shown_le p (lay1_of p b) c) (Nat.le_trans e (Nat.le_trans hn (by decide)))⟩
theorem sm_int {n : Nat} {i : Int} (h : Bd n i) (hn : n ≤ 1900 := by decide) : Sm (.int i) 2000 0 := by
  refine ⟨_, rfl, rfl, ?_, Nat.le_refl _, Nat.le_refl _⟩
  refine decide_eq_true (Nat.lt_of_lt_of_le (Bd.log (n := n + 1) (h.mono (Nat.le_succ n)) (Nat.succ_pos n)) (by omega))
theorem sm_str (x : Str) (h : x.cps.all (· < 0x110000) = true) : Sm (.str x) (10 * x.length + 10) 0 := ⟨_, rfl, h, rfl, Nat.le_refl _, Nat.le_refl _⟩
/-- the same, empty dicts too: for repr alone -/
structure Sd (d : D) (n k : Nat) : Prop where
  ex : ∃ p, toPy d = some p ∧ lay1 p = true ∧ p.showable = true ∧ wt p ≤ n ∧ p.depth ≤ k
theorem Sm.sd {d : D} {n k : Nat} (h : Sm d n k) : Sd d n k := by
  obtain ⟨p, a, b, c, e, f⟩ := h.ex
  exact ⟨p, a, lay1_of p b, c, e, f⟩
theorem Sd.mono {d : D} {n k n' k' : Nat} (h : Sd d n k) (h1 : n ≤ n') (h2 : k ≤ k') : Sd d n' k' := by
  obtain ⟨p, a, b, c, e, f⟩ := h.ex
  exact ⟨p, a, b, c, Nat.le_trans e h1, Nat.le_trans f h2⟩
theorem Sd.shw {d : D} {n k : Nat} (h : Sd d n k) (hn : n ≤ 16000000 := by decide) (hk : k ≤ 60 := by decide) : Shw d := by
  obtain ⟨p, a, b, c, e, f⟩ := h.ex
  exact ⟨p, a, c, by omega, Nat.le_trans (shown_le p b c) (Nat.le_trans e (Nat.le_trans hn (by decide)))⟩
theorem sd_all {n k : Nat} : ∀ xs : List D, (∀ x ∈ xs, Sd x n k) → ∃ ps, toPys xs = some ps ∧ lay1s ps = true ∧ PyData.showableAll ps = true ∧ wts ps ≤ (n + 2) * xs.length ∧ PyData.depthAll ps ≤ k
  | [], _ => ⟨[], rfl, rfl, rfl, Nat.zero_le _, Nat.zero_le _⟩
  | x :: r, h => by
    obtain ⟨p, a, b, c, e, f⟩ := (h x List.mem_cons_self).ex
    obtain ⟨ps, a2, b2, c2, e2, f2⟩ := sd_all r fun y hy => h y (List.mem_cons_of_mem _ hy)
    refine ⟨p :: ps, by unfold toPys; rw [a, a2], Bool.and_eq_true_iff.mpr ⟨b, b2⟩, Bool.and_eq_true_iff.mpr ⟨c, c2⟩, ?_, Nat.max_le.mpr ⟨f, f2⟩⟩
    show wt p + 2 + wts ps ≤ (n + 2) * (r.length + 1)
    rw [Nat.mul_succ]
    omega
theorem sd_lst {n k : Nat} {xs : List D} (h : ∀ x ∈ xs, Sd x n k) : Sd (.lst xs) ((n + 2) * xs.length + 10) (k + 1) := by
  obtain ⟨ps, a, b, c, e, f⟩ := sd_all xs h
  refine ⟨.list ps, by unfold toPy; rw [a]; rfl, b, c, ?_, Nat.succ_le_succ f⟩
  show wts ps + 10 ≤ _
  omega
mutual
def plain : D → Bool
  | .non => true
  | .bl _ => true
  | .int _ => true
  | .str _ => true
  | .lst xs => plains xs
  | .tup xs => plains xs
  | .fro _ => false
  | .edic => true
  | .dct _ => false
  | .opq _ => false
  | .exc _ _ _ => false
def plains : List D → Bool
  | [] => true
  | x :: r => plain x && plains r
end
theorem plains_iff : ∀ {xs : List D}, plains xs = true ↔ ∀ x ∈ xs, plain x = true
  | [] => ⟨fun _ _ h => (by cases h), fun _ => rfl⟩
  | x :: r => by
    show (plain x && plains r) = true ↔ _
    rw [Bool.and_eq_true_iff, plains_iff (xs := r)]
    exact ⟨fun h y hy => (List.mem_cons.mp hy).elim (fun e => e ▸ h.1) (h.2 y), fun h => ⟨h x List.mem_cons_self, fun y hy => h y (List.mem_cons_of_mem _ hy)⟩⟩
/-- plain data that repr shows -/
structure Gd (d : D) (n k : Nat) : Prop where
  pl : plain d = true
  sd : Sd d n k
theorem Gd.mono {d : D} {n k n' k' : Nat} (h : Gd d n k) (h1 : n ≤ n') (h2 : k ≤ k') : Gd d n' k' := ⟨h.pl, h.sd.mono h1 h2⟩
theorem gd_int {n : Nat} {i : Int} (h : Bd n i) (hn : n ≤ 1900 := by decide) : Gd (.int i) 2000 0 := ⟨rfl, (sm_int h hn).sd⟩
theorem gd_lst {n k : Nat} {xs : List D} (h : ∀ x ∈ xs, Gd x n k) : Gd (.lst xs) ((n + 2) * xs.length + 10) (k + 1) := ⟨plains_iff.mpr fun x hx => (h x hx).pl, sd_lst fun x hx => (h x hx).sd⟩
theorem all_nil {p : D → Prop} : ∀ x ∈ ([] : List D), p x := fun _ h => by cases h
theorem all_cons {p : D → Prop} {x : D} {r : List D} (h : p x) (t : ∀ y ∈ r, p y) : ∀ y ∈ x :: r, p y := fun y hy => by
  rcases List.mem_cons.mp hy with rfl | hy
  · exact h
  · exact t y hy
theorem ofString_ok (s : String) : (Str.ofString s).cps.all (· < 0x110000) = true := by
  rw [Array.all_eq_true']
  intro c hc
  rw [← Array.mem_toList_iff, PyProof.Rows.signs_ofString, List.mem_map] at hc
  obtain ⟨ch, _, rfl⟩ := hc
  have := ch.valid
  rcases this with h | ⟨_, h⟩
  · exact decide_eq_true (Nat.lt_trans h (by decide))
  · exact decide_eq_true h
theorem gd_str (x : Str) (h : x.cps.all (· < 0x110000) = true) : Gd (.str x) (10 * x.length + 10) 0 := ⟨rfl, (sm_str x h).sd⟩
theorem gd_lit (s : String) : Gd (.str s) (10 * (Str.ofString s).length + 10) 0 := gd_str _ (ofString_ok s)
theorem atI_0 {α : Type} (x : α) (r : List α) : atI (x :: r) 0 = some x := atI_nat (j := 0) rfl
theorem atI_1 {α : Type} (x y : α) (r : List α) : atI (x :: y :: r) 1 = some y := atI_nat (j := 1) rfl
theorem rng_mem {lo : Int} {n : Nat} {x : D} (h : x ∈ rng lo n) : ∃ i : Nat, i < n ∧ x = .int (lo + i) := by
  unfold rng at h
  obtain ⟨i, hi, rfl⟩ := List.mem_map.mp h
  exact ⟨i, List.mem_range.mp hi, rfl⟩
theorem rng_len {lo : Int} {n : Nat} : (rng lo n).length = n := by unfold rng; rw [List.length_map, List.length_range]
theorem ints_of {n : Nat} : ∀ ys : List D, (∀ y ∈ ys, ∃ i : Int, y = .int i ∧ Bd n i) → ∃ is : List Int, ys = is.map D.int ∧ (∀ i ∈ is, Bd n i) ∧ is.length = ys.length
  | [], _ => ⟨[], rfl, (fun _ h => by cases h), rfl⟩
  | y :: r, h => by
    obtain ⟨t, rfl, ht⟩ := h y List.mem_cons_self
    obtain ⟨ts, e, h2, h3⟩ := ints_of r fun z hz => h z (List.mem_cons_of_mem _ hz)
    refine ⟨t :: ts, by rw [e]; rfl, fun x hx => ?_, by rw [List.length_cons, List.length_cons, h3]⟩
    rcases List.mem_cons.mp hx with rfl | hx
    · exact ht
    · exact h2 x hx
theorem comp_e {α : Type} {g : DG} {te : DE} {ds : DS} {ms : MS} (e : α → D) (f : α → D) : ∀ (xs : List α) (acc : List D) (P : List D → MS → Prop), acc.length + xs.length ≤ 1000000 →
    (∀ x ∈ xs, ∀ P0 : D → MS → Prop, P0 (f x) ms → g (e x) ds fun ds2 => te ds2 ms P0) → P (acc ++ xs.map f) ms → compD g dYes te ds (xs.map e) acc ms P
  | [], acc, P, _, _, h => by rw [List.map_nil, List.append_nil] at h; exact h
  | x :: r, acc, P, hl, t, h => by
    rw [List.length_cons] at hl
    rw [List.map_cons]
    unfold compD
    simp only [dYes, if_true]
    refine t x List.mem_cons_self _ ⟨Nat.lt_of_lt_of_le (by omega : acc.length < 1000001) (by decide), comp_e e f r _ P (by rw [List.length_append, List.length_singleton]; omega) (fun y hy => t y (List.mem_cons_of_mem _ hy)) ?_⟩
    rw [List.append_assoc]
    exact h
theorem bls_map {α : Type} (f : α → Bool) : ∀ xs : List α, blsOf (xs.map fun x => D.bl (f x)) = some (xs.map f)
  | [] => rfl
  | x :: r => by rw [List.map_cons, List.map_cons]; unfold blsOf; rw [bls_map f r]; rfl
local macro_rules | `(tactic| walk_at "d2") => `(tactic| simp only [dSeq, dWhile, dTest, dOp, dVar, dC, dPar, dRet, dRetN, dCB, dAsg, dIfS, dNext, dTup, dLst, dLstM, dCall, dNeg, dSetIx, dDrop, dAnd, dOr, dNot, dAndV, dOrV, dNotV, dIf, dFor, dLc, dSl, dIsi, dYes, dTru, truD, dAppend, dFrz,
  aNil, aCons, oNone, oSome, sName, sTup, sCons, sNil, iRange1, iRange2, iSeq, iTupD, iZipD, iEnumD, slot, setSlot, startD, List.length_nil, List.length_cons, Nat.reduceAdd, List.append_nil, List.cons_append, List.nil_append, pick, List.filterMap_cons, List.filterMap_nil, List.getElem?_cons_zero, List.getElem?_cons_succ,
  fI, fAdd, fSub, fMul, fDiv, fMod, fPow, fLt, fLe, fGt, fGe, fEq, fNe, cAbs, cMax2, cMin2, cInt1, cLen, cRepr, true_and, and_true, decide_eq_true_eq, if_true, dDoX, dRaise, dRaiseI, dExprZ, dRetZ, dAsgZ, dCallZ, dTry0, dTry, dIsE, dFld, dEdic, EN.lp, EN.wn, EN.wx, cTuple, cList, cStr, cAll, cAny, cSum, fSl, asL, fIx, atI_0, atI_1, fIn, fNotIn, fInB, wipeD, List.set, dChain])
local macro_rules | `(tactic| walk_at "s1") => `(tactic| (fail))
local macro_rules | `(tactic| walk_at "s1.ExG") => `(tactic| (fail))
local macro_rules | `(tactic| walk_at "s1.ArG") => `(tactic| (fail))
local macro_rules | `(tactic| walk_at "s1.OpG") => `(tactic| (fail))
local macro_rules | `(tactic| walk_at "s1.TgG") => `(tactic| (fail))
local macro_rules | `(tactic| walk_at "s1.StG") => `(tactic| (fail))
local macro_rules | `(tactic| walk_at "s1.TsG") => `(tactic| (fail))
local macro_rules | `(tactic| walk_at "s1.CbG") => `(tactic| (fail))
local macro_rules | `(tactic| walk_at "s1.ItG") => `(tactic| (fail))
local macro_rules | `(tactic| walk_at "s1.OgG") => `(tactic| (fail))
local macro_rules | `(tactic| walk_at "s1.TgsG") => `(tactic| (fail))
local macro_rules | `(tactic| walk_at "s1.SlG") => `(tactic| (fail))
local macro_rules | `(tactic| walk_at "s1") => `(tactic| (with_reducible refine n_mk ?_))
local macro_rules | `(tactic| walk_at "s1") => `(tactic| (with_reducible refine x_mk ?_))
local macro_rules | `(tactic| walk_at "s1") => `(tactic| (with_reducible refine t_mk ?_))
local macro_rules | `(tactic| walk_at "s1") => `(tactic| (with_reducible refine r_neg ?_))
local macro_rules | `(tactic| walk_at "s1") => `(tactic| (with_reducible refine r_chain ?_))
local macro_rules | `(tactic| walk_at "s1") => `(tactic| (with_reducible refine r_isi ?_))
local macro_rules | `(tactic| walk_at "s1") => `(tactic| (with_reducible refine r_sl ?_))
local macro_rules | `(tactic| walk_at "s1") => `(tactic| (with_reducible refine r_lc ?_))
local macro_rules | `(tactic| walk_at "s1") => `(tactic| (with_reducible refine r_or ?_))
local macro_rules | `(tactic| walk_at "s1") => `(tactic| (with_reducible refine r_and ?_))
local macro_rules | `(tactic| walk_at "s1") => `(tactic| (with_reducible refine r_not ?_))
local macro_rules | `(tactic| walk_at "s1") => `(tactic| (with_reducible refine r_if ?_))
local macro_rules | `(tactic| walk_at "s1") => `(tactic| (with_reducible refine r_notV ?_))
local macro_rules | `(tactic| walk_at "s1") => `(tactic| (with_reducible refine r_orV ?_))
local macro_rules | `(tactic| walk_at "s1") => `(tactic| (with_reducible refine r_andV ?_))
local macro_rules | `(tactic| walk_at "s1") => `(tactic| (with_reducible refine r_lst ?_))
local macro_rules | `(tactic| walk_at "s1") => `(tactic| (with_reducible refine r_tup ?_))
local macro_rules | `(tactic| walk_at "s1") => `(tactic| (with_reducible refine r_c ?_))
local macro_rules | `(tactic| walk_at "s1") => `(tactic| (with_reducible refine r_var ?_))
local macro_rules | `(tactic| walk_at "s1") => `(tactic| (with_reducible refine r_cb ?_))
local macro_rules | `(tactic| walk_at "s1") => `(tactic| (with_reducible refine r_exprZ ?_))
local macro_rules | `(tactic| walk_at "s1") => `(tactic| (with_reducible refine r_for ?_))
local macro_rules | `(tactic| walk_at "s1") => `(tactic| (with_reducible refine r_drop ?_))
local macro_rules | `(tactic| walk_at "s1") => `(tactic| (with_reducible refine r_asg ?_))
local macro_rules | `(tactic| walk_at "s1") => `(tactic| (with_reducible refine r_ifS ?_))
local macro_rules | `(tactic| walk_at "s1") => `(tactic| (with_reducible refine r_ret ?_))
local macro_rules | `(tactic| walk_at "s1") => `(tactic| (with_reducible refine r_stup ?_))
local macro_rules | `(tactic| walk_at "s1") => `(tactic| (with_reducible refine r_test ?_))
local macro_rules | `(tactic| walk_at "s1") => `(tactic| (with_reducible refine r_call ?_))
local macro_rules | `(tactic| walk_at "s1") => `(tactic| (with_reducible refine r_op ?_))
local macro_rules | `(tactic| walk_at "s1") => `(tactic| (with_reducible refine r_seq ?_))
local macro_rules | `(tactic| walk_at "s1") => `(tactic| (with_reducible refine r_name ?_))
local macro_rules | `(tactic| walk_at "s1") => `(tactic| (with_reducible refine r_rt ?_))
local macro_rules | `(tactic| walk_at "s1") => `(tactic| (with_reducible refine r_nx ?_))
local macro_rules | `(tactic| walk_at "s1") => `(tactic| ((with_reducible refine' w_mIsN ?wa ?wz); (case wa => rfl)))
local macro_rules | `(tactic| walk_at "s1") => `(tactic| ((with_reducible refine' w_mApp2 ?wa ?wv ?wz); (case wa => (first | assumption | exact look_new)); (case wv => (first | exact put_new | rfl))))
local macro_rules | `(tactic| walk_at "s1") => `(tactic| ((with_reducible refine' w_mApp ?wa ?wz); (case wa => (first | assumption | exact look_new))))
local macro_rules | `(tactic| walk_at "s1") => `(tactic| ((with_reducible refine' w_mFld (b := true) ?wa ?wv ?wz); (case wa => decide +kernel); (case wv => rfl)))
local macro_rules | `(tactic| walk_at "s1") => `(tactic| ((with_reducible refine w_mIsE (b := false) ?wa ?wz); (case wa => decide +kernel)))
local macro_rules | `(tactic| walk_at "s1") => `(tactic| ((with_reducible refine w_mIsE (b := true) ?wa ?wz); (case wa => decide +kernel)))
local macro_rules | `(tactic| walk_at "s1") => `(tactic| ((with_reducible refine w_mTryF ?wa ?wz); (case wa => decide +kernel)))
local macro_rules | `(tactic| walk_at "s1") => `(tactic| ((with_reducible refine' w_mTry ?wa ?wv ?wz); (case wa => decide +kernel); (case wv => (first | (simp only [setSlot, List.set]; done) | (simp only [setSlot, List.set]; rfl) | rfl))))
local macro_rules | `(tactic| walk_at "s1") => `(tactic| (with_reducible refine t_gone ?_))
local macro_rules | `(tactic| walk_at "s1") => `(tactic| ((with_reducible refine' n_gone ?wa ?wz); (case wa => (first | (simp only [setSlot, List.set]; done) | (simp only [setSlot, List.set]; rfl) | rfl))))
local macro_rules | `(tactic| walk_at "s1") => `(tactic| ((with_reducible refine w_mTryGF ?wa ?wz); (case wa => decide +kernel)))
local macro_rules | `(tactic| walk_at "s1") => `(tactic| ((with_reducible refine' w_mTryG ?wa ?wv ?wz); (case wa => decide +kernel); (case wv => (first | (simp only [setSlot, List.set]; done) | (simp only [setSlot, List.set]; rfl) | rfl))))
local macro_rules | `(tactic| walk_at "s1") => `(tactic| ((with_reducible refine w_mRng ?wa ?wz); (case wa => decide)))
local macro_rules | `(tactic| walk_at "s1") => `(tactic| ((with_reducible refine' w_mIsiF ?wa ?wc ?wz); (case wa => rfl); (case wc => rfl)))
local macro_rules | `(tactic| walk_at "s1") => `(tactic| ((with_reducible refine' w_mIsiT ?wa ?wc ?wz); (case wa => rfl); (case wc => rfl)))
local macro_rules | `(tactic| walk_at "s1") => `(tactic| (with_reducible refine w_mNot ?_))
local macro_rules | `(tactic| walk_at "s1") => `(tactic| ((with_reducible refine w_mNotF ?wa ?wz); (case wa => rfl)))
local macro_rules | `(tactic| walk_at "s1") => `(tactic| ((with_reducible refine w_mNotT ?wa ?wz); (case wa => rfl)))
local macro_rules | `(tactic| walk_at "s1") => `(tactic| ((with_reducible refine' w_mPar ?wa ?wz); (case wa => (first | (simp only [setSlot, startD]; done) | (simp only [setSlot, startD]; rfl) | rfl))))
local macro_rules | `(tactic| walk_at "s1") => `(tactic| (with_reducible refine w_mIsB ?_))
local macro_rules | `(tactic| walk_at "s1") => `(tactic| (with_reducible refine w_mChain ?_))
local macro_rules | `(tactic| walk_at "s1") => `(tactic| (with_reducible refine w_mEnum ?_))
local macro_rules | `(tactic| walk_at "s1") => `(tactic| (with_reducible refine w_mZip ?_))
local macro_rules | `(tactic| walk_at "s1") => `(tactic| (with_reducible refine w_mTupI ?_))
local macro_rules | `(tactic| walk_at "s1") => `(tactic| (with_reducible refine w_mSeqF ?_))
local macro_rules | `(tactic| walk_at "s1") => `(tactic| (with_reducible refine w_mSeq ?_))
local macro_rules | `(tactic| walk_at "s1") => `(tactic| (with_reducible refine w_mSome ?_))
local macro_rules | `(tactic| walk_at "s1") => `(tactic| (with_reducible refine w_mOr ?_))
local macro_rules | `(tactic| walk_at "s1") => `(tactic| (with_reducible refine w_mAnd ?_))
local macro_rules | `(tactic| walk_at "s1") => `(tactic| (with_reducible refine w_mNeg ?_))
local macro_rules | `(tactic| walk_at "s1") => `(tactic| (with_reducible refine c_wx ?_))
local macro_rules | `(tactic| walk_at "s1") => `(tactic| (with_reducible refine c_lp ?_))
local macro_rules | `(tactic| walk_at "s1") => `(tactic| (with_reducible refine c_wn ?_))
local macro_rules | `(tactic| walk_at "s1") => `(tactic| (with_reducible refine b_wx ?_))
local macro_rules | `(tactic| walk_at "s1") => `(tactic| (with_reducible refine b_lp ?_))
local macro_rules | `(tactic| walk_at "s1") => `(tactic| (with_reducible refine b_wn ?_))
local macro_rules | `(tactic| walk_at "s1.SlG") => `(tactic| (with_reducible refine w_sl_t ?_))
local macro_rules | `(tactic| walk_at "s1.SlG") => `(tactic| (with_reducible refine w_sl_s ?_))
local macro_rules | `(tactic| walk_at "s1.SlG") => `(tactic| (with_reducible refine w_sl_f ?_))
local macro_rules | `(tactic| walk_at "s1.SlG") => `(tactic| (with_reducible refine w_sl_l ?_))
local macro_rules | `(tactic| walk_at "s1") => `(tactic| ((with_reducible refine SlG.out ?_); (walk_at "s1.SlG")))
local macro_rules | `(tactic| walk_at "s1.OgG") => `(tactic| (with_reducible refine w_osome ?_))
local macro_rules | `(tactic| walk_at "s1.OgG") => `(tactic| (with_reducible refine w_onone ?_))
local macro_rules | `(tactic| walk_at "s1") => `(tactic| ((with_reducible refine OgG.out ?_); (walk_at "s1.OgG")))
local macro_rules | `(tactic| walk_at "s1.ItG") => `(tactic| (with_reducible refine w_itup ?_))
local macro_rules | `(tactic| walk_at "s1.ItG") => `(tactic| (with_reducible refine w_ienum ?_))
local macro_rules | `(tactic| walk_at "s1.ItG") => `(tactic| (with_reducible refine w_izip ?_))
local macro_rules | `(tactic| walk_at "s1.ItG") => `(tactic| (with_reducible refine w_iseq ?_))
local macro_rules | `(tactic| walk_at "s1") => `(tactic| ((with_reducible refine' w_mCallZ ?wa ?wv ?wc ?wz); (case wa => rfl); (case wv => rfl); (case wc => (first | (simp only [pick, List.append_nil, List.cons_append, List.nil_append, List.filterMap_cons, List.filterMap_nil, List.getElem?_cons_zero, List.getElem?_cons_succ]; done) | (simp only [pick, List.append_nil, List.cons_append, List.nil_append, List.filterMap_cons, List.filterMap_nil, List.getElem?_cons_zero, List.getElem?_cons_succ]; rfl) | rfl))))
local macro_rules | `(tactic| walk_at "s1") => `(tactic| ((with_reducible refine' w_mCallAZ ?wa ?wv ?wc ?wz); (case wa => rfl); (case wv => rfl); (case wc => (first | (simp only [pick, List.append_nil, List.cons_append, List.nil_append, List.filterMap_cons, List.filterMap_nil, List.getElem?_cons_zero, List.getElem?_cons_succ]; done) | (simp only [pick, List.append_nil, List.cons_append, List.nil_append, List.filterMap_cons, List.filterMap_nil, List.getElem?_cons_zero, List.getElem?_cons_succ]; rfl) | rfl))))
local macro_rules | `(tactic| walk_at "s1") => `(tactic| ((with_reducible refine' w_mCallA ?wa ?wv ?wc ?wz); (case wa => rfl); (case wv => rfl); (case wc => (first | (simp only [pick, List.append_nil, List.cons_append, List.nil_append, List.filterMap_cons, List.filterMap_nil, List.getElem?_cons_zero, List.getElem?_cons_succ]; done) | (simp only [pick, List.append_nil, List.cons_append, List.nil_append, List.filterMap_cons, List.filterMap_nil, List.getElem?_cons_zero, List.getElem?_cons_succ]; rfl) | rfl))))
local macro_rules | `(tactic| walk_at "s1") => `(tactic| ((with_reducible refine w_iteF ?wa ?wz); (case wa => rfl)))
local macro_rules | `(tactic| walk_at "s1") => `(tactic| ((with_reducible refine w_iteT ?wa ?wz); (case wa => rfl)))
local macro_rules | `(tactic| walk_at "s1") => `(tactic| ((with_reducible refine w_sizeL ?wa ?wz); (case wa => exact Nat.le_of_ble_eq_true rfl)))
local macro_rules | `(tactic| walk_at "s1.CbG") => `(tactic| (with_reducible refine w_str_i ?_))
local macro_rules | `(tactic| walk_at "s1.CbG") => `(tactic| (with_reducible refine w_str_l ?_))
local macro_rules | `(tactic| walk_at "s1.CbG") => `(tactic| (with_reducible refine w_str_s ?_))
local macro_rules | `(tactic| walk_at "s1.CbG") => `(tactic| (with_reducible refine w_tuple_t ?_))
local macro_rules | `(tactic| walk_at "s1.CbG") => `(tactic| (with_reducible refine w_tuple_l ?_))
local macro_rules | `(tactic| walk_at "s1.CbG") => `(tactic| (with_reducible refine w_list_t ?_))
local macro_rules | `(tactic| walk_at "s1.CbG") => `(tactic| (with_reducible refine w_list_f ?_))
local macro_rules | `(tactic| walk_at "s1.CbG") => `(tactic| (with_reducible refine w_list_l ?_))
local macro_rules | `(tactic| walk_at "s1.CbG") => `(tactic| (with_reducible refine w_abs ?_))
local macro_rules | `(tactic| walk_at "s1.CbG") => `(tactic| (with_reducible refine w_int_i ?_))
local macro_rules | `(tactic| walk_at "s1.CbG") => `(tactic| (with_reducible refine w_min2 ?_))
local macro_rules | `(tactic| walk_at "s1.CbG") => `(tactic| (with_reducible refine w_max2 ?_))
local macro_rules | `(tactic| walk_at "s1.CbG") => `(tactic| (with_reducible refine w_len_s ?_))
local macro_rules | `(tactic| walk_at "s1.CbG") => `(tactic| (with_reducible refine w_len_t ?_))
local macro_rules | `(tactic| walk_at "s1.CbG") => `(tactic| (with_reducible refine w_len_f ?_))
local macro_rules | `(tactic| walk_at "s1.CbG") => `(tactic| (with_reducible refine w_repr ?_))
local macro_rules | `(tactic| walk_at "s1.CbG") => `(tactic| (with_reducible refine w_len_l ?_))
local macro_rules | `(tactic| walk_at "s1.TsG") => `(tactic| (with_reducible refine w_tru ?_))
local macro_rules | `(tactic| walk_at "s1.TsG") => `(tactic| (with_reducible refine w_yes ?_))
local macro_rules | `(tactic| walk_at "s1.TsG") => `(tactic| (with_reducible refine w_and ?_))
local macro_rules | `(tactic| walk_at "s1.TsG") => `(tactic| (with_reducible refine w_or ?_))
local macro_rules | `(tactic| walk_at "s1.TsG") => `(tactic| (with_reducible refine w_not ?_))
local macro_rules | `(tactic| walk_at "s1.StG") => `(tactic| (with_reducible refine w_cont ?_))
local macro_rules | `(tactic| walk_at "s1.StG") => `(tactic| (with_reducible refine w_break ?_))
local macro_rules | `(tactic| walk_at "s1.StG") => `(tactic| (with_reducible refine w_retN ?_))
local macro_rules | `(tactic| walk_at "s1.StG") => `(tactic| (with_reducible refine w_raiseI ?_))
local macro_rules | `(tactic| walk_at "s1.StG") => `(tactic| (with_reducible refine w_raise ?_))
local macro_rules | `(tactic| walk_at "s1.StG") => `(tactic| (with_reducible refine w_try ?_))
local macro_rules | `(tactic| walk_at "s1.StG") => `(tactic| (with_reducible refine w_tryG ?_))
local macro_rules | `(tactic| walk_at "s1.StG") => `(tactic| (with_reducible refine w_tryG0 ?_))
local macro_rules | `(tactic| walk_at "s1.StG") => `(tactic| (with_reducible refine w_try0 ?_))
local macro_rules | `(tactic| walk_at "s1.StG") => `(tactic| (with_reducible refine w_asgZ ?_))
local macro_rules | `(tactic| walk_at "s1.StG") => `(tactic| (with_reducible refine w_retZ ?_))
local macro_rules | `(tactic| walk_at "s1.StG") => `(tactic| (with_reducible refine w_exprZ ?_))
local macro_rules | `(tactic| walk_at "s1.StG") => `(tactic| (with_reducible refine w_par ?_))
local macro_rules | `(tactic| walk_at "s1.StG") => `(tactic| (with_reducible refine w_next ?_))
local macro_rules | `(tactic| walk_at "s1") => `(tactic| (with_reducible refine t_wx ?_))
local macro_rules | `(tactic| walk_at "s1") => `(tactic| (with_reducible refine x_wx ?_))
local macro_rules | `(tactic| walk_at "s1") => `(tactic| (with_reducible refine x_lp ?_))
local macro_rules | `(tactic| walk_at "s1") => `(tactic| (with_reducible refine x_wn ?_))
local macro_rules | `(tactic| walk_at "s1") => `(tactic| (with_reducible refine n_wx ?_))
local macro_rules | `(tactic| walk_at "s1") => `(tactic| (with_reducible refine t_lp ?_))
local macro_rules | `(tactic| walk_at "s1") => `(tactic| (with_reducible refine t_wn ?_))
local macro_rules | `(tactic| walk_at "s1.TgG") => `(tactic| ((with_reducible refine w_stup ?wa ?wz); (case wa => rfl)))
local macro_rules | `(tactic| walk_at "s1.OpG") => `(tactic| (with_reducible refine w_notIs ?_))
local macro_rules | `(tactic| walk_at "s1.OpG") => `(tactic| (with_reducible refine w_is ?_))
local macro_rules | `(tactic| walk_at "s1.OpG") => `(tactic| ((with_reducible refine' w_add_ol ?wa ?wz); (case wa => (first | assumption | exact look_new))))
local macro_rules | `(tactic| walk_at "s1.OpG") => `(tactic| (with_reducible refine w_notIn_t ?_))
local macro_rules | `(tactic| walk_at "s1.OpG") => `(tactic| (with_reducible refine w_notIn_l ?_))
local macro_rules | `(tactic| walk_at "s1.OpG") => `(tactic| (with_reducible refine w_in_t ?_))
local macro_rules | `(tactic| walk_at "s1.OpG") => `(tactic| (with_reducible refine w_in_l ?_))
local macro_rules | `(tactic| walk_at "s1.OpG") => `(tactic| (with_reducible refine w_ne_tt ?_))
local macro_rules | `(tactic| walk_at "s1.OpG") => `(tactic| (with_reducible refine w_ne_lc ?_))
local macro_rules | `(tactic| walk_at "s1.OpG") => `(tactic| (with_reducible refine w_eq_tt ?_))
local macro_rules | `(tactic| walk_at "s1.OpG") => `(tactic| (with_reducible refine w_eq_lc ?_))
local macro_rules | `(tactic| walk_at "s1.OpG") => `(tactic| (with_reducible refine w_mul_l ?_))
local macro_rules | `(tactic| walk_at "s1.OpG") => `(tactic| (with_reducible refine w_add_ss ?_))
local macro_rules | `(tactic| walk_at "s1.OpG") => `(tactic| (with_reducible refine w_ne_bb ?_))
local macro_rules | `(tactic| walk_at "s1.OpG") => `(tactic| (with_reducible refine w_eq_bb ?_))
local macro_rules | `(tactic| walk_at "s1.OpG") => `(tactic| (with_reducible refine w_ne_l0 ?_))
local macro_rules | `(tactic| walk_at "s1.OpG") => `(tactic| (with_reducible refine w_eq_l0 ?_))
local macro_rules | `(tactic| walk_at "s1.OpG") => `(tactic| (with_reducible refine w_add_ll ?_))
local macro_rules | `(tactic| walk_at "s1.OpG") => `(tactic| ((with_reducible refine' w_pow ?wa ?wc ?wz); (case wa => decide); (case wc => (first | exact t9 | exact t6 | exact t18 | exact t39 | exact t58 | exact t30))))
local macro_rules | `(tactic| walk_at "s1.OpG") => `(tactic| (with_reducible refine w_mod ?_))
local macro_rules | `(tactic| walk_at "s1.OpG") => `(tactic| (with_reducible refine w_div ?_))
local macro_rules | `(tactic| walk_at "s1.OpG") => `(tactic| (with_reducible refine w_ne_ss ?_))
local macro_rules | `(tactic| walk_at "s1.OpG") => `(tactic| (with_reducible refine w_eq_ss ?_))
local macro_rules | `(tactic| walk_at "s1.OpG") => `(tactic| (with_reducible refine w_ge ?_))
local macro_rules | `(tactic| walk_at "s1.OpG") => `(tactic| (with_reducible refine w_le ?_))
local macro_rules | `(tactic| walk_at "s1.OpG") => `(tactic| (with_reducible refine w_gt ?_))
local macro_rules | `(tactic| walk_at "s1.OpG") => `(tactic| (with_reducible refine w_lt ?_))
local macro_rules | `(tactic| walk_at "s1.OpG") => `(tactic| (with_reducible refine w_ne_ii ?_))
local macro_rules | `(tactic| walk_at "s1.OpG") => `(tactic| (with_reducible refine w_eq_ii ?_))
local macro_rules | `(tactic| walk_at "s1.OpG") => `(tactic| ((with_reducible refine' w_ix_l ?wa ?wz); (case wa => (first | exact w_at0 _ _ | exact w_at1 _ _ _ | exact w_at2 _ _ _ _ | exact w_at3 _ _ _ _ _))))
local macro_rules | `(tactic| walk_at "s1.OpG") => `(tactic| ((with_reducible refine' w_ix_t ?wa ?wz); (case wa => (first | exact w_at0 _ _ | exact w_at1 _ _ _ | exact w_at2 _ _ _ _ | exact w_at3 _ _ _ _ _))))
local macro_rules | `(tactic| walk_at "s1.ExG") => `(tactic| (with_reducible refine w_edic ?_))
local macro_rules | `(tactic| walk_at "s1.ExG") => `(tactic| (with_reducible refine w_neg ?_))
local macro_rules | `(tactic| walk_at "s1.ExG") => `(tactic| (with_reducible refine w_chain ?_))
local macro_rules | `(tactic| walk_at "s1.ExG") => `(tactic| (with_reducible refine w_fld ?_))
local macro_rules | `(tactic| walk_at "s1.ExG") => `(tactic| (with_reducible refine w_isE ?_))
local macro_rules | `(tactic| walk_at "s1.ExG") => `(tactic| (with_reducible refine w_callAZ ?_))
local macro_rules | `(tactic| walk_at "s1.ExG") => `(tactic| (with_reducible refine w_callA ?_))
local macro_rules | `(tactic| walk_at "s1.ExG") => `(tactic| (with_reducible refine w_callZ ?_))
local macro_rules | `(tactic| walk_at "s1.ExG") => `(tactic| (with_reducible refine w_sl ?_))
local macro_rules | `(tactic| walk_at "s1.ExG") => `(tactic| (with_reducible refine w_isi ?_))
local macro_rules | `(tactic| walk_at "s1.ExG") => `(tactic| (with_reducible refine w_if ?_))
local macro_rules | `(tactic| walk_at "s1.ExG") => `(tactic| (with_reducible refine w_notV ?_))
local macro_rules | `(tactic| walk_at "s1.ExG") => `(tactic| (with_reducible refine w_orV ?_))
local macro_rules | `(tactic| walk_at "s1.ExG") => `(tactic| (with_reducible refine w_andV ?_))
local macro_rules | `(tactic| walk_at "s1.OpG") => `(tactic| (with_reducible refine w_add_tt ?_))
local macro_rules | `(tactic| walk_at "s1") => `(tactic| (with_reducible refine t_gone ?_))
local macro_rules | `(tactic| walk_at "s1") => `(tactic| ((with_reducible refine' c_gone ?wa ?wz); (case wa => (first | (simp only [setSlot, List.set]; done) | (simp only [setSlot, List.set]; rfl) | rfl))))
local macro_rules | `(tactic| walk_at "s1") => `(tactic| ((with_reducible refine' b_gone ?wa ?wz); (case wa => (first | (simp only [setSlot, List.set]; done) | (simp only [setSlot, List.set]; rfl) | rfl))))
local macro_rules | `(tactic| walk_at "s1") => `(tactic| ((with_reducible refine' n_gone ?wa ?wz); (case wa => (first | (simp only [setSlot, List.set]; done) | (simp only [setSlot, List.set]; rfl) | rfl))))
local macro_rules | `(tactic| walk_at "s1.CbG") => `(tactic| (with_reducible refine w_listM_l ?_))
local macro_rules | `(tactic| walk_at "s1.CbG") => `(tactic| (with_reducible refine w_listM_t ?_))
local macro_rules | `(tactic| walk_at "s1.OpG") => `(tactic| (with_reducible refine w_addM ?_))
local macro_rules | `(tactic| walk_at "s1.StG") => `(tactic| ((with_reducible refine' w_frzS ?wa ?wb ?wc ?wd ?wz); (case wa => rfl); (case wb => (first | assumption | exact look_new)); (case wc => (first | (simp only [setSlot, startD]; done) | (simp only [setSlot, startD]; rfl) | rfl)); (case wd => (first | exact drp_new | rfl))))
local macro_rules | `(tactic| walk_at "s1.ExG") => `(tactic| ((with_reducible refine' w_loan ?wa ?wb ?wc ?wd ?wz); (case wa => rfl); (case wb => (first | assumption | exact look_new)); (case wc => (first | (simp only [setSlot, startD]; done) | (simp only [setSlot, startD]; rfl) | rfl)); (case wd => (first | exact drp_new | rfl))))
local macro_rules | `(tactic| walk_at "s1.ExG") => `(tactic| (with_reducible refine w_lcM ?_))
local macro_rules | `(tactic| walk_at "s1") => `(tactic| (with_reducible refine w_mCnt ?_))
local macro_rules | `(tactic| walk_at "s1") => `(tactic| ((with_reducible refine w_lenq ?wa ?wz); (case wa => rfl)))
local macro_rules | `(tactic| walk_at "s1.ExG") => `(tactic| (with_reducible refine w_count ?_))
local macro_rules | `(tactic| walk_at "s1.ExG") => `(tactic| (with_reducible refine w_mkI ?_))
local macro_rules | `(tactic| walk_at "s1.ExG") => `(tactic| (with_reducible refine w_mk0 ?_))
local macro_rules | `(tactic| walk_at "s1.CbG") => `(tactic| (with_reducible refine w_divmod ?_))
local macro_rules | `(tactic| walk_at "s1.OpG") => `(tactic| (with_reducible refine w_notInSign ?_))
local macro_rules | `(tactic| walk_at "s1.OpG") => `(tactic| (with_reducible refine w_inSign ?_))
local macro_rules | `(tactic| walk_at "s1") => `(tactic| (with_reducible refine w_mMaxD ?_))
local macro_rules | `(tactic| walk_at "s1") => `(tactic| (with_reducible refine w_mJs ?_))
local macro_rules | `(tactic| walk_at "s1") => `(tactic| (with_reducible refine w_jsC ?_))
local macro_rules | `(tactic| walk_at "s1") => `(tactic| (with_reducible refine w_jsN ?_))
local macro_rules | `(tactic| walk_at "s1") => `(tactic| (with_reducible refine w_mFmtI ?_))
local macro_rules | `(tactic| walk_at "s1") => `(tactic| (with_reducible refine w_mFmtS ?_))
local macro_rules | `(tactic| walk_at "s1") => `(tactic| (with_reducible refine w_mJr ?_))
local macro_rules | `(tactic| walk_at "s1") => `(tactic| (with_reducible refine w_remSuf ?_))
local macro_rules | `(tactic| walk_at "s1") => `(tactic| (with_reducible refine w_zfill ?_))
local macro_rules | `(tactic| walk_at "s1") => `(tactic| (with_reducible refine w_split ?_))
local macro_rules | `(tactic| walk_at "s1") => `(tactic| (with_reducible refine w_ends ?_))
local macro_rules | `(tactic| walk_at "s1") => `(tactic| (with_reducible refine w_starts ?_))
local macro_rules | `(tactic| walk_at "s1") => `(tactic| (with_reducible refine w_part ?_))
local macro_rules | `(tactic| walk_at "s1") => `(tactic| (with_reducible refine w_mM1 ?_))
local macro_rules | `(tactic| walk_at "s1.ExG") => `(tactic| (with_reducible refine w_maxDef ?_))
local macro_rules | `(tactic| walk_at "s1.ExG") => `(tactic| (with_reducible refine w_joined ?_))
local macro_rules | `(tactic| walk_at "s1.ExG") => `(tactic| (with_reducible refine w_fmt ?_))
local macro_rules | `(tactic| walk_at "s1.ExG") => `(tactic| (with_reducible refine w_joinRev ?_))
local macro_rules | `(tactic| walk_at "s1.ExG") => `(tactic| (with_reducible refine w_m1 ?_))
local macro_rules | `(tactic| walk_at "s1.OpG") => `(tactic| ((with_reducible refine' w_pow ?wa ?wc ?wz); (case wa => decide); (case wc => (first | exact t56 | exact t60 | exact t40 | exact t50 | exact t59))))
local macro_rules | `(tactic| walk_at "s1") => `(tactic| (with_reducible refine r_append ?_))
local macro_rules | `(tactic| walk_at "s1") => `(tactic| (with_reducible refine r_frz ?_))
local macro_rules | `(tactic| walk_at "s1") => `(tactic| (with_reducible refine r_joined ?_))
local macro_rules | `(tactic| walk_at "s1") => `(tactic| (with_reducible refine r_m1 ?_))
local macro_rules | `(tactic| walk_at "s1") => `(tactic| (with_reducible refine r_lcM ?_))
local macro_rules | `(tactic| walk_at "s1") => `(tactic| (with_reducible refine r_setIx ?_))
local macro_rules | `(tactic| walk_at "s1") => `(tactic| (with_reducible refine r_frzS ?_))
local macro_rules | `(tactic| walk_at "s1") => `(tactic| (with_reducible refine w_mStrI ?_))
local macro_rules | `(tactic| walk_at "s1.ItG") => `(tactic| (with_reducible refine w_irng3 ?_))
local macro_rules | `(tactic| walk_at "s1.ItG") => `(tactic| (with_reducible refine w_istr ?_))
local macro_rules | `(tactic| walk_at "s1") => `(tactic| (with_reducible refine w_truI ?_))
local macro_rules | `(tactic| walk_at "s1") => `(tactic| (with_reducible refine w_truL ?_))
local macro_rules | `(tactic| walk_at "s1") => `(tactic| (with_reducible refine w_truB ?_))
local macro_rules | `(tactic| walk_at "s1.TgG") => `(tactic| ((with_reducible refine w_slst ?wa ?wz); (case wa => rfl)))
local macro_rules | `(tactic| walk_at "s1") => `(tactic| (with_reducible refine w_mTest ?_))
local macro_rules | `(tactic| walk_at "s1.TsG") => `(tactic| (with_reducible refine w_test ?_))
local macro_rules | `(tactic| walk_at "s1.StG") => `(tactic| (with_reducible refine w_ifS ?_))
local macro_rules | `(tactic| walk_at "s1.CbG") => `(tactic| (with_reducible refine w_int_b ?_))
local macro_rules | `(tactic| walk_at "s1.ExG") => `(tactic| (with_reducible refine w_lc (fun _ => rfl) ?_))
local macro_rules | `(tactic| walk_at "s1") => `(tactic| ((with_reducible refine TgsG.out ?_); (walk_at "s1.TgsG")))
local macro_rules | `(tactic| walk_at "s1") => `(tactic| ((with_reducible refine ItG.out ?_); (walk_at "s1.ItG")))
local macro_rules | `(tactic| walk_at "s1") => `(tactic| ((with_reducible refine TsG.out ?_); (walk_at "s1.TsG")))
local macro_rules | `(tactic| walk_at "s1") => `(tactic| ((with_reducible refine CbG.out ?_); (walk_at "s1.CbG")))
local macro_rules | `(tactic| walk_at "s1") => `(tactic| (with_reducible refine n_lp ?_))
local macro_rules | `(tactic| walk_at "s1.ExG") => `(tactic| (with_reducible refine w_cb ?_))
local macro_rules | `(tactic| walk_at "s1.StG") => `(tactic| (with_reducible refine w_for ?_))
local macro_rules | `(tactic| walk_at "s1.ExG") => `(tactic| (with_reducible refine w_lstM ?_))
local macro_rules | `(tactic| walk_at "s1") => `(tactic| ((with_reducible refine' w_mFrz ?wa ?wv ?wz); (case wa => (first | assumption | exact look_new)); (case wv => (first | exact drp_new | rfl))))
local macro_rules | `(tactic| walk_at "s1.StG") => `(tactic| (with_reducible refine w_ret ?_))
local macro_rules | `(tactic| walk_at "s1.StG") => `(tactic| (with_reducible refine w_setIx ?_))
local macro_rules | `(tactic| walk_at "s1.TgsG") => `(tactic| (with_reducible refine w_snil ?_))
local macro_rules | `(tactic| walk_at "s1.ExG") => `(tactic| (with_reducible refine w_frz ?_))
local macro_rules | `(tactic| walk_at "s1.ExG") => `(tactic| (with_reducible refine w_append ?_))
local macro_rules | `(tactic| walk_at "s1.StG") => `(tactic| (with_reducible refine w_drop ?_))
local macro_rules | `(tactic| walk_at "s1.ItG") => `(tactic| (with_reducible refine w_irng1 ?_))
local macro_rules | `(tactic| walk_at "s1.OpG") => `(tactic| (with_reducible refine w_mul ?_))
local macro_rules | `(tactic| walk_at "s1.ExG") => `(tactic| (with_reducible refine w_tup ?_))
local macro_rules | `(tactic| walk_at "s1.ExG") => `(tactic| (with_reducible refine w_lst ?_))
local macro_rules | `(tactic| walk_at "s1.OpG") => `(tactic| (with_reducible refine w_sub ?_))
local macro_rules | `(tactic| walk_at "s1.OpG") => `(tactic| (with_reducible refine w_add_ii ?_))
local macro_rules | `(tactic| walk_at "s1.TgsG") => `(tactic| (with_reducible refine w_scons ?_))
local macro_rules | `(tactic| walk_at "s1.ExG") => `(tactic| (with_reducible refine w_call ?_))
local macro_rules | `(tactic| walk_at "s1") => `(tactic| ((with_reducible refine' w_mCall ?wa ?wv ?wc ?wz); (case wa => rfl); (case wv => rfl); (case wc => (first | (simp only [pick, List.append_nil, List.cons_append, List.nil_append, List.filterMap_cons, List.filterMap_nil, List.getElem?_cons_zero, List.getElem?_cons_succ]; done) | (simp only [pick, List.append_nil, List.cons_append, List.nil_append, List.filterMap_cons, List.filterMap_nil, List.getElem?_cons_zero, List.getElem?_cons_succ]; rfl) | rfl))))
local macro_rules | `(tactic| walk_at "s1") => `(tactic| ((with_reducible refine w_size ?wa ?wz); (case wa => exact Nat.le_of_ble_eq_true rfl)))
local macro_rules | `(tactic| walk_at "s1.StG") => `(tactic| (with_reducible refine w_asg ?_))
local macro_rules | `(tactic| walk_at "s1") => `(tactic| (with_reducible refine n_wn ?_))
local macro_rules | `(tactic| walk_at "s1.StG") => `(tactic| (with_reducible refine w_seq ?_))
local macro_rules | `(tactic| walk_at "s1.TgG") => `(tactic| ((with_reducible refine' w_name ?wa ?wz); (case wa => (first | (simp only [setSlot, startD]; done) | (simp only [setSlot, startD]; rfl) | rfl))))
local macro_rules | `(tactic| walk_at "s1.ExG") => `(tactic| (with_reducible refine w_op ?_))
local macro_rules | `(tactic| walk_at "s1.ExG") => `(tactic| (with_reducible refine w_c ?_))
local macro_rules | `(tactic| walk_at "s1.ArG") => `(tactic| (with_reducible refine w_anil ?_))
local macro_rules | `(tactic| walk_at "s1.ArG") => `(tactic| (with_reducible refine w_acons ?_))
local macro_rules | `(tactic| walk_at "s1.ExG") => `(tactic| ((with_reducible refine' w_var ?wa ?wz); (case wa => rfl)))
local macro_rules | `(tactic| walk_at "s1") => `(tactic| ((with_reducible refine StG.out ?_); (walk_at "s1.StG")))
local macro_rules | `(tactic| walk_at "s1") => `(tactic| ((with_reducible refine TgG.out ?_); (walk_at "s1.TgG")))
local macro_rules | `(tactic| walk_at "s1") => `(tactic| ((with_reducible refine OpG.out ?_); (walk_at "s1.OpG")))
local macro_rules | `(tactic| walk_at "s1") => `(tactic| ((with_reducible refine ArG.out ?_); (walk_at "s1.ArG")))
local macro_rules | `(tactic| walk_at "s1") => `(tactic| ((with_reducible refine ExG.out ?_); (walk_at "s1.ExG")))
local macro_rules | `(tactic| walk_at "st") => `(tactic| repeat (walk_at "s1"))
theorem loop_inv {g : DG} {tb : DTS} {E : EN} (I : DS → MS → Prop) : ∀ (xs : List D) (ds : DS) (ms : MS), I ds ms →
    (∀ x ∈ xs, ∀ ds ms, I ds ms → ∀ N : DS → MS → Prop, (∀ ds' ms', I ds' ms' → N ds' ms') → g x ds fun ds1 => tb (EN.lp E N) ds1 ms) →
    (∀ ds ms, I ds ms → E.nx ds ms) → loopD g tb E xs ds ms
  | [], ds, ms, h, _, q => q ds ms h
  | x :: r, ds, ms, h, t, q => t x List.mem_cons_self ds ms h _ fun ds' ms' h' => loop_inv I r ds' ms' h' (fun y hy => t y (List.mem_cons_of_mem _ hy)) q
theorem cut_to {α : Type} (xs : List α) (n : Nat) (h : n ≤ xs.length) : cutL xs none (some (n : Int)) = xs.take n := by
  unfold cutL
  rw [show HT.sIx xs.length xs.length (some (n : Int)) = min n xs.length from HT.sIx_nat _ _ n, HT.sIx_none, Nat.min_eq_left h]
  rfl
/-- a fraction so large -/
structure FB (n m : Nat) (t : Int × Int) : Prop where
  top : Bd n t.1
  bot : Bd m t.2
  pos : 0 < t.2
  nil : t.1 = 0 → t.2 = 1
theorem FB.mono {n m n' m' : Nat} {t : Int × Int} (h : FB n m t) (h1 : n ≤ n') (h2 : m ≤ m') : FB n' m' t := ⟨h.top.mono h1, h.bot.mono h2, h.pos, h.nil⟩
theorem FB.ne {n m : Nat} {t : Int × Int} (h : FB n m t) : t.2 ≠ 0 := by have := h.pos; omega
structure Low (p : Int × Int) : Prop where
  pos : 0 < p.2
  cop : Int.gcd p.1 p.2 = 1
theorem Low.ne {p : Int × Int} (h : Low p) : p.2 ≠ 0 := by have := h.pos; omega
inductive Any (c : Bool) (n L : Nat) : Nat → D → Prop
  | non {k : Nat} : Any c n L k .non
  | bl {k : Nat} (b : Bool) : Any c n L k (.bl b)
  | int {k : Nat} {i : Int} : Bd n i → Any c n L k (.int i)
  | str {k : Nat} {x : Str} : x.length ≤ L → x.cps.all (· < 0x110000) = true → Any c n L k (.str x)
  | edic {k : Nat} : c = true → Any c n L k .edic
  | lst {k : Nat} {xs : List D} : xs.length ≤ L → (∀ x ∈ xs, Any c n L k x) → Any c n L (k + 1) (.lst xs)
  | tup {k : Nat} {xs : List D} : xs.length ≤ L → (∀ x ∈ xs, Any c n L k x) → Any c n L (k + 1) (.tup xs)
theorem Any.mono {c c' : Bool} {n n' L L' k : Nat} {d : D} (h : Any c n L k d) (hc : c = true → c' = true) (hn : n ≤ n') (hL : L ≤ L') : ∀ {k' : Nat}, k ≤ k' → Any c' n' L' k' d := by
  induction h with
  | non => intro k' _; exact .non
  | bl b => intro k' _; exact .bl b
  | int h => intro k' _; exact .int (h.mono hn)
  | str h1 h2 => intro k' _; exact .str (by omega) h2
  | edic h => intro k' _; exact .edic (hc h)
  | lst h1 h2 ih =>
    intro k' hk
    obtain ⟨j, rfl⟩ : ∃ j, k' = j + 1 := ⟨k' - 1, by omega⟩
    exact .lst (by omega) fun x hx => ih x hx (by omega)
  | tup h1 h2 ih =>
    intro k' hk
    obtain ⟨j, rfl⟩ : ∃ j, k' = j + 1 := ⟨k' - 1, by omega⟩
    exact .tup (by omega) fun x hx => ih x hx (by omega)
theorem Any.ty {c : Bool} {n L k : Nat} {d : D} (h : Any c n L k d) : ∃ a, tyD d = some a := by cases h <;> exact ⟨_, rfl⟩
/-- any data: ints below 2 ^ n -/
structure AnyX (n : Nat) (d : D) : Prop where
  ex : ∃ k, Any true n 1000 k d
theorem AnyX.ty {n : Nat} {d : D} (h : AnyX n d) : ∃ a, tyD d = some a := h.ex.elim fun _ h => h.ty
theorem AnyX.mono {n n' : Nat} {d : D} (h : AnyX n d) (hn : n ≤ n') : AnyX n' d := h.ex.elim fun k h => ⟨k, h.mono id hn (Nat.le_refl _) (Nat.le_refl _)⟩
theorem AnyX.lst {n : Nat} {xs : List D} (h : AnyX n (.lst xs)) : xs.length ≤ 1000 ∧ ∀ x ∈ xs, AnyX n x := h.ex.elim fun k h => by
  cases h with
  | lst h1 h2 => exact ⟨h1, fun x hx => ⟨_, h2 x hx⟩⟩
theorem AnyX.tup {n : Nat} {xs : List D} (h : AnyX n (.tup xs)) : xs.length ≤ 1000 ∧ ∀ x ∈ xs, AnyX n x := h.ex.elim fun k h => by
  cases h with
  | tup h1 h2 => exact ⟨h1, fun x hx => ⟨_, h2 x hx⟩⟩
theorem AnyX.int {n : Nat} {i : Int} (h : AnyX n (.int i)) : Bd n i := h.ex.elim fun k h => by
  cases h with
  | int h => exact h
local macro_rules | `(tactic| walk_at "s1") => `(tactic| (with_reducible refine w_mRevL ?_))
local macro_rules | `(tactic| walk_at "s1.ExG") => `(tactic| (with_reducible refine w_revL ?_))
/-- a wish: least or just -/
def wdD (j : Bool) : D := .str (if j then "just" else "least")
/-- wishes, as they are drawn -/
structure Wi where
  j : Bool
  l : Int
  fs : List Int
def wiD (w : Wi) : D := .tup [wdD w.j, .lst (.int w.l :: w.fs.map D.int)]
def Wi.ls (w : Wi) : List Int := w.l :: w.fs
theorem wiD_ls (w : Wi) : wiD w = .tup [wdD w.j, .lst (w.ls.map D.int)] := rfl
structure Rw where
  s : Int
  t : Int
  ws : List Wi
def rwD (r : Rw) : D := .tup [.int r.s, .int r.t, .lst (r.ws.map wiD)]
structure Pg where
  nm : List Str
  pm : List Str
  rs : List Rw
def pgD (g : Pg) : D := .tup [.lst (g.nm.map D.str), .lst (g.pm.map D.str), .lst (g.rs.map rwD)]
/-- a name: one to six small letters -/
def goodNm (x : Str) : Bool := decide (1 ≤ x.length) && decide (x.length ≤ 6) && x.cps.toList.all fun c => decide (97 ≤ c) && decide (c < 123)
structure NmOk (most : Nat) (xs : List Str) : Prop where
  l1 : 1 ≤ xs.length
  l2 : xs.length ≤ most
  nd : xs.Nodup
  ok : ∀ x ∈ xs, goodNm x = true
structure WiOk (B n : Nat) (w : Wi) : Prop where
  bd : ∀ x ∈ w.ls, Bd B x
  ln : w.fs.length = n
structure RwOk (B sz pl : Nat) (r : Rw) : Prop where
  s0 : 0 ≤ r.s
  s1 : r.s < pl
  t0 : 0 ≤ r.t
  t1 : r.t < pl
  wl : r.ws.length ≤ 12
  wo : ∀ w ∈ r.ws, WiOk B (2 * sz) w
structure PgOk (B : Nat) (g : Pg) : Prop where
  nm : NmOk 3 g.nm
  pm : NmOk 6 g.pm
  rl : g.rs.length ≤ 10
  ro : ∀ r ∈ g.rs, RwOk B g.nm.length g.pm.length r
theorem WiOk.mono {B B' n : Nat} {w : Wi} (h : WiOk B n w) (hb : B ≤ B') : WiOk B' n w := ⟨fun x hx => (h.bd x hx).mono hb, h.ln⟩
/-- the number of one of so many -/
def isAt (n : Int) (d : D) : Bool := match d with
  | .int i => decide (0 ≤ i) && decide (i < n)
  | _ => false
theorem nm_ok {x : Str} (h : goodNm x = true) : x.cps.all (· < 0x110000) = true := by
  unfold goodNm at h
  rw [Bool.and_eq_true_iff, Bool.and_eq_true_iff] at h
  obtain ⟨⟨h1, h2⟩, h3⟩ := h
  rw [Array.all_eq_true']
  intro c hc
  have h4 := List.all_eq_true.mp h3 c (Array.mem_toList_iff.mpr hc)
  rw [Bool.and_eq_true_iff] at h4
  have h5 := of_decide_eq_true h4.2
  exact decide_eq_true (by omega)
theorem enum_mem {α : Type} {f : α → D} {xs : List α} {d : D} (h : d ∈ enumD (xs.map f)) : ∃ (k : Nat) (hk : k < xs.length), d = .tup [.int (k : Int), f xs[k]] := by
  unfold enumD at h
  obtain ⟨k, hk, e⟩ := List.mem_iff_getElem.mp h
  rw [List.length_zipWith, rng_len, List.length_map] at hk
  have hk' : k < xs.length := by omega
  refine ⟨k, hk', ?_⟩
  rw [List.getElem_zipWith] at e
  rw [← e]
  unfold rng
  simp
theorem size_ok {n : Nat} (h : n ≤ 1000) : n ≤ sizeLine := Nat.le_trans h (by decide)
theorem all_true {α : Type} (f : α → D) (hf : ∀ x, f x = .bl true) : ∀ xs : List α, ∃ bs, blsOf (xs.map f) = some bs ∧ bs.all id = true
  | [] => ⟨[], rfl, rfl⟩
  | x :: r => by
    obtain ⟨bs, e, h⟩ := all_true f hf r
    exact ⟨true :: bs, by rw [List.map_cons, hf x]; unfold blsOf; rw [e]; rfl, h⟩
structure Gds (xs : List D) (n k : Nat) : Prop where
  pl : plains xs = true
  ex : ∃ ps, toPys xs = some ps ∧ lay1s ps = true ∧ PyData.showableAll ps = true ∧ wts ps ≤ n ∧ PyData.depthAll ps ≤ k
theorem gds_nil {k : Nat} : Gds [] 0 k := ⟨rfl, [], rfl, rfl, rfl, Nat.zero_le _, Nat.zero_le _⟩
theorem gds_cons {x : D} {r : List D} {n m k : Nat} (h : Gd x n k) (t : Gds r m k) : Gds (x :: r) (n + 2 + m) k := by
  obtain ⟨p, a, b, c, e, f⟩ := h.sd.ex
  obtain ⟨pt, ps, a2, b2, c2, e2, f2⟩ := t
  refine ⟨Bool.and_eq_true_iff.mpr ⟨h.pl, pt⟩, p :: ps, by unfold toPys; rw [a, a2], Bool.and_eq_true_iff.mpr ⟨b, b2⟩, Bool.and_eq_true_iff.mpr ⟨c, c2⟩, ?_, Nat.max_le.mpr ⟨f, f2⟩⟩
  show wt p + 2 + wts ps ≤ n + 2 + m
  omega
theorem gd_tupS {xs : List D} {n k : Nat} (h : Gds xs n k) : Gd (.tup xs) (n + 10) (k + 1) := by
  obtain ⟨pt, ps, a, b, c, e, f⟩ := h
  refine ⟨pt, .tuple ps, by unfold toPy; rw [a]; rfl, b, c, ?_, Nat.succ_le_succ f⟩
  show wts ps + 10 ≤ _
  omega
theorem gd_nm {x : Str} (h : goodNm x = true) : Gd (.str x) 70 0 := by
  have h0 := nm_ok h
  unfold goodNm at h
  rw [Bool.and_eq_true_iff, Bool.and_eq_true_iff] at h
  have h2 := of_decide_eq_true h.1.2
  exact (gd_str x h0).mono (by omega) (by decide)
theorem gd_ints {n : Nat} {is : List Int} (h : ∀ i ∈ is, Bd n i) (hn : n ≤ 1900 := by decide) : ∀ x ∈ is.map D.int, Gd x 2000 0 := fun x hx => by
  obtain ⟨i, hi, rfl⟩ := List.mem_map.mp hx
  exact gd_int (h i hi) hn
theorem gd_line {n m : Nat} {is : List Int} (h : ∀ i ∈ is, Bd n i) (hl : is.length ≤ m) (hn : n ≤ 1900 := by decide) : Gd (.lst (is.map D.int)) (2002 * m + 10) 1 :=
  (gd_lst (gd_ints h hn)).mono (by rw [List.length_map]; exact Nat.add_le_add_right (Nat.mul_le_mul_left _ hl) _) (by decide)
theorem gd_wi {B n : Nat} {w : Wi} (h : WiOk B n w) (hn : n ≤ 6) (hB : B ≤ 1900 := by decide) : Gd (wiD w) 14200 2 := by
  have g1 := gd_line (m := 7) h.bd (by have := h.ln; show w.fs.length + 1 ≤ 7; omega) hB
  have g2 : Gd (wdD w.j) 60 0 := by
    unfold wdD
    cases w.j
    · exact (gd_lit "least").mono (by decide +kernel) (by decide)
    · exact (gd_lit "just").mono (by decide +kernel) (by decide)
  rw [wiD_ls]
  exact (gd_tupS (gds_cons (g2.mono (Nat.le_refl _) (by decide)) (gds_cons g1 gds_nil))).mono (by decide) (by decide)
theorem gd_rw {B sz pl : Nat} {r : Rw} (h : RwOk B sz pl r) (hsz : sz ≤ 3) (hpl : pl ≤ 6) (hB : B ≤ 1900 := by decide) : Gd (rwD r) 175000 4 := by
  have g1 : Gd (.lst (r.ws.map wiD)) 170434 3 := by
    refine (gd_lst (n := 14200) (k := 2) fun x hx => ?_).mono ?_ (by decide)
    · obtain ⟨w, hw, rfl⟩ := List.mem_map.mp hx
      exact gd_wi (h.wo w hw) (by omega) hB
    · have := h.wl
      rw [List.length_map]; omega
  have g2 : ∀ i : Int, 0 ≤ i → i < pl → Gd (.int i) 2000 3 := fun i h0 h1 => (gd_int (n := 3) (by unfold Bd; omega)).mono (by decide) (by decide)
  exact (gd_tupS (gds_cons (g2 _ h.s0 h.s1) (gds_cons (g2 _ h.t0 h.t1) (gds_cons g1 gds_nil)))).mono (by decide) (by decide)
theorem gd_nms {most : Nat} {xs : List Str} (h : NmOk most xs) (hm : most ≤ 6) : Gd (.lst (xs.map D.str)) 442 1 := by
  refine (gd_lst (n := 70) (k := 0) fun x hx => ?_).mono ?_ (by decide)
  · obtain ⟨s, hs, rfl⟩ := List.mem_map.mp hx
    exact gd_nm (h.ok s hs)
  · have := h.l2
    rw [List.length_map]; omega
theorem gd_pg {B : Nat} {g : Pg} (h : PgOk B g) (hB : B ≤ 1900 := by decide) : Gd (pgD g) 1800000 6 := by
  have g1 : Gd (.lst (g.rs.map rwD)) 1750030 5 := by
    refine (gd_lst (n := 175000) (k := 4) fun x hx => ?_).mono ?_ (by decide)
    · obtain ⟨r, hr, rfl⟩ := List.mem_map.mp hx
      exact gd_rw (h.ro r hr) h.nm.l2 h.pm.l2 hB
    · have := h.rl
      rw [List.length_map]; omega
  exact (gd_tupS (gds_cons ((gd_nms h.nm (by decide)).mono (Nat.le_refl _) (by decide)) (gds_cons ((gd_nms h.pm (by decide)).mono (Nat.le_refl _) (by decide)) (gds_cons g1 gds_nil)))).mono (by decide) (by decide)
def mStarA (da : DA) (ds : DS) (d : D) (m : MS) (P : List D → MS → Prop) : Prop := match asT d m with
  | some xs => da ds m fun ys m2 => P (xs ++ ys) m2
  | none => False
theorem w_aStar {de : DE} {da : DA} {ds : DS} {ms : MS} {P : List D → MS → Prop} (h : ExG de ds ms fun d m => mStarA da ds d m P) : ArG (aStar de da) ds ms P := h
theorem w_mStarA {da : DA} {ds : DS} {m : MS} {xs : List D} {P : List D → MS → Prop} (h : ArG da ds m fun ys m2 => P (xs ++ ys) m2) : mStarA da ds (.lst xs) m P := h
local macro_rules | `(tactic| walk_at "s1") => `(tactic| (with_reducible refine w_mStarA ?_))
local macro_rules | `(tactic| walk_at "s1") => `(tactic| (with_reducible refine w_aStar ?_))
local macro_rules | `(tactic| walk_at "s1") => `(tactic| ((with_reducible refine' w_mClear ?wa ?wb ?wz); (case wa => (first | assumption | exact look_new)); (case wb => (first | exact put_new | rfl))))
local macro_rules | `(tactic| walk_at "s1") => `(tactic| ((with_reducible refine' w_mPickA ?wa ?wb ?wz); (case wa => rfl); (case wb => rfl)))
local macro_rules | `(tactic| walk_at "s1") => `(tactic| (with_reducible refine w_mPickZ1 ?_))
local macro_rules | `(tactic| walk_at "s1") => `(tactic| (with_reducible refine w_mPickZ0 ?_))
local macro_rules | `(tactic| walk_at "s1.ExG") => `(tactic| (with_reducible refine w_listR ?_))
local macro_rules | `(tactic| walk_at "s1.ExG") => `(tactic| (with_reducible refine w_clear ?_))
local macro_rules | `(tactic| walk_at "s1.ExG") => `(tactic| (with_reducible refine w_pickZ ?_))
local macro_rules | `(tactic| walk_at "s1") => `(tactic| (with_reducible refine w_mIndex ?_))
local macro_rules | `(tactic| walk_at "s1.ExG") => `(tactic| (with_reducible refine w_sortSet ?_))
local macro_rules | `(tactic| walk_at "s1.ExG") => `(tactic| (with_reducible refine w_index ?_))
open SX TL NumText
open SX TL NumText
/-- a name: small letters, no more than six -/
structure Nml (n : List Nat) : Prop where
  l1 : n ≠ []
  l6 : n.length ≤ 7
  ok : ∀ c ∈ n, (97 ≤ c ∧ c < 123) ∨ c = 39
def pt (c : Int) (n : List Nat) : List Nat := if n = [] then numL c.natAbs else if c.natAbs = 1 then n else numL c.natAbs ++ 42 :: n
def sgF (c : Int) : List Nat := if c < 0 then [45] else []
def sgM (c : Int) : List Nat := if c < 0 then [32, 45, 32] else [32, 43, 32]
abbrev Tms := List (Int × List Nat)
def tms (is : List Int) (ns : List (List Nat)) : Tms := (is.zip ns).filter fun p => !(p.1 == 0)
def acT : Tms → List Nat
  | [] => []
  | p :: r => sgF p.1 ++ pt p.1 p.2 ++ r.flatMap fun p => sgM p.1 ++ pt p.1 p.2
def txT (t : Tms) : List Nat := if t = [] then [48] else acT t
def nmD (n : List Nat) : D := .str (S n)
theorem pt_ne (c : Int) (n : List Nat) : pt c n ≠ [] := by
  unfold pt
  by_cases h : n = []
  · rw [if_pos h]; exact numL_ne _
  · rw [if_neg h]
    by_cases h1 : c.natAbs = 1
    · rw [if_pos h1]; exact h
    · rw [if_neg h1]
      intro e
      exact absurd e (by simp)
theorem acT_ne {t : Tms} (h : t ≠ []) : acT t ≠ [] := by
  cases t with
  | nil => exact absurd rfl h
  | cons p r =>
    intro e
    unfold acT at e
    have e := (List.append_eq_nil_iff.mp (List.append_eq_nil_iff.mp e).1).2
    exact pt_ne _ _ e
theorem acT_snoc {t : Tms} (h : t ≠ []) (p : Int × List Nat) : acT (t ++ [p]) = acT t ++ (sgM p.1 ++ pt p.1 p.2) := by
  cases t with
  | nil => exact absurd rfl h
  | cons q r =>
    show sgF q.1 ++ pt q.1 q.2 ++ (r ++ [p]).flatMap _ = sgF q.1 ++ pt q.1 q.2 ++ r.flatMap _ ++ _
    rw [List.flatMap_append, List.flatMap_singleton]; simp only [List.append_assoc]
theorem loop_lU {α : Type} {g : DG} {tb : DTS} {E : EN} (e : α → D) (all : List α) (I : List α → DS → MS → Prop) : ∀ (xs pre : List α) (ds : DS) (ms : MS), pre ++ xs = all → I pre ds ms →
    (∀ pre x rest ds ms, pre ++ x :: rest = all → I pre ds ms → ∀ N : DS → MS → Prop, (∀ ds' ms', I (pre ++ [x]) ds' ms' → N ds' ms') → g (e x) ds fun ds1 => tb (EN.lp E N) ds1 ms) →
    (∀ ds ms, I all ds ms → E.nx ds ms) → loopD g tb E (xs.map e) ds ms
  | [], pre, ds, ms, ha, h, _, q => q ds ms (by rw [List.append_nil] at ha; rw [← ha]; exact h)
  | x :: r, pre, ds, ms, ha, h, t, q => t pre x r ds ms ha h _ fun ds' ms' h' => loop_lU e all I r (pre ++ [x]) ds' ms' (by rw [List.append_assoc]; exact ha) h' t q
theorem zipD_mpU {α β : Type} (f : α → D) (g : β → D) : ∀ (as : List α) (bs : List β), zipD (as.map f) (bs.map g) = (as.zip bs).map fun p => .tup [f p.1, g p.2]
  | [], _ => rfl
  | _ :: _, [] => rfl
  | a :: as, b :: bs => by
    rw [List.map_cons, List.map_cons, List.zip_cons_cons, List.map_cons, ← zipD_mpU f g as bs]
    rfl
def topS (i : Nat) : Stmt := PySem.Challenge.pw_downweigh_k22_programs_written.main.body.getD i (.Pass ⟨0, 0, 0, 0⟩)
abbrev s_p_in_figures : Stmt := topS 9
theorem sc_p_in_figures : FnScope ["whole", "rest", "pieces", "piece"] ["whole"] (defScope s_p_in_figures) :=
  ⟨rfl, rfl, rfl, by decide +kernel, rfl, by decide +kernel, by decide +kernel⟩
abbrev s_p_is_figures : Stmt := topS 10
theorem sc_p_is_figures : FnScope ["text", "sign"] ["text"] (defScope s_p_is_figures) :=
  ⟨rfl, rfl, rfl, by decide +kernel, rfl, by decide +kernel, by decide +kernel⟩
abbrev s_p_of_figures : Stmt := topS 11
theorem sc_p_of_figures : FnScope ["text", "first", "whole", "at"] ["text"] (defScope s_p_of_figures) :=
  ⟨rfl, rfl, rfl, by decide +kernel, rfl, by decide +kernel, by decide +kernel⟩
abbrev s_p_is_whole : Stmt := topS 13
theorem sc_p_is_whole : FnScope ["thing"] ["thing"] (defScope s_p_is_whole) :=
  ⟨rfl, rfl, rfl, by decide +kernel, rfl, by decide +kernel, by decide +kernel⟩
abbrev s_p_look_at_many : Stmt := topS 18
theorem sc_p_look_at_many : FnScope ["many"] ["many"] (defScope s_p_look_at_many) :=
  ⟨rfl, rfl, rfl, by decide +kernel, rfl, by decide +kernel, by decide +kernel⟩
abbrev s_p_is_line : Stmt := topS 19
theorem sc_p_is_line : FnScope ["many", "thing", "part"] ["many", "thing"] (defScope s_p_is_line) :=
  ⟨rfl, rfl, rfl, by decide +kernel, rfl, by decide +kernel, by decide +kernel⟩
abbrev s_p_is_wish : Stmt := topS 20
theorem sc_p_is_wish : FnScope ["many", "thing", "word", "line"] ["many", "thing"] (defScope s_p_is_wish) :=
  ⟨rfl, rfl, rfl, by decide +kernel, rfl, by decide +kernel, by decide +kernel⟩
abbrev s_p_shown_size : Stmt := topS 24
theorem sc_p_shown_size : FnScope ["size", "name"] ["size", "name"] (defScope s_p_shown_size) :=
  ⟨rfl, rfl, rfl, by decide +kernel, rfl, by decide +kernel, by decide +kernel⟩
abbrev s_p_shown_line : Stmt := topS 25
theorem sc_p_shown_line : FnScope ["names", "line", "text", "number", "name", "sign"] ["names", "line"] (defScope s_p_shown_line) :=
  ⟨rfl, rfl, rfl, by decide +kernel, rfl, by decide +kernel, by decide +kernel⟩
abbrev s_p_shown_wish : Stmt := topS 26
theorem sc_p_shown_wish : FnScope ["names", "wish", "word", "line"] ["names", "wish"] (defScope s_p_shown_wish) :=
  ⟨rfl, rfl, rfl, by decide +kernel, rfl, by decide +kernel, by decide +kernel⟩
abbrev s_p_read_size : Stmt := topS 27
theorem sc_p_read_size : FnScope ["spots", "text", "size", "star", "name"] ["spots", "text"] (defScope s_p_read_size) :=
  ⟨rfl, rfl, rfl, by decide +kernel, rfl, by decide +kernel, by decide +kernel⟩
abbrev s_p_read_signs : Stmt := topS 28
theorem sc_p_read_signs : FnScope ["words", "below", "told", "sign", "size"] ["words"] (defScope s_p_read_signs) :=
  ⟨rfl, rfl, rfl, by decide +kernel, rfl, by decide +kernel, by decide +kernel⟩
abbrev s_p_read_line : Stmt := topS 29
theorem sc_p_read_line : FnScope ["names", "text", "at", "spots", "line", "below", "words", "size", "name"] ["names", "text"] (defScope s_p_read_line) :=
  ⟨rfl, rfl, rfl, by decide +kernel, rfl, by decide +kernel, by decide +kernel⟩
abbrev s_p_read_wish : Stmt := topS 30
theorem sc_p_read_wish : FnScope ["names", "text"] ["names", "text"] (defScope s_p_read_wish) :=
  ⟨rfl, rfl, rfl, by decide +kernel, rfl, by decide +kernel, by decide +kernel⟩
abbrev s_p_is_one_of : Stmt := topS 32
theorem sc_p_is_one_of : FnScope ["many", "thing"] ["many", "thing"] (defScope s_p_is_one_of) :=
  ⟨rfl, rfl, rfl, by decide +kernel, rfl, by decide +kernel, by decide +kernel⟩
abbrev s_p_is_letters : Stmt := topS 40
theorem sc_p_is_letters : FnScope ["thing", "most", "sign"] ["thing", "most"] (defScope s_p_is_letters) :=
  ⟨rfl, rfl, rfl, by decide +kernel, rfl, by decide +kernel, by decide +kernel⟩
abbrev s_p_is_name : Stmt := topS 41
theorem sc_p_is_name : FnScope ["thing"] ["thing"] (defScope s_p_is_name) :=
  ⟨rfl, rfl, rfl, by decide +kernel, rfl, by decide +kernel, by decide +kernel⟩
abbrev s_p_look_at_names : Stmt := topS 42
theorem sc_p_look_at_names : FnScope ["part", "thing", "most", "at", "name"] ["part", "thing", "most"] (defScope s_p_look_at_names) :=
  ⟨rfl, rfl, rfl, by decide +kernel, rfl, by decide +kernel, by decide +kernel⟩
abbrev s_p_is_wishes : Stmt := topS 43
theorem sc_p_is_wishes : FnScope ["many", "thing", "wish"] ["many", "thing"] (defScope s_p_is_wishes) :=
  ⟨rfl, rfl, rfl, by decide +kernel, rfl, by decide +kernel, by decide +kernel⟩
abbrev s_p_is_row : Stmt := topS 44
theorem sc_p_is_row : FnScope ["names", "places", "thing", "start", "to", "wishes"] ["names", "places", "thing"] (defScope s_p_is_row) :=
  ⟨rfl, rfl, rfl, by decide +kernel, rfl, by decide +kernel, by decide +kernel⟩
abbrev s_p_look_at_rows : Stmt := topS 45
theorem sc_p_look_at_rows : FnScope ["names", "places", "thing", "at", "row"] ["names", "places", "thing"] (defScope s_p_look_at_rows) :=
  ⟨rfl, rfl, rfl, by decide +kernel, rfl, by decide +kernel, by decide +kernel⟩
abbrev s_p_look_at : Stmt := topS 46
theorem sc_p_look_at : FnScope ["thing", "names", "places", "rows"] ["thing"] (defScope s_p_look_at) :=
  ⟨rfl, rfl, rfl, by decide +kernel, rfl, by decide +kernel, by decide +kernel⟩
abbrev s_p_both_sides : Stmt := topS 52
theorem sc_p_both_sides : FnScope ["names", "name"] ["names"] (defScope s_p_both_sides) :=
  ⟨rfl, rfl, rfl, by decide +kernel, rfl, by decide +kernel, by decide +kernel⟩
abbrev s_p_shown_program : Stmt := topS 53
theorem sc_p_shown_program : FnScope ["program", "names", "places", "rows", "texts", "start", "to", "wishes", "wish"] ["program"] (defScope s_p_shown_program) :=
  ⟨rfl, rfl, rfl, by decide +kernel, rfl, by decide +kernel, by decide +kernel⟩
abbrev s_p_read_names : Stmt := topS 54
theorem sc_p_read_names : FnScope ["word", "most", "texts", "at", "words"] ["word", "most", "texts", "at"] (defScope s_p_read_names) :=
  ⟨rfl, rfl, rfl, by decide +kernel, rfl, by decide +kernel, by decide +kernel⟩
abbrev s_p_read_way : Stmt := topS 55
theorem sc_p_read_way : FnScope ["places", "text", "words"] ["places", "text"] (defScope s_p_read_way) :=
  ⟨rfl, rfl, rfl, by decide +kernel, rfl, by decide +kernel, by decide +kernel⟩
abbrev s_p_read_wish_at : Stmt := topS 56
theorem sc_p_read_wish_at : FnScope ["names", "texts", "at"] ["names", "texts", "at"] (defScope s_p_read_wish_at) :=
  ⟨rfl, rfl, rfl, by decide +kernel, rfl, by decide +kernel, by decide +kernel⟩
abbrev s_p_read_rows : Stmt := topS 57
theorem sc_p_read_rows : FnScope ["names", "places", "texts", "rows", "at", "way"] ["names", "places", "texts"] (defScope s_p_read_rows) :=
  ⟨rfl, rfl, rfl, by decide +kernel, rfl, by decide +kernel, by decide +kernel⟩
abbrev s_p_read_program : Stmt := topS 58
theorem sc_p_read_program : FnScope ["text", "texts", "names", "places"] ["text"] (defScope s_p_read_program) :=
  ⟨rfl, rfl, rfl, by decide +kernel, rfl, by decide +kernel, by decide +kernel⟩
abbrev s_L_pool : Stmt := topS 60
theorem sc_L_pool : FnScope ["_law_script", "_law_k", "_law_cell", "_law_mixed"] ["_law_script", "_law_k"] (defScope s_L_pool) :=
  ⟨rfl, rfl, rfl, by decide +kernel, rfl, by decide +kernel, by decide +kernel⟩
abbrev s_L_take : Stmt := topS 61
theorem sc_L_take : FnScope ["_law_pool_here", "_law_many", "_law_found"] ["_law_pool_here", "_law_many"] (defScope s_L_take) :=
  ⟨rfl, rfl, rfl, by decide +kernel, rfl, by decide +kernel, by decide +kernel⟩
abbrev s_L_names : Stmt := topS 62
theorem sc_L_names : FnScope ["_law_pool_here", "_law_many", "_law_most", "_law_found", "_law_k", "_law_word", "_law_turn"] ["_law_pool_here", "_law_many", "_law_most"] (defScope s_L_names) :=
  ⟨rfl, rfl, rfl, by decide +kernel, rfl, by decide +kernel, by decide +kernel⟩
abbrev s_L_factor : Stmt := topS 63
theorem sc_L_factor : FnScope ["_law_pool_here"] ["_law_pool_here"] (defScope s_L_factor) :=
  ⟨rfl, rfl, rfl, by decide +kernel, rfl, by decide +kernel, by decide +kernel⟩
abbrev s_L_line : Stmt := topS 64
theorem sc_L_line : FnScope ["_law_pool_here", "_law_many", "_law_turn"] ["_law_pool_here", "_law_many"] (defScope s_L_line) :=
  ⟨rfl, rfl, rfl, by decide +kernel, rfl, by decide +kernel, by decide +kernel⟩
abbrev s_L_wishes : Stmt := topS 65
theorem sc_L_wishes : FnScope ["_law_pool_here", "_law_many", "_law_most", "_law_found", "_law_turn"] ["_law_pool_here", "_law_many", "_law_most"] (defScope s_L_wishes) :=
  ⟨rfl, rfl, rfl, by decide +kernel, rfl, by decide +kernel, by decide +kernel⟩
abbrev s_L_program : Stmt := topS 66
theorem sc_L_program : FnScope ["_law_pool_here", "_law_places", "_law_rows", "_law_names_here", "_law_called", "_law_told", "_law_turn", "_law_start", "_law_to"] ["_law_pool_here", "_law_places", "_law_rows"] (defScope s_L_program) :=
  ⟨rfl, rfl, rfl, by decide +kernel, rfl, by decide +kernel, by decide +kernel⟩
abbrev s_L_line_text : Stmt := topS 67
theorem sc_L_line_text : FnScope ["_law_names_here", "_law_line_here", "_law_wanted", "_law_name", "_law_factor_here", "_law_part", "_law_sign"] ["_law_names_here", "_law_line_here"] (defScope s_L_line_text) :=
  ⟨rfl, rfl, rfl, by decide +kernel, rfl, by decide +kernel, by decide +kernel⟩
abbrev s_L_wish_text : Stmt := topS 68
theorem sc_L_wish_text : FnScope ["_law_names_here", "_law_wish"] ["_law_names_here", "_law_wish"] (defScope s_L_wish_text) :=
  ⟨rfl, rfl, rfl, by decide +kernel, rfl, by decide +kernel, by decide +kernel⟩
abbrev s_L_program_text : Stmt := topS 69
theorem sc_L_program_text : FnScope ["_law_own", "_law_names_here", "_law_places", "_law_rows", "_law_both", "_law_found", "_law_start", "_law_to", "_law_wishes_here", "_law_name", "_law_wish"] ["_law_own"] (defScope s_L_program_text) :=
  ⟨rfl, rfl, rfl, by decide +kernel, rfl, by decide +kernel, by decide +kernel⟩
abbrev s_L_apart : Stmt := topS 70
theorem sc_L_apart : FnScope ["_law_told", "_law_some", "_law_row", "_law_one", "_law_total", "_law_at", "_law_word", "_law_line_here", "_law_each"] ["_law_told"] (defScope s_L_apart) :=
  ⟨rfl, rfl, rfl, by decide +kernel, rfl, by decide +kernel, by decide +kernel⟩
abbrev s_L_right : Stmt := topS 71
theorem sc_L_right : FnScope ["_law_own", "_law_wanted", "_law_kept", "_law_told", "_law_turn", "_law_found"] ["_law_own"] (defScope s_L_right) :=
  ⟨rfl, rfl, rfl, by decide +kernel, rfl, by decide +kernel, by decide +kernel⟩
abbrev s_L_near_names : Stmt := topS 72
theorem sc_L_near_names : FnScope ["_law_great", "_law_told"] [] (defScope s_L_near_names) :=
  ⟨rfl, rfl, rfl, by decide +kernel, rfl, by decide +kernel, by decide +kernel⟩
abbrev s_L_law : Stmt := topS 73
theorem sc_L_law : FnScope ["_law_script", "_law_ahead", "_law_k", "_law_pool_here", "_law_own"] ["_law_script"] (defScope s_L_law) :=
  ⟨rfl, rfl, rfl, by decide +kernel, rfl, by decide +kernel, by decide +kernel⟩
abbrev s_NoText : Stmt := topS 3
theorem it_NoText : InitT (clsInit s_NoText) ["row"] where
  form := ⟨_, _, _, _, _, _, _, _, [(_, _, _, _)], rfl, rfl, fun _ => ⟨_, rfl⟩⟩
  k1 := rfl
  k2 := rfl
  k3 := rfl
  k4 := by decide +kernel
  k5 := rfl
  k6 := by decide +kernel
  k7 := rfl
  k8 := rfl
  k9 := ⟨_, rfl, rfl⟩
  bind := fun _ _ _ _ _ _ _ _ _ v us hu => match us, hu with | [_], _ => rfl
  dist := by decide +kernel
local macro_rules | `(tactic| walk_at "lk") => `(tactic| simp only [Option.isSome_some, true_and])
abbrev bm_ValueError : List Value := [.type "ValueError", .type "Exception", .type "BaseException", .type "object"]
structure Tx (P : Program) (K : PySem.W.Frag) (mg : Str → Option Value) where
  n_abs : mg "abs" = none
  n_all : mg "all" = none
  n_bool : mg "bool" = none
  n_divmod : mg "divmod" = none
  n_enumerate : mg "enumerate" = none
  n_int : mg "int" = none
  n_isinstance : mg "isinstance" = none
  n_len : mg "len" = none
  n_list : mg "list" = none
  n_max : mg "max" = none
  n_min : mg "min" = none
  n_range : mg "range" = none
  n_repr : mg "repr" = none
  n_reversed : mg "reversed" = none
  n_str : mg "str" = none
  n_sum : mg "sum" = none
  n_tuple : mg "tuple" = none
  n_zip : mg "zip" = none
  u_ABOVE_PIECE : Tok
  c_ABOVE_PIECE : mg "ABOVE_PIECE" = some (.int (1000000000000000000000000000000000000000000000000000000000000) u_ABOVE_PIECE)
  u_AT_LEAST : Tok
  c_AT_LEAST : mg "AT_LEAST" = some (.str " >= 0" u_AT_LEAST)
  u_BEHIND : Tok
  c_BEHIND : mg "BEHIND" = some (.str "'" u_BEHIND)
  u_FIGURES : Tok
  c_FIGURES : mg "FIGURES" = some (.str "0123456789" u_FIGURES)
  u_JUST : Tok
  c_JUST : mg "JUST" = some (.str "just" u_JUST)
  u_JUST_SO : Tok
  c_JUST_SO : mg "JUST_SO" = some (.str " = 0" u_JUST_SO)
  u_LEAST : Tok
  c_LEAST : mg "LEAST" = some (.str "least" u_LEAST)
  u_LETTERS : Tok
  c_LETTERS : mg "LETTERS" = some (.str "abcdefghijklmnopqrstuvwxyz" u_LETTERS)
  u_LONGEST_NAME : Tok
  c_LONGEST_NAME : mg "LONGEST_NAME" = some (.int (6) u_LONGEST_NAME)
  u_MOST_NAMES : Tok
  c_MOST_NAMES : mg "MOST_NAMES" = some (.int (3) u_MOST_NAMES)
  u_MOST_NUMBERS : Tok
  c_MOST_NUMBERS : mg "MOST_NUMBERS" = some (.int (8) u_MOST_NUMBERS)
  u_MOST_PLACES : Tok
  c_MOST_PLACES : mg "MOST_PLACES" = some (.int (6) u_MOST_PLACES)
  u_MOST_ROWS : Tok
  c_MOST_ROWS : mg "MOST_ROWS" = some (.int (10) u_MOST_ROWS)
  u_MOST_WISHES : Tok
  c_MOST_WISHES : mg "MOST_WISHES" = some (.int (12) u_MOST_WISHES)
  u_NUMBERS : Tok
  c_NUMBERS : mg "NUMBERS" = some (.str "numbers" u_NUMBERS)
  u_PIECE : Tok
  c_PIECE : mg "PIECE" = some (.int (60) u_PIECE)
  u_PLACES : Tok
  c_PLACES : mg "PLACES" = some (.str "places" u_PLACES)
  u_ROW : Tok
  c_ROW : mg "ROW" = some (.str "row" u_ROW)
  e_NoProgram : Addr
  gx_NoProgram : mg "NoProgram" = some (.ref e_NoProgram)
  x_NoProgram : ExB K "NoProgram" e_NoProgram
  e_NoText : Addr
  gx_NoText : mg "NoText" = some (.ref e_NoText)
  x_NoText : ExB K "NoText" e_NoText
  fi_NoText : Addr
  cc_NoText : Addr
  cd_NoText : Addr
  fd_NoText : FuncData
  i_NoText : ExI P K "NoText" e_NoText fi_NoText cc_NoText cd_NoText "ValueError" "ValueError.__new__" "ValueError.__init__" bm_ValueError ["row"]
  j_NoText : InitF K fi_NoText cc_NoText cd_NoText ["row"] fd_NoText
  f_p_in_figures : Addr
  d_p_in_figures : FuncData
  F_p_in_figures : Fun K "in_figures" "in_figures" s_p_in_figures f_p_in_figures d_p_in_figures
  g_p_in_figures : mg "in_figures" = some (.ref f_p_in_figures)
  f_p_is_figures : Addr
  d_p_is_figures : FuncData
  F_p_is_figures : Fun K "is_figures" "is_figures" s_p_is_figures f_p_is_figures d_p_is_figures
  g_p_is_figures : mg "is_figures" = some (.ref f_p_is_figures)
  f_p_of_figures : Addr
  d_p_of_figures : FuncData
  F_p_of_figures : Fun K "of_figures" "of_figures" s_p_of_figures f_p_of_figures d_p_of_figures
  g_p_of_figures : mg "of_figures" = some (.ref f_p_of_figures)
  f_p_is_whole : Addr
  d_p_is_whole : FuncData
  F_p_is_whole : Fun K "is_whole" "is_whole" s_p_is_whole f_p_is_whole d_p_is_whole
  g_p_is_whole : mg "is_whole" = some (.ref f_p_is_whole)
  f_p_look_at_many : Addr
  d_p_look_at_many : FuncData
  F_p_look_at_many : Fun K "look_at_many" "look_at_many" s_p_look_at_many f_p_look_at_many d_p_look_at_many
  g_p_look_at_many : mg "look_at_many" = some (.ref f_p_look_at_many)
  f_p_is_line : Addr
  d_p_is_line : FuncData
  F_p_is_line : Fun K "is_line" "is_line" s_p_is_line f_p_is_line d_p_is_line
  g_p_is_line : mg "is_line" = some (.ref f_p_is_line)
  f_p_is_wish : Addr
  d_p_is_wish : FuncData
  F_p_is_wish : Fun K "is_wish" "is_wish" s_p_is_wish f_p_is_wish d_p_is_wish
  g_p_is_wish : mg "is_wish" = some (.ref f_p_is_wish)
  f_p_shown_size : Addr
  d_p_shown_size : FuncData
  F_p_shown_size : Fun K "shown_size" "shown_size" s_p_shown_size f_p_shown_size d_p_shown_size
  g_p_shown_size : mg "shown_size" = some (.ref f_p_shown_size)
  f_p_shown_line : Addr
  d_p_shown_line : FuncData
  F_p_shown_line : Fun K "shown_line" "shown_line" s_p_shown_line f_p_shown_line d_p_shown_line
  g_p_shown_line : mg "shown_line" = some (.ref f_p_shown_line)
  f_p_shown_wish : Addr
  d_p_shown_wish : FuncData
  F_p_shown_wish : Fun K "shown_wish" "shown_wish" s_p_shown_wish f_p_shown_wish d_p_shown_wish
  g_p_shown_wish : mg "shown_wish" = some (.ref f_p_shown_wish)
  f_p_read_size : Addr
  d_p_read_size : FuncData
  F_p_read_size : Fun K "read_size" "read_size" s_p_read_size f_p_read_size d_p_read_size
  g_p_read_size : mg "read_size" = some (.ref f_p_read_size)
  f_p_read_signs : Addr
  d_p_read_signs : FuncData
  F_p_read_signs : Fun K "read_signs" "read_signs" s_p_read_signs f_p_read_signs d_p_read_signs
  g_p_read_signs : mg "read_signs" = some (.ref f_p_read_signs)
  f_p_read_line : Addr
  d_p_read_line : FuncData
  F_p_read_line : Fun K "read_line" "read_line" s_p_read_line f_p_read_line d_p_read_line
  g_p_read_line : mg "read_line" = some (.ref f_p_read_line)
  f_p_read_wish : Addr
  d_p_read_wish : FuncData
  F_p_read_wish : Fun K "read_wish" "read_wish" s_p_read_wish f_p_read_wish d_p_read_wish
  g_p_read_wish : mg "read_wish" = some (.ref f_p_read_wish)
  f_p_is_one_of : Addr
  d_p_is_one_of : FuncData
  F_p_is_one_of : Fun K "is_one_of" "is_one_of" s_p_is_one_of f_p_is_one_of d_p_is_one_of
  g_p_is_one_of : mg "is_one_of" = some (.ref f_p_is_one_of)
  f_p_is_letters : Addr
  d_p_is_letters : FuncData
  F_p_is_letters : Fun K "is_letters" "is_letters" s_p_is_letters f_p_is_letters d_p_is_letters
  g_p_is_letters : mg "is_letters" = some (.ref f_p_is_letters)
  f_p_is_name : Addr
  d_p_is_name : FuncData
  F_p_is_name : Fun K "is_name" "is_name" s_p_is_name f_p_is_name d_p_is_name
  g_p_is_name : mg "is_name" = some (.ref f_p_is_name)
  f_p_look_at_names : Addr
  d_p_look_at_names : FuncData
  F_p_look_at_names : Fun K "look_at_names" "look_at_names" s_p_look_at_names f_p_look_at_names d_p_look_at_names
  g_p_look_at_names : mg "look_at_names" = some (.ref f_p_look_at_names)
  f_p_is_wishes : Addr
  d_p_is_wishes : FuncData
  F_p_is_wishes : Fun K "is_wishes" "is_wishes" s_p_is_wishes f_p_is_wishes d_p_is_wishes
  g_p_is_wishes : mg "is_wishes" = some (.ref f_p_is_wishes)
  f_p_is_row : Addr
  d_p_is_row : FuncData
  F_p_is_row : Fun K "is_row" "is_row" s_p_is_row f_p_is_row d_p_is_row
  g_p_is_row : mg "is_row" = some (.ref f_p_is_row)
  f_p_look_at_rows : Addr
  d_p_look_at_rows : FuncData
  F_p_look_at_rows : Fun K "look_at_rows" "look_at_rows" s_p_look_at_rows f_p_look_at_rows d_p_look_at_rows
  g_p_look_at_rows : mg "look_at_rows" = some (.ref f_p_look_at_rows)
  f_p_look_at : Addr
  d_p_look_at : FuncData
  F_p_look_at : Fun K "look_at" "look_at" s_p_look_at f_p_look_at d_p_look_at
  g_p_look_at : mg "look_at" = some (.ref f_p_look_at)
  f_p_both_sides : Addr
  d_p_both_sides : FuncData
  F_p_both_sides : Fun K "both_sides" "both_sides" s_p_both_sides f_p_both_sides d_p_both_sides
  g_p_both_sides : mg "both_sides" = some (.ref f_p_both_sides)
  f_p_shown_program : Addr
  d_p_shown_program : FuncData
  F_p_shown_program : Fun K "shown_program" "shown_program" s_p_shown_program f_p_shown_program d_p_shown_program
  g_p_shown_program : mg "shown_program" = some (.ref f_p_shown_program)
  f_p_read_names : Addr
  d_p_read_names : FuncData
  F_p_read_names : Fun K "read_names" "read_names" s_p_read_names f_p_read_names d_p_read_names
  g_p_read_names : mg "read_names" = some (.ref f_p_read_names)
  f_p_read_way : Addr
  d_p_read_way : FuncData
  F_p_read_way : Fun K "read_way" "read_way" s_p_read_way f_p_read_way d_p_read_way
  g_p_read_way : mg "read_way" = some (.ref f_p_read_way)
  f_p_read_wish_at : Addr
  d_p_read_wish_at : FuncData
  F_p_read_wish_at : Fun K "read_wish_at" "read_wish_at" s_p_read_wish_at f_p_read_wish_at d_p_read_wish_at
  g_p_read_wish_at : mg "read_wish_at" = some (.ref f_p_read_wish_at)
  f_p_read_rows : Addr
  d_p_read_rows : FuncData
  F_p_read_rows : Fun K "read_rows" "read_rows" s_p_read_rows f_p_read_rows d_p_read_rows
  g_p_read_rows : mg "read_rows" = some (.ref f_p_read_rows)
  f_p_read_program : Addr
  d_p_read_program : FuncData
  F_p_read_program : Fun K "read_program" "read_program" s_p_read_program f_p_read_program d_p_read_program
  g_p_read_program : mg "read_program" = some (.ref f_p_read_program)
  f_L_pool : Addr
  d_L_pool : FuncData
  F_L_pool : Fun K "_law_pool" "_law_pool" s_L_pool f_L_pool d_L_pool
  g_L_pool : mg "_law_pool" = some (.ref f_L_pool)
  f_L_take : Addr
  d_L_take : FuncData
  F_L_take : Fun K "_law_take" "_law_take" s_L_take f_L_take d_L_take
  g_L_take : mg "_law_take" = some (.ref f_L_take)
  f_L_names : Addr
  d_L_names : FuncData
  F_L_names : Fun K "_law_names" "_law_names" s_L_names f_L_names d_L_names
  g_L_names : mg "_law_names" = some (.ref f_L_names)
  f_L_factor : Addr
  d_L_factor : FuncData
  F_L_factor : Fun K "_law_factor" "_law_factor" s_L_factor f_L_factor d_L_factor
  g_L_factor : mg "_law_factor" = some (.ref f_L_factor)
  f_L_line : Addr
  d_L_line : FuncData
  F_L_line : Fun K "_law_line" "_law_line" s_L_line f_L_line d_L_line
  g_L_line : mg "_law_line" = some (.ref f_L_line)
  f_L_wishes : Addr
  d_L_wishes : FuncData
  F_L_wishes : Fun K "_law_wishes" "_law_wishes" s_L_wishes f_L_wishes d_L_wishes
  g_L_wishes : mg "_law_wishes" = some (.ref f_L_wishes)
  f_L_program : Addr
  d_L_program : FuncData
  F_L_program : Fun K "_law_program" "_law_program" s_L_program f_L_program d_L_program
  g_L_program : mg "_law_program" = some (.ref f_L_program)
  f_L_line_text : Addr
  d_L_line_text : FuncData
  F_L_line_text : Fun K "_law_line_text" "_law_line_text" s_L_line_text f_L_line_text d_L_line_text
  g_L_line_text : mg "_law_line_text" = some (.ref f_L_line_text)
  f_L_wish_text : Addr
  d_L_wish_text : FuncData
  F_L_wish_text : Fun K "_law_wish_text" "_law_wish_text" s_L_wish_text f_L_wish_text d_L_wish_text
  g_L_wish_text : mg "_law_wish_text" = some (.ref f_L_wish_text)
  f_L_program_text : Addr
  d_L_program_text : FuncData
  F_L_program_text : Fun K "_law_program_text" "_law_program_text" s_L_program_text f_L_program_text d_L_program_text
  g_L_program_text : mg "_law_program_text" = some (.ref f_L_program_text)
  f_L_apart : Addr
  d_L_apart : FuncData
  F_L_apart : Fun K "_law_apart" "_law_apart" s_L_apart f_L_apart d_L_apart
  g_L_apart : mg "_law_apart" = some (.ref f_L_apart)
  f_L_right : Addr
  d_L_right : FuncData
  F_L_right : Fun K "_law_right" "_law_right" s_L_right f_L_right d_L_right
  g_L_right : mg "_law_right" = some (.ref f_L_right)
  f_L_near_names : Addr
  d_L_near_names : FuncData
  F_L_near_names : Fun K "_law_near_names" "_law_near_names" s_L_near_names f_L_near_names d_L_near_names
  g_L_near_names : mg "_law_near_names" = some (.ref f_L_near_names)
  f_L_law : Addr
  d_L_law : FuncData
  F_L_law : Fun K "law" "law" s_L_law f_L_law d_L_law
  g_L_law : mg "law" = some (.ref f_L_law)
  b_L_apart_1 : Bnd K d_L_apart ["_law_told"] 1 [] [0]
  b_L_factor_1 : Bnd K d_L_factor ["_law_pool_here"] 1 [] [0]
  b_L_line_2 : Bnd K d_L_line ["_law_pool_here", "_law_many"] 2 [] [0, 1]
  b_L_line_text_2 : Bnd K d_L_line_text ["_law_names_here", "_law_line_here"] 2 [] [0, 1]
  b_L_names_3 : Bnd K d_L_names ["_law_pool_here", "_law_many", "_law_most"] 3 [] [0, 1, 2]
  b_L_near_names_0 : Bnd K d_L_near_names [] 0 [] []
  b_L_pool_2 : Bnd K d_L_pool ["_law_script", "_law_k"] 2 [] [0, 1]
  b_L_program_3 : Bnd K d_L_program ["_law_pool_here", "_law_places", "_law_rows"] 3 [] [0, 1, 2]
  b_L_program_text_1 : Bnd K d_L_program_text ["_law_own"] 1 [] [0]
  b_L_right_1 : Bnd K d_L_right ["_law_own"] 1 [] [0]
  b_L_take_2 : Bnd K d_L_take ["_law_pool_here", "_law_many"] 2 [] [0, 1]
  b_L_wish_text_2 : Bnd K d_L_wish_text ["_law_names_here", "_law_wish"] 2 [] [0, 1]
  b_L_wishes_3 : Bnd K d_L_wishes ["_law_pool_here", "_law_many", "_law_most"] 3 [] [0, 1, 2]
  b_p_both_sides_1 : Bnd K d_p_both_sides ["names"] 1 [] [0]
  b_p_in_figures_1 : Bnd K d_p_in_figures ["whole"] 1 [] [0]
  b_p_is_figures_1 : Bnd K d_p_is_figures ["text"] 1 [] [0]
  b_p_is_letters_2 : Bnd K d_p_is_letters ["thing", "most"] 2 [] [0, 1]
  b_p_is_line_2 : Bnd K d_p_is_line ["many", "thing"] 2 [] [0, 1]
  b_p_is_name_1 : Bnd K d_p_is_name ["thing"] 1 [] [0]
  b_p_is_one_of_2 : Bnd K d_p_is_one_of ["many", "thing"] 2 [] [0, 1]
  b_p_is_row_3 : Bnd K d_p_is_row ["names", "places", "thing"] 3 [] [0, 1, 2]
  b_p_is_whole_1 : Bnd K d_p_is_whole ["thing"] 1 [] [0]
  b_p_is_wish_2 : Bnd K d_p_is_wish ["many", "thing"] 2 [] [0, 1]
  b_p_is_wishes_2 : Bnd K d_p_is_wishes ["many", "thing"] 2 [] [0, 1]
  b_p_look_at_1 : Bnd K d_p_look_at ["thing"] 1 [] [0]
  b_p_look_at_many_1 : Bnd K d_p_look_at_many ["many"] 1 [] [0]
  b_p_look_at_names_3 : Bnd K d_p_look_at_names ["part", "thing", "most"] 3 [] [0, 1, 2]
  b_p_look_at_rows_3 : Bnd K d_p_look_at_rows ["names", "places", "thing"] 3 [] [0, 1, 2]
  b_p_of_figures_1 : Bnd K d_p_of_figures ["text"] 1 [] [0]
  b_p_read_line_2 : Bnd K d_p_read_line ["names", "text"] 2 [] [0, 1]
  b_p_read_names_4 : Bnd K d_p_read_names ["word", "most", "texts", "at"] 4 [] [0, 1, 2, 3]
  b_p_read_program_0_text : Bnd K d_p_read_program ["text"] 0 ["text"] [0]
  b_p_read_program_1 : Bnd K d_p_read_program ["text"] 1 [] [0]
  b_p_read_rows_3 : Bnd K d_p_read_rows ["names", "places", "texts"] 3 [] [0, 1, 2]
  b_p_read_signs_1 : Bnd K d_p_read_signs ["words"] 1 [] [0]
  b_p_read_size_2 : Bnd K d_p_read_size ["spots", "text"] 2 [] [0, 1]
  b_p_read_way_2 : Bnd K d_p_read_way ["places", "text"] 2 [] [0, 1]
  b_p_read_wish_2 : Bnd K d_p_read_wish ["names", "text"] 2 [] [0, 1]
  b_p_read_wish_at_3 : Bnd K d_p_read_wish_at ["names", "texts", "at"] 3 [] [0, 1, 2]
  b_p_shown_line_2 : Bnd K d_p_shown_line ["names", "line"] 2 [] [0, 1]
  b_p_shown_program_0_program : Bnd K d_p_shown_program ["program"] 0 ["program"] [0]
  b_p_shown_program_1 : Bnd K d_p_shown_program ["program"] 1 [] [0]
  b_p_shown_size_2 : Bnd K d_p_shown_size ["size", "name"] 2 [] [0, 1]
  b_p_shown_wish_2 : Bnd K d_p_shown_wish ["names", "wish"] 2 [] [0, 1]
section
variable {P : Program} {w : World} {K : PySem.W.Frag} {mg : Str → Option Value} {base : Heap}
def sp_p_in_figures : FS := fun ds ms P => match ds with
  | [.int i] => Bd 4000 i ∧ P (.str (S (numI i))) ms
  | _ => False
theorem len_p_in_figures : ∀ ds ms Q, sp_p_in_figures ds ms Q → ds.length = 1 := fun ds ms Q h => by
  unfold sp_p_in_figures at h
  split at h <;> first | rfl | exact h.elim
def t_p_in_figures : DTS := dSeq (dAsg (dCB cAbs (aCons (dVar 0) (aNil))) (sName 1)) (dSeq (dAsg (dLstM (aNil)) (sName 2)) (dSeq (dWhile (dTest (dOp fGe (dVar 1) (dC (.int (1000000000000000000000000000000000000000000000000000000000000))))) (dSeq (dAsg (dCB cDivmod (aCons (dVar 1) (aCons (dC (.int (1000000000000000000000000000000000000000000000000000000000000))) (aNil)))) (sTup 2 (sCons (sName 1) (sCons (sName 3) (sNil))))) (dDrop (dAppend (dVar 2) (aCons (dM1 mZfill (dCB cStr (aCons (dVar 3) (aNil))) (dC (.int 60))) (aNil)))))) (dSeq (dDrop (dAppend (dVar 2) (aCons (dCB cStr (aCons (dVar 1) (aNil))) (aNil)))) (dSeq (dIfS (dTest (dOp fLt (dVar 0) (dC (.int 0)))) (dDrop (dAppend (dVar 2) (aCons (dC (.str "-")) (aNil)))) (dNext)) (dFrzS 2 (dRet (dJoinRev (dC (.str "")) (dVar 2))))))))
theorem cdivp60 {i : Int} (h : Bd 4000 i) : CDivP i 1000000000000000000000000000000000000000000000000000000000000 := by
  refine divp_ok (by decide) ?_
  have : Builtin.Int.intBits i ≤ 4000 := by
    unfold Builtin.Int.intBits
    split
    · exact Nat.zero_le _
    · exact Bd.log h (by decide)
  omega
theorem flat60 : ∀ {zs : List (List Nat)}, (∀ z ∈ zs, z.length = 60) → zs.flatten.length = 60 * zs.length
  | [], _ => rfl
  | z :: r, h => by
    rw [List.flatten_cons, List.length_append, h z List.mem_cons_self, flat60 fun y hy => h y (List.mem_cons_of_mem _ hy), List.length_cons]
    omega
theorem flat_rev {zs : List (List Nat)} (h : ∀ z ∈ zs, z.length = 60) : zs.reverse.flatten.length = 60 * zs.length := by
  rw [flat60 fun z hz => h z (List.mem_reverse.mp hz), List.length_reverse]
theorem numN_len {N : Nat} (h : N < 2 ^ 4000) : (numL N).length ≤ 4001 := numL_len' h
theorem fig_loop {E : EN} {x0 : Option D} {q : Addr} {m : MS} {N : Nat} (hN : N < 2 ^ 4000)
    (hq : ∀ (r' : Nat) (zs' : List (List Nat)) (x3 : Option D), r' < 10 ^ 60 → (∀ z ∈ zs', z.length = 60) → numL r' ++ zs'.reverse.flatten = numL N → E.nx [x0, some (.int (r' : Nat)), some (.opq (.ref q)), x3] ((q, (zs'.map S).map D.str) :: m)) :
    ∀ (n : Nat) (r : Nat) (zs : List (List Nat)) (x3 : Option D), r < n → r ≤ N → (∀ z ∈ zs, z.length = 60) → numL r ++ zs.reverse.flatten = numL N →
    whileD (dTest (dOp fGe (dVar 1) (dC (.int (1000000000000000000000000000000000000000000000000000000000000))))) (dSeq (dAsg (dCB cDivmod (aCons (dVar 1) (aCons (dC (.int (1000000000000000000000000000000000000000000000000000000000000))) (aNil)))) (sTup 2 (sCons (sName 1) (sCons (sName 3) (sNil))))) (dDrop (dAppend (dVar 2) (aCons (dM1 mZfill (dCB cStr (aCons (dVar 3) (aNil))) (dC (.int 60))) (aNil))))) E n [x0, some (.int (r : Nat)), some (.opq (.ref q)), x3] ((q, (zs.map S).map D.str) :: m) := by
  intro n
  induction n with
  | zero => intro r zs x3 h; omega
  | succ n ih =>
    intro r zs x3 h hr hz he
    refine w_whS ?_
    walk_at "st"
    by_cases h60 : 10 ^ 60 ≤ r
    · refine w_iteT (decide_eq_true (by omega)) ?_
      walk_at "st"
      have hB : Bd 4000 (r : Int) := by
        unfold Bd
        exact Nat.lt_of_le_of_lt (by omega : (r : Int).natAbs ≤ N) hN
      refine ⟨cdivp60 hB, ?_⟩
      have e1 : (r : Int) / 1000000000000000000000000000000000000000000000000000000000000 = ((r / 10 ^ 60 : Nat) : Int) := by omega
      have e2 : (r : Int) % 1000000000000000000000000000000000000000000000000000000000000 = ((r % 10 ^ 60 : Nat) : Int) := by omega
      rw [e1, e2]
      have hm : r % 10 ^ 60 < 10 ^ 60 := Nat.mod_lt _ (by decide)
      generalize hp : r % 10 ^ 60 = p at hm
      generalize hd : r / 10 ^ 60 = d
      have hd2 : d < r := by omega
      walk_at "st"
      have hpB : Bd 200 (p : Int) := by
        unfold Bd
        have : (10 : Nat) ^ 60 < 2 ^ 200 := by decide +kernel
        omega
      refine ⟨(gd_int hpB).sd.shw, ?_⟩
      rw [repS_int]
      have e3 : numI (p : Int) = numL p := by unfold numI; rw [if_neg (by omega)]; rfl
      rw [e3]
      walk_at "st"
      refine ⟨by decide +kernel, ?_⟩
      rw [zfill_num hm]
      walk_at "st"
      have hlz : 60 * zs.length ≤ 4001 := by
        have h1 := numN_len hN
        have h2 := congrArg List.length he
        rw [List.length_append, flat_rev hz] at h2
        omega
      refine ⟨Nat.lt_of_le_of_lt (by rw [List.length_map, List.length_map]; omega : ((zs.map S).map D.str).length ≤ 1000) (by decide), ?_⟩
      walk_at "st"
      have e4 : (zs.map S).map D.str ++ [D.str (S (List.replicate (60 - (numL p).length) 48 ++ numL p))] = ((zs ++ [List.replicate (60 - (numL p).length) 48 ++ numL p]).map S).map D.str := by simp
      rw [e4]
      refine ih d _ _ (by omega) (by omega) (fun z hz' => ?_) ?_
      · rcases List.mem_append.mp hz' with hz' | hz'
        · exact hz z hz'
        · rw [List.mem_singleton.mp hz']; exact zf_len hm
      · rw [List.reverse_append, List.flatten_append]
        have e5 := num_cut h60
        rw [hd, hp] at e5
        rw [← he, e5]
        simp
    · refine w_iteF (decide_eq_false (by omega)) ?_
      exact NxG.out (hq r zs x3 (by omega) hz he)
theorem joinN : ∀ parts : List (List Nat), joinL [] parts = parts.flatten
  | [] => rfl
  | [p] => by simp [joinL]
  | p :: q :: r => by
    show p ++ ([] ++ joinL [] (q :: r)) = _
    rw [joinN (q :: r), List.nil_append]
    rfl
theorem sem_p_in_figures : ∀ ds ms Q, sp_p_in_figures ds ms Q → t_p_in_figures { nx := fun _ m => Q .non m, rt := Q } (startD 4 ds) ms := by
  intro ds ms Q h
  unfold sp_p_in_figures at h
  split at h
  · rename_i i
    obtain ⟨hB, h⟩ := h
    simp only [startD]
    unfold t_p_in_figures
    walk_at "st"
    have ea : (if i < 0 then -i else i) = ((i.natAbs : Nat) : Int) := by split <;> omega
    rw [ea]
    intro q hq
    walk_at "st"
    refine w_whileN (n := i.natAbs + 1) ?_
    refine fig_loop (N := i.natAbs) hB (fun r zs x3 hr hz he => ?_) _ i.natAbs [] none (Nat.lt_succ_self _) (Nat.le_refl _) (fun z hz => by cases hz) (by simp)
    walk_at "st"
    have hrB : Bd 200 (r : Int) := by
      unfold Bd
      have : (10 : Nat) ^ 60 < 2 ^ 200 := by decide +kernel
      omega
    refine ⟨(gd_int hrB).sd.shw, ?_⟩
    rw [repS_int]
    have e3 : numI (r : Int) = numL r := by unfold numI; rw [if_neg (by omega)]; rfl
    rw [e3]
    walk_at "st"
    have hl1 := numN_len hB
    have hl2 := congrArg List.length he
    rw [List.length_append, flat_rev hz] at hl2
    refine ⟨Nat.lt_of_le_of_lt (by rw [List.length_map, List.length_map]; omega : ((zs.map S).map D.str).length ≤ 1000) (by decide), ?_⟩
    walk_at "st"
    have e4 : (zs.map S).map D.str ++ [D.str (S (numL r))] = ((zs ++ [numL r]).map S).map D.str := by simp
    rw [e4]
    have sumlen : ∀ ys : List (List Nat), (((ys.map S).reverse).map (·.length)).sum + ((ys.map S).reverse).length * (S []).length = ys.flatten.length := by
      intro ys
      rw [lenS, List.length_nil, Nat.mul_zero, Nat.add_zero, List.map_reverse, List.sum_reverse, List.map_map, List.length_flatten]
      congr 1
    have fin : ∀ (ys : List (List Nat)), ys.reverse.flatten = numI i → ys.flatten.length ≤ 10000 → mJr2 (Str.ofString "") (.lst ((ys.map S).map D.str)) ms (RtG { nx := fun _ m => Q .non m, rt := Q }) := by
      intro ys e1 e2
      rw [lit "" []]
      refine ⟨ys.map S, rfl, by rw [sumlen]; omega, ?_⟩
      rw [← List.map_reverse, join_S, joinN, e1]
      exact h
    by_cases hneg : i < 0
    · refine w_iteT (decide_eq_true hneg) ?_
      walk_at "st"
      refine ⟨Nat.lt_of_le_of_lt (by simp; omega : (((zs ++ [numL r]).map S).map D.str).length ≤ 1000) (by decide), ?_⟩
      walk_at "st"
      have e5 : ((zs ++ [numL r]).map S).map D.str ++ [D.str (Str.ofString "-")] = ((zs ++ [numL r] ++ [[45]]).map S).map D.str := by rw [lit "-" [45]]; simp
      rw [e5]
      refine fin _ ?_ ?_
      · unfold numI
        rw [if_pos hneg, ← he]
        simp
      · have := flat60 hz
        rw [List.flatten_append, List.flatten_append, List.length_append, List.length_append, this]
        simp
        omega
    · refine w_iteF (decide_eq_false hneg) ?_
      walk_at "st"
      refine fin _ ?_ ?_
      · unfold numI
        rw [if_neg hneg, ← he]
        simp
      · have := flat60 hz
        rw [List.flatten_append, List.length_append, this]
        simp
        omega
  · exact h.elim
theorem ok_p_in_figures (T : Tx P K mg) : FnG P w K mg base 1 T.f_p_in_figures T.d_p_in_figures ["whole"] (spD K sp_p_in_figures) := by
  exact fnG_of (k := 0) (t := t_p_in_figures) T.F_p_in_figures sc_p_in_figures len_p_in_figures
    (fun cdv A outer s H hr => pds_cons (pds_set (i := 1) sc_p_in_figures.nd rfl (.inl rfl) (pd_callB call_abs cal_abs rfl T.n_abs (by decide +kernel) (pda_cons (pd_var 0) (pda_nil)))) (pds_cons (pds_set (i := 2) sc_p_in_figures.nd rfl (.inl rfl) (pd_lstM (pda_nil))) (pds_cons (pds_while (pdt_cmp op_ge opd_ge (pd_var 1) (pd_glob (v := .int (1000000000000000000000000000000000000000000000000000000000000)) rfl T.c_ABOVE_PIECE ⟨_, rfl⟩ (fun _ => .int _))) (pds_cons (pds_asg (vs := [1, 3]) (pd_callB call_divmodW cal_divmod rfl T.n_divmod (by decide +kernel) (pda_cons (pd_var 1) (pda_cons (pd_glob (v := .int (1000000000000000000000000000000000000000000000000000000000000)) rfl T.c_ABOVE_PIECE ⟨_, rfl⟩ (fun _ => .int _)) (pda_nil)))) (pg_tup rfl (pgs_cons (pg_name (i := 1) sc_p_in_figures.nd rfl (.inl rfl)) (pgs_cons (pg_name (i := 3) sc_p_in_figures.nd rfl (.inl rfl)) (pgs_nil)))) (tg_tup (tgs_cons (tg_name (i := 1) (by decide)) (tgs_cons (tg_name (i := 3) (by decide)) (tgs_nil) (mon_name (i := 3))) (mon_name (i := 1))))) (pds_one (pds_expr (pd_append (pd_var 2) (pda_cons (pd_m1 PySem.F.slot_str_zfill PySem.F.type_str_zfill mt_zfill mtd_zfill (pd_callTy (call_strD hr) cal_str rfl T.n_str (by decide +kernel) (pda_cons (pd_var 3) (pda_nil))) (pd_glob (v := .int (60)) rfl T.c_PIECE ⟨_, rfl⟩ (fun _ => .int _))) (pda_nil))))))) (pds_cons (pds_expr (pd_append (pd_var 2) (pda_cons (pd_callTy (call_strD hr) cal_str rfl T.n_str (by decide +kernel) (pda_cons (pd_var 1) (pda_nil))) (pda_nil)))) (pds_cons (pds_if (pdt_cmp op_lt opd_lt (pd_var 0) (pd_int)) (pds_one (pds_expr (pd_append (pd_var 2) (pda_cons (pd_str) (pda_nil))))) (pds_nil)) (pds_one (pds_frz (i := 2) (pds_ret (pd_joinRev rfl (pd_str) rfl T.n_reversed (pd_var 2))))))))))
    sem_p_in_figures
def sp_p_is_figures : FS := fun ds ms P => match ds with
  | [.str a] => a.length ≤ 1000 ∧ P (.bl (figs a.cps.toList)) ms
  | _ => False
theorem len_p_is_figures : ∀ ds ms Q, sp_p_is_figures ds ms Q → ds.length = 1 := fun ds ms Q h => by
  unfold sp_p_is_figures at h
  split at h <;> first | rfl | exact h.elim
def t_p_is_figures : DTS := dSeq (dIfS (dOr (dTest (dOp fEq (dVar 0) (dC (.str "")))) (dNot (dTest (dCB cAll (aCons (dLc (iStrD (dVar 0)) (sName 1) (dYes) (dOp fInSign (dVar 1) (dC (.str "0123456789"))) [1]) (aNil)))))) (dRet (dC (.bl false))) (dNext)) (dRet (dOrV (dOp fEq (dVar 0) (dC (.str "0"))) (dOp fNe (dOp fIx (dVar 0) (dC (.int 0))) (dC (.str "0")))))
theorem figures_lit : (Str.ofString "0123456789").cps.toList = [48, 49, 50, 51, 52, 53, 54, 55, 56, 57] := by decide +kernel
theorem in_figures (c : Nat) : decide (c ∈ (Str.ofString "0123456789").cps.toList) = dig c := by
  rw [figures_lit]
  unfold dig
  rw [Bool.eq_iff_iff, decide_eq_true_iff, Bool.and_eq_true_iff, decide_eq_true_iff, decide_eq_true_iff]
  simp only [List.mem_cons, List.not_mem_nil, or_false]
  omega
theorem strD_S (l : List Nat) : strD (S l) = l.map fun c => D.str ⟨#[c]⟩ := rfl
theorem figs_split (l : List Nat) : figs l = (!(l == []) && (l.all dig && (l == [48] || !(l.head? == some 48)))) := by
  unfold figs
  rw [Bool.and_assoc]
  cases l <;> rfl
theorem emp_S (l : List Nat) : (S l == (Str.ofString "" : Str)) = (l == []) := by
  rw [lit "" [], S_beq]
theorem zero_S (l : List Nat) : (S l == (Str.ofString "0" : Str)) = (l == [48]) := by
  rw [lit "0" [48], S_beq]
theorem sem_p_is_figures : ∀ ds ms Q, sp_p_is_figures ds ms Q → t_p_is_figures { nx := fun _ m => Q .non m, rt := Q } (startD 2 ds) ms := by
  intro ds ms Q h
  unfold sp_p_is_figures at h
  split at h
  · rename_i a
    obtain ⟨hl, h⟩ := h
    rw [← S_tl a] at hl ⊢
    generalize a.cps.toList = l at hl h ⊢
    rw [lenS] at hl
    rw [figs_split] at h
    simp only [startD]
    unfold t_p_is_figures
    walk_at "st"
    rw [emp_S]
    cases he : l == [] with
    | true =>
      rw [he] at h
      refine w_iteT rfl ?_
      refine w_iteT rfl ?_
      walk_at "st"
      exact h
    | false =>
      rw [he] at h
      refine w_iteF rfl ?_
      walk_at "st"
      simp only [wipeD, List.set]
      rw [strD_S]
      refine comp_e (fun c => D.str ⟨#[c]⟩) (fun c => D.bl (dig c)) l [] _ (by simp; omega) (fun c hc P0 q => ?_) ?_
      · walk_at "st"
        rw [in_figures]
        exact q
      · rw [List.nil_append]
        walk_at "st"
        refine w_all (bls_map dig l) ?_
        rw [show (l.map dig).all id = l.all dig by rw [List.all_map]; rfl]
        walk_at "st"
        cases ha : l.all dig with
        | false =>
          rw [ha] at h
          refine w_iteT rfl ?_
          walk_at "st"
          exact h
        | true =>
          rw [ha] at h
          refine w_iteF rfl ?_
          walk_at "st"
          rw [zero_S]
          cases hz : l == [48] with
          | true =>
            rw [hz] at h
            refine w_iteT rfl ?_
            walk_at "st"
            exact h
          | false =>
            rw [hz] at h
            refine w_iteF rfl ?_
            walk_at "st"
            cases l with
            | nil => cases he
            | cons c r =>
              refine w_ix_s (c := c) (Nat.le_trans (by rw [lenS]; exact hl) (by decide)) (w_at0 _ _) ?_
              walk_at "st"
              have e1 : ((⟨#[c]⟩ : Str) == (Str.ofString "0" : Str)) = (some c == some 48) := by
                have := zero_S [c]
                rw [show (⟨#[c]⟩ : Str) = S [c] from rfl, this]
                rw [Bool.eq_iff_iff]
                simp
              rw [e1]
              exact h
  · exact h.elim
theorem ok_p_is_figures (T : Tx P K mg) : FnG P w K mg base 1 T.f_p_is_figures T.d_p_is_figures ["text"] (spD K sp_p_is_figures) := by
  exact fnG_of (k := 0) (t := t_p_is_figures) T.F_p_is_figures sc_p_is_figures len_p_is_figures
    (fun cdv A outer s H hr => pds_cons (pds_if (pdt_w (pdw_or (pdt_cmp (op_eqF hr.r.units) opd_eq (pd_var 0) (pd_str)) (pdw_or1 (pdt_not (pdt_val (pd_callB (cr_all rfl) cal_all rfl T.n_all (by decide +kernel) (pda_cons (pd_lc (own := [("sign", 1)]) rfl sc_p_is_figures.nd (pdi_str (pd_var 0)) (blkOk_by (own := [("sign", 1)]) (by kernel_rfl)) (fun _ _ _ _ _ => pg_name (i := 1) sc_p_is_figures.nd rfl (by first | exact .inl rfl | exact .inr rfl)) (tg_name (i := 1) (by decide)) (mon_name (i := 1)) (fun _ _ _ _ _ => pdts_nil) (fun _ _ _ _ _ => pd_cmp op_in_sign opd_inSign (pd_var 1) (pd_glob (v := .str "0123456789") rfl T.c_FIGURES ⟨_, rfl⟩ (fun _ => .str _)) (by rfl))) (pda_nil)))))))) (pds_one (pds_ret (pd_bl))) (pds_nil)) (pds_one (pds_ret (pd_or (pd_cmp (op_eqF hr.r.units) opd_eq (pd_var 0) (pd_str)) (pd_one (pd_cmp (op_neF hr.r.units) opd_ne (pd_ix ix_seq opd_ix (pd_var 0) (pd_int)) (pd_str)))))))
    sem_p_is_figures
def sp_p_of_figures : FS := fun ds ms P => match ds with
  | [.str a] => AllDigits a.cps.toList ∧ a.cps.toList ≠ [] ∧ a.length ≤ 1000 ∧ P (.int (digitsVal a.cps.toList : Nat)) ms
  | _ => False
theorem len_p_of_figures : ∀ ds ms Q, sp_p_of_figures ds ms Q → ds.length = 1 := fun ds ms Q h => by
  unfold sp_p_of_figures at h
  split at h <;> first | rfl | exact h.elim
def t_p_of_figures : DTS := dSeq (dAsg (dOp fMod (dCB cLen (aCons (dVar 0) (aNil))) (dC (.int 60))) (sName 1)) (dSeq (dAsg (dCB cIntS (aCons (dOp fAdd (dC (.str "0")) (dSl (dVar 0) (oNone) (oSome (dVar 1)))) (aNil))) (sName 2)) (dSeq (dFor (iRange3 (aCons (dVar 1) (aCons (dCB cLen (aCons (dVar 0) (aNil))) (aCons (dC (.int 60)) (aNil))))) (sName 3) (dAsg (dOp fAdd (dOp fMul (dVar 2) (dC (.int (1000000000000000000000000000000000000000000000000000000000000)))) (dCB cIntS (aCons (dSl (dVar 0) (oSome (dVar 3)) (oSome (dOp fAdd (dVar 3) (dC (.int 60))))) (aNil)))) (sName 2))) (dRet (dVar 2))))
theorem val_bd {l : List Nat} (h : AllDigits l) : Bd (4 * l.length + 1) (digitsVal l : Int) := by
  have h1 := val_lt h
  have h2 : (10 : Nat) ^ l.length ≤ 16 ^ l.length := Nat.pow_le_pow_left (by decide) _
  have h3 : (16 : Nat) ^ l.length = 2 ^ (4 * l.length) := by rw [show (16 : Nat) = 2 ^ 4 from rfl, ← Nat.pow_mul]
  unfold Bd
  have h4 : (2 : Nat) ^ (4 * l.length) ≤ 2 ^ (4 * l.length + 1) := Nat.pow_le_pow_right (by decide) (by omega)
  omega
theorem of_loop {tb : DTS} {E : EN} {ms : MS} {x0 x1 : Option D} {l : List Nat} {f : Nat} (hd : AllDigits l)
    (htb : ∀ (i : Nat) (G : DS → MS → Prop), f + i * 60 + 60 ≤ l.length → G [x0, x1, some (.int (digitsVal (l.take (f + (i + 1) * 60)) : Nat)), some (.int ((f : Int) + (i : Nat) * 60))] ms →
      tb (EN.lp E G) [x0, x1, some (.int (digitsVal (l.take (f + i * 60)) : Nat)), some (.int ((f : Int) + (i : Nat) * 60))] ms) :
    ∀ (n i : Nat) (x3 : Option D), f + (i + n) * 60 = l.length → (∀ x3, E.nx [x0, x1, some (.int (digitsVal l : Nat)), x3] ms) →
      loopD (sName 3) tb E (((List.range (i + n)).drop i).map fun i => D.int ((f : Int) + (i : Nat) * 60)) [x0, x1, some (.int (digitsVal (l.take (f + i * 60)) : Nat)), x3] ms := by
  intro n
  induction n with
  | zero =>
    intro i x3 h q
    rw [Nat.add_zero] at h ⊢
    have e : (List.range i).drop i = [] := List.drop_eq_nil_of_le (by simp)
    rw [e, h, List.take_length]
    exact w_loopN (q _)
  | succ n ih =>
    intro i x3 h q
    have e : (List.range (i + (n + 1))).drop i = i :: (List.range (i + 1 + n)).drop (i + 1) := by
      rw [show i + (n + 1) = i + 1 + n by omega, List.drop_eq_getElem_cons (by simp; omega)]
      simp
    rw [e, List.map_cons]
    refine w_loopC ?_
    walk_at "st"
    refine htb i _ ?_ ?_
    · have : (i + (n + 1)) * 60 = i * 60 + n * 60 + 60 := by omega
      omega
    · exact ih (i + 1) _ (by rw [← h]; omega) q
theorem sem_p_of_figures : ∀ ds ms Q, sp_p_of_figures ds ms Q → t_p_of_figures { nx := fun _ m => Q .non m, rt := Q } (startD 4 ds) ms := by
  intro ds ms Q h
  unfold sp_p_of_figures at h
  split at h
  · rename_i a
    obtain ⟨hd, hne, hl, h⟩ := h
    rw [← S_tl a] at hl ⊢
    generalize a.cps.toList = l at hd hne hl h ⊢
    rw [lenS] at hl
    have L : ∀ {a : Nat}, a ≤ 1000 → a ≤ sizeLine := fun h => Nat.le_trans h (by decide)
    simp only [startD]
    unfold t_p_of_figures
    walk_at "st"
    rw [lenS]
    refine ⟨L (by omega), ?_⟩
    walk_at "st"
    refine ⟨by decide, ?_⟩
    have ef : ((l.length : Int)).fmod 60 = ((l.length % 60 : Nat) : Int) := by
      rw [Int.fmod_eq_emod_of_nonneg _ (by decide)]; omega
    rw [ef]
    generalize hf : l.length % 60 = f
    have hf60 : f < 60 := by omega
    walk_at "st"
    refine ⟨L (by rw [lenS]; omega), ?_⟩
    rw [cutS_S, cutL_to _ _ (by omega), Int.toNat_natCast]
    walk_at "st"
    have hlf : (l.take f).length ≤ 60 := by rw [List.length_take]; omega
    refine ⟨L (by rw [lit "0" [48], lenS, lenS]; simp; omega), ?_⟩
    rw [lit "0" [48], S_app]
    walk_at "st"
    have hdf : AllDigits ([48] ++ l.take f) := fun c hc => by
      rcases List.mem_append.mp hc with hc | hc
      · rw [List.mem_singleton.mp hc]; decide
      · exact hd c (List.mem_of_mem_take hc)
    refine w_intS (int_figs hdf (by simp) (by simp; omega)) ⟨by rw [lenS]; simp; omega, ?_⟩
    have ev : digitsVal ([48] ++ l.take f) = digitsVal (l.take f) := by rw [val_app]; show 0 * _ + _ = _; rw [Nat.zero_mul, Nat.zero_add]
    rw [ev]
    walk_at "st"
    rw [lenS]
    refine ⟨L (by omega), ?_⟩
    walk_at "st"
    have hn : (((l.length : Int) - (f : Int) + 60 - 1) / 60).toNat = l.length / 60 := by omega
    refine w_mRng3 (rgc_up (by omega) (by omega) (by omega) (by decide) (by decide)) ?_
    rw [hn]
    have key := of_loop (f := f) (x0 := some (.str (S l))) (x1 := some (.int (f : Int))) (ms := ms) (l := l) (E := EN.wn { nx := fun _ m => Q .non m, rt := Q } (StG (dRet (dVar 2)) { nx := fun _ m => Q .non m, rt := Q })) hd (tb := dAsg (dOp fAdd (dOp fMul (dVar 2) (dC (.int (1000000000000000000000000000000000000000000000000000000000000)))) (dCB cIntS (aCons (dSl (dVar 0) (oSome (dVar 3)) (oSome (dOp fAdd (dVar 3) (dC (.int 60))))) (aNil)))) (sName 2)) (fun i G hi hG => ?_) (l.length / 60) 0 none (by omega) (fun x3 => ?_)
    · rw [Nat.zero_add, List.drop_zero, Nat.zero_mul, Nat.add_zero] at key
      exact key
    · walk_at "st"
      have hb := val_bd (l := l.take (f + i * 60)) fun c hc => hd c (List.mem_of_mem_take hc)
      refine ⟨(hb.mono (m := 4000) (by rw [List.length_take]; omega)).mulOk (show Bd 200 _ by unfold Bd; decide +kernel) (by decide) (by decide) (by decide), ?_⟩
      walk_at "st"
      refine ⟨L (by rw [lenS]; omega), ?_⟩
      rw [cutS_S, cutL_mid _ _ _ (by omega) (by omega)]
      have e1 : ((f : Int) + (i : Nat) * 60).toNat = f + i * 60 := by omega
      have e2 : ((f : Int) + (i : Nat) * 60 + 60 - ((f : Int) + (i : Nat) * 60)).toNat = 60 := by omega
      rw [e1, e2]
      walk_at "st"
      have hlen : ((l.drop (f + i * 60)).take 60).length = 60 := by rw [List.length_take, List.length_drop]; omega
      have hdd : AllDigits ((l.drop (f + i * 60)).take 60) := fun c hc => hd c (List.mem_of_mem_drop (List.mem_of_mem_take hc))
      refine w_intS (int_figs hdd (fun z => by rw [z] at hlen; cases hlen) (by omega)) ⟨by rw [lenS]; omega, ?_⟩
      walk_at "st"
      have e3 : l.take (f + (i + 1) * 60) = l.take (f + i * 60) ++ (l.drop (f + i * 60)).take 60 := by
        rw [show f + (i + 1) * 60 = (f + i * 60) + 60 by omega, List.take_add]
      rw [e3, val_app, hlen] at hG
      have e4 : ((digitsVal (l.take (f + i * 60)) : Nat) : Int) * 1000000000000000000000000000000000000000000000000000000000000 + ((digitsVal ((l.drop (f + i * 60)).take 60) : Nat) : Int) = ((digitsVal (l.take (f + i * 60)) * 10 ^ 60 + digitsVal ((l.drop (f + i * 60)).take 60) : Nat) : Int) := by
        rw [Int.natCast_add, Int.natCast_mul]
        rfl
      rw [e4]
      exact hG
    · walk_at "st"
      exact h
  · exact h.elim
theorem ok_p_of_figures (T : Tx P K mg) : FnG P w K mg base 1 T.f_p_of_figures T.d_p_of_figures ["text"] (spD K sp_p_of_figures) := by
  exact fnG_of (k := 0) (t := t_p_of_figures) T.F_p_of_figures sc_p_of_figures len_p_of_figures
    (fun cdv A outer s H hr => pds_cons (pds_set (i := 1) sc_p_of_figures.nd rfl (.inl rfl) (pd_op op_modN opd_mod (pd_callB call_len cal_len rfl T.n_len (by decide +kernel) (pda_cons (pd_var 0) (pda_nil))) (pd_glob (v := .int (60)) rfl T.c_PIECE ⟨_, rfl⟩ (fun _ => .int _)))) (pds_cons (pds_set (i := 2) sc_p_of_figures.nd rfl (.inl rfl) (pd_callTy call_int_str cal_intS rfl T.n_int (by decide +kernel) (pda_cons (pd_op op_addD opd_add (pd_str) (pd_slice (pd_var 0) (pdo_none) (pdo_some (pd_var 1)))) (pda_nil)))) (pds_cons (pds_for (vs := [3]) rfl (pdi_range3 rfl T.n_range (pda_cons (pd_var 1) (pda_cons (pd_callB call_len cal_len rfl T.n_len (by decide +kernel) (pda_cons (pd_var 0) (pda_nil))) (pda_cons (pd_glob (v := .int (60)) rfl T.c_PIECE ⟨_, rfl⟩ (fun _ => .int _)) (pda_nil))))) (pg_name (i := 3) sc_p_of_figures.nd rfl (.inl rfl)) (tg_name (i := 3) (by decide)) (pds_one (pds_set (i := 2) sc_p_of_figures.nd rfl (.inl rfl) (pd_op op_addD opd_add (pd_op op_mulA opd_mul (pd_var 2) (pd_glob (v := .int (1000000000000000000000000000000000000000000000000000000000000)) rfl T.c_ABOVE_PIECE ⟨_, rfl⟩ (fun _ => .int _))) (pd_callTy call_int_str cal_intS rfl T.n_int (by decide +kernel) (pda_cons (pd_slice (pd_var 0) (pdo_some (pd_var 3)) (pdo_some (pd_op op_addD opd_add (pd_var 3) (pd_glob (v := .int (60)) rfl T.c_PIECE ⟨_, rfl⟩ (fun _ => .int _))))) (pda_nil))))))) (pds_one (pds_ret (pd_var 2))))))
    sem_p_of_figures
def isW (d : D) : Bool := match d with
  | .int _ => true
  | _ => false
def sp_p_is_whole : FS := fun ds ms P => match ds with
  | [d] => (∃ a, tyD d = some a) ∧ P (.bl (isW d)) ms
  | _ => False
theorem len_p_is_whole : ∀ ds ms Q, sp_p_is_whole ds ms Q → ds.length = 1 := fun ds ms Q h => by
  unfold sp_p_is_whole at h
  split at h <;> first | rfl | exact h.elim
def t_p_is_whole : DTS := dRet (dAndV (dIsi .int (dVar 0)) (dNotV (dIsi .bool (dVar 0))))
theorem whole_sem {d : D} {ms : MS} {Q : D → MS → Prop} (h : (∃ a, tyD d = some a) ∧ Q (.bl (isW d)) ms) : dAndV (dIsi .int (dVar 0)) (dNotV (dIsi .bool (dVar 0))) [some d] ms Q := by
  obtain ⟨⟨a, e⟩, h⟩ := h
  walk_at "dl"
  rw [e]
  cases d <;> cases e <;> exact h
theorem sem_p_is_whole : ∀ ds ms Q, sp_p_is_whole ds ms Q → t_p_is_whole { nx := fun _ m => Q .non m, rt := Q } (startD 1 ds) ms := by
  intro ds ms Q h
  unfold sp_p_is_whole at h
  split at h
  · unfold t_p_is_whole
    exact whole_sem h
  · exact h.elim
theorem ok_p_is_whole (T : Tx P K mg) : FnG P w K mg base 1 T.f_p_is_whole T.d_p_is_whole ["thing"] (spD K sp_p_is_whole) := by
  exact fnG_of (k := 0) (t := t_p_is_whole) T.F_p_is_whole sc_p_is_whole len_p_is_whole
    (fun cdv A outer s H hr => pds_one (pds_ret (pd_and (pd_isi .int (by decide) rfl T.n_isinstance rfl T.n_int (by decide +kernel) (by decide) (by decide) (pd_var 0)) (pd_one (pd_not (pd_isi .bool (by decide) rfl T.n_isinstance rfl T.n_bool (by decide +kernel) (by decide) (by decide) (pd_var 0)))))))
    sem_p_is_whole
def sp_p_look_at_many : FS := fun ds ms P => match ds with
  | [.int i] => 0 ≤ i ∧ i ≤ 8 ∧ P .non ms
  | _ => False
theorem len_p_look_at_many : ∀ ds ms Q, sp_p_look_at_many ds ms Q → ds.length = 1 := fun ds ms Q h => by
  unfold sp_p_look_at_many at h
  split at h <;> first | rfl | exact h.elim
def t_p_look_at_many : DTS := dIfS (dOr (dNot (dTest (dCall 1 0 [0] sp_p_is_whole (aCons (dVar 0) (aNil)) (aNil)))) (dOr (dTest (dOp fLt (dVar 0) (dC (.int 0)))) (dTest (dOp fGt (dVar 0) (dC (.int 8)))))) (dNever) (dNext)
theorem sem_p_look_at_many : ∀ ds ms Q, sp_p_look_at_many ds ms Q → t_p_look_at_many { nx := fun _ m => Q .non m, rt := Q } (startD 1 ds) ms := by
  intro ds ms Q h
  unfold sp_p_look_at_many at h
  split at h
  · rename_i i
    obtain ⟨h0, h8, h⟩ := h
    simp only [startD]
    unfold t_p_look_at_many
    walk_at "st"
    refine ⟨⟨_, rfl⟩, ?_⟩
    walk_at "st"
    refine w_iteF (decide_eq_false (by omega)) ?_
    walk_at "st"
    refine w_iteF (decide_eq_false (by omega)) ?_
    walk_at "st"
    exact h
  · exact h.elim
theorem ok_p_look_at_many (T : Tx P K mg) : FnG P w K mg base 2 T.f_p_look_at_many T.d_p_look_at_many ["many"] (spD K sp_p_look_at_many) := by
  have G_p_is_whole := ok_p_is_whole (P := P) (w := w) (base := base) T
  exact fnG_of (k := 1) (t := t_p_look_at_many) T.F_p_look_at_many sc_p_look_at_many len_p_look_at_many
    (fun cdv A outer s H hr => pds_one (pds_if (pdt_w (pdw_or (pdt_not (pdt_val (pd_call G_p_is_whole (hr.mono (by decide)) rfl T.g_p_is_whole T.F_p_is_whole.kp T.b_p_is_whole_1 (pda_cons (pd_var 0) (pda_nil))))) (pdw_or (pdt_cmp op_lt opd_lt (pd_var 0) (pd_int)) (pdw_or1 (pdt_cmp op_gt opd_gt (pd_var 0) (pd_glob (v := .int (8)) rfl T.c_MOST_NUMBERS ⟨_, rfl⟩ (fun _ => .int _))))))) (pds_one (pds_never)) (pds_nil)))
    sem_p_look_at_many
def sp_p_is_line : FS := fun ds ms P => match ds with
  | [.int i, .lst xs] => ∃ is : List Int, xs = is.map D.int ∧ 0 ≤ i ∧ i ≤ 8 ∧ (is.length : Int) = i + 1 ∧ P (.bl true) ms
  | _ => False
theorem len_p_is_line : ∀ ds ms Q, sp_p_is_line ds ms Q → ds.length = 2 := fun ds ms Q h => by
  unfold sp_p_is_line at h
  split at h <;> first | rfl | exact h.elim
def t_p_is_line : DTS := dSeq (dDrop (dCall 1 0 [0] sp_p_look_at_many (aCons (dVar 0) (aNil)) (aNil))) (dSeq (dIfS (dOr (dNot (dTest (dIsi .list (dVar 1)))) (dTest (dOp fNe (dCB cLen (aCons (dVar 1) (aNil))) (dOp fAdd (dVar 0) (dC (.int 1)))))) (dRet (dC (.bl false))) (dNext)) (dRet (dCB cAll (aCons (dLc (iSeq (dVar 1)) (sName 2) (dYes) (dCall 1 0 [0] sp_p_is_whole (aCons (dVar 2) (aNil)) (aNil)) [2]) (aNil)))))
theorem sem_p_is_line : ∀ ds ms Q, sp_p_is_line ds ms Q → t_p_is_line { nx := fun _ m => Q .non m, rt := Q } (startD 3 ds) ms := by
  intro ds ms Q h
  unfold sp_p_is_line at h
  split at h
  · rename_i i xs
    obtain ⟨is, rfl, h0, h8, hl, h⟩ := h
    simp only [startD]
    unfold t_p_is_line
    walk_at "st"
    refine ⟨h0, h8, ?_⟩
    walk_at "st"
    refine w_iteF (by rw [List.length_map, hl]; simp) ?_
    walk_at "st"
    simp only [wipeD, List.set]
    refine comp_e D.int (fun _ => D.bl true) is [] _ (by simp; omega) (fun x hx P0 q => ?_) ?_
    · walk_at "st"
      exact ⟨⟨_, rfl⟩, q⟩
    · rw [List.nil_append]
      walk_at "st"
      obtain ⟨bs, e, hb⟩ := all_true (fun _ : Int => D.bl true) (fun _ => rfl) is
      refine w_all e ?_
      walk_at "st"
      rw [hb]
      exact h
  · exact h.elim
theorem ok_p_is_line (T : Tx P K mg) : FnG P w K mg base 3 T.f_p_is_line T.d_p_is_line ["many", "thing"] (spD K sp_p_is_line) := by
  have G_p_look_at_many := ok_p_look_at_many (P := P) (w := w) (base := base) T
  have G_p_is_whole := ok_p_is_whole (P := P) (w := w) (base := base) T
  exact fnG_of (k := 2) (t := t_p_is_line) T.F_p_is_line sc_p_is_line len_p_is_line
    (fun cdv A outer s H hr => pds_cons (pds_expr (pd_call G_p_look_at_many (hr.mono (by decide)) rfl T.g_p_look_at_many T.F_p_look_at_many.kp T.b_p_look_at_many_1 (pda_cons (pd_var 0) (pda_nil)))) (pds_cons (pds_if (pdt_w (pdw_or (pdt_not (pdt_val (pd_isi .list (by decide) rfl T.n_isinstance rfl T.n_list (by decide +kernel) (by decide) (by decide) (pd_var 1)))) (pdw_or1 (pdt_cmp (op_neF hr.r.units) opd_ne (pd_callB call_len cal_len rfl T.n_len (by decide +kernel) (pda_cons (pd_var 1) (pda_nil))) (pd_op op_addD opd_add (pd_var 0) (pd_int)))))) (pds_one (pds_ret (pd_bl))) (pds_nil)) (pds_one (pds_ret (pd_callB (cr_all rfl) cal_all rfl T.n_all (by decide +kernel) (pda_cons (pd_lc (own := [("part", 2)]) rfl sc_p_is_line.nd (pdi_list (pd_var 1)) (blkOk_by (own := [("part", 2)]) (by kernel_rfl)) (fun _ _ _ _ _ => pg_name (i := 2) sc_p_is_line.nd rfl (by first | exact .inl rfl | exact .inr rfl)) (tg_name (i := 2) (by decide)) (mon_name (i := 2)) (fun _ _ _ _ _ => pdts_nil) (fun _ _ _ _ _ => pd_call G_p_is_whole (hr.mono (by decide)) rfl T.g_p_is_whole T.F_p_is_whole.kp T.b_p_is_whole_1 (pda_cons (pd_var 2) (pda_nil)))) (pda_nil)))))))
    sem_p_is_line
def sp_p_is_wish : FS := fun ds ms P => match ds with
  | [.int i, d] => ∃ w, d = wiD w ∧ 0 ≤ i ∧ i ≤ 8 ∧ (w.fs.length : Int) = i ∧ P (.bl true) ms
  | _ => False
theorem len_p_is_wish : ∀ ds ms Q, sp_p_is_wish ds ms Q → ds.length = 2 := fun ds ms Q h => by
  unfold sp_p_is_wish at h
  split at h <;> first | rfl | exact h.elim
def t_p_is_wish : DTS := dSeq (dDrop (dCall 1 0 [0] sp_p_look_at_many (aCons (dVar 0) (aNil)) (aNil))) (dSeq (dIfS (dOr (dNot (dTest (dIsi .tuple (dVar 1)))) (dTest (dOp fNe (dCB cLen (aCons (dVar 1) (aNil))) (dC (.int 2))))) (dRet (dC (.bl false))) (dNext)) (dSeq (dAsg (dVar 1) (sTup 2 (sCons (sName 2) (sCons (sName 3) (sNil))))) (dSeq (dIfS (dOr (dNot (dTest (dIsi .str (dVar 2)))) (dTest (dOp fNotIn (dVar 2) (dTup (aCons (dC (.str "least")) (aCons (dC (.str "just")) (aNil))))))) (dRet (dC (.bl false))) (dNext)) (dRet (dCall 2 0 [0, 1] sp_p_is_line (aCons (dVar 0) (aCons (dVar 3) (aNil))) (aNil))))))
theorem in_wd {j : Bool} {ms : MS} {P : D → MS → Prop} (q : P (.bl false) ms) : InOk (wdD j) [.str "least", .str "just"] true ms P := by
  have e : ([PyData.str "least", PyData.str "just"].any fun z => PyData.eqv z (.str (if j then "just" else "least" : String))) = true := by cases j <;> decide +kernel
  have h0 : (Str.ofString (if j then "just" else "least" : String)).cps.all (· < 0x110000) = true := ofString_ok _
  refine ⟨.str (Str.ofString (if j then "just" else "least" : String)), [.str "least", .str "just"], ?_, rfl, h0, Nat.zero_le _, by decide +kernel, ?_⟩
  · unfold wdD; cases j <;> rfl
  · rw [e]; exact q
theorem sem_p_is_wish : ∀ ds ms Q, sp_p_is_wish ds ms Q → t_p_is_wish { nx := fun _ m => Q .non m, rt := Q } (startD 4 ds) ms := by
  intro ds ms Q h
  unfold sp_p_is_wish at h
  split at h
  · rename_i i d
    obtain ⟨w, rfl, h0, h8, hl, h⟩ := h
    simp only [startD]
    unfold t_p_is_wish
    walk_at "st"
    refine ⟨h0, h8, ?_⟩
    walk_at "st"
    unfold wiD
    walk_at "st"
    refine in_wd ?_
    walk_at "st"
    refine ⟨w.l :: w.fs, rfl, h0, h8, by rw [List.length_cons]; omega, ?_⟩
    exact h
  · exact h.elim
theorem ok_p_is_wish (T : Tx P K mg) : FnG P w K mg base 4 T.f_p_is_wish T.d_p_is_wish ["many", "thing"] (spD K sp_p_is_wish) := by
  have G_p_look_at_many := ok_p_look_at_many (P := P) (w := w) (base := base) T
  have G_p_is_line := ok_p_is_line (P := P) (w := w) (base := base) T
  exact fnG_of (k := 3) (t := t_p_is_wish) T.F_p_is_wish sc_p_is_wish len_p_is_wish
    (fun cdv A outer s H hr => pds_cons (pds_expr (pd_call G_p_look_at_many (hr.mono (by decide)) rfl T.g_p_look_at_many T.F_p_look_at_many.kp T.b_p_look_at_many_1 (pda_cons (pd_var 0) (pda_nil)))) (pds_cons (pds_if (pdt_w (pdw_or (pdt_not (pdt_val (pd_isi .tuple (by decide) rfl T.n_isinstance rfl T.n_tuple (by decide +kernel) (by decide) (by decide) (pd_var 1)))) (pdw_or1 (pdt_cmp (op_neF hr.r.units) opd_ne (pd_callB call_len cal_len rfl T.n_len (by decide +kernel) (pda_cons (pd_var 1) (pda_nil))) (pd_int))))) (pds_one (pds_ret (pd_bl))) (pds_nil)) (pds_cons (pds_asg (vs := [2, 3]) (pd_var 1) (pg_tup rfl (pgs_cons (pg_name (i := 2) sc_p_is_wish.nd rfl (.inl rfl)) (pgs_cons (pg_name (i := 3) sc_p_is_wish.nd rfl (.inl rfl)) (pgs_nil)))) (tg_tup (tgs_cons (tg_name (i := 2) (by decide)) (tgs_cons (tg_name (i := 3) (by decide)) (tgs_nil) (mon_name (i := 3))) (mon_name (i := 2))))) (pds_cons (pds_if (pdt_w (pdw_or (pdt_not (pdt_val (pd_isi .str (by decide) rfl T.n_isinstance rfl T.n_str (by decide +kernel) (by decide) (by decide) (pd_var 2)))) (pdw_or1 (pdt_cmp (op_notInF hr.r.units) opd_notIn (pd_var 2) (pd_tup (pda_cons (pd_glob (v := .str "least") rfl T.c_LEAST ⟨_, rfl⟩ (fun _ => .str _)) (pda_cons (pd_glob (v := .str "just") rfl T.c_JUST ⟨_, rfl⟩ (fun _ => .str _)) (pda_nil)))) (by rfl))))) (pds_one (pds_ret (pd_bl))) (pds_nil)) (pds_one (pds_ret (pd_call G_p_is_line (hr.mono (by decide)) rfl T.g_p_is_line T.F_p_is_line.kp T.b_p_is_line_2 (pda_cons (pd_var 0) (pda_cons (pd_var 3) (pda_nil))))))))))
    sem_p_is_wish
def sp_p_shown_size : FS := fun ds ms P => match ds with
  | [.int c, d] => ∃ n : List Nat, d = nmD n ∧ 0 ≤ c ∧ Bd 4000 c ∧ n.length ≤ 100 ∧ P (.str (S (pt c n))) ms
  | _ => False
theorem len_p_shown_size : ∀ ds ms Q, sp_p_shown_size ds ms Q → ds.length = 2 := fun ds ms Q h => by
  unfold sp_p_shown_size at h
  split at h <;> first | rfl | exact h.elim
def t_p_shown_size : DTS := dSeq (dIfS (dTest (dOp fEq (dVar 1) (dC (.str "")))) (dRet (dCall 1 0 [0] sp_p_in_figures (aCons (dVar 0) (aNil)) (aNil))) (dNext)) (dSeq (dIfS (dTest (dOp fEq (dVar 0) (dC (.int 1)))) (dRet (dVar 1)) (dNext)) (dRet (dJoined [dFmt (dCall 1 0 [0] sp_p_in_figures (aCons (dVar 0) (aNil)) (aNil)), dC (.str "*"), dFmt (dVar 1)])))
theorem sem_p_shown_size : ∀ ds ms Q, sp_p_shown_size ds ms Q → t_p_shown_size { nx := fun _ m => Q .non m, rt := Q } (startD 2 ds) ms := by
  intro ds ms Q h
  unfold sp_p_shown_size at h
  split at h
  · rename_i c d
    obtain ⟨n, rfl, c0, bc, nl, h⟩ := h
    simp only [startD]
    unfold t_p_shown_size nmD
    have L : ∀ {a : Nat}, a ≤ 10000 → a ≤ sizeLine := fun h => Nat.le_trans h (by decide)
    have nc : numI c = numL c.natAbs := by unfold numI; rw [if_neg (by omega)]
    have lc : (numL c.natAbs).length ≤ 4001 := numL_len' (show c.natAbs < 2 ^ 4000 from bc)
    walk_at "st"
    rw [lit "" [], S_beq]
    unfold pt at h
    by_cases hn : n = []
    · rw [if_pos hn] at h
      refine w_iteT (by rw [hn]; rfl) ?_
      walk_at "st"
      refine ⟨bc, ?_⟩
      rw [nc]
      exact h
    · rw [if_neg hn] at h
      refine w_iteF (by cases n with | nil => exact absurd rfl hn | cons a b => rfl) ?_
      walk_at "st"
      by_cases h1 : c.natAbs = 1
      · rw [if_pos h1] at h
        refine w_iteT (by rw [show c = 1 by omega]; rfl) ?_
        walk_at "st"
        exact h
      · rw [if_neg h1] at h
        refine w_iteF (beq_eq_false_iff_ne.mpr (by omega)) ?_
        walk_at "st"
        refine ⟨bc, ?_⟩
        rw [nc]
        walk_at "st"
        refine ⟨L (by rw [lenS]; omega), ?_⟩
        walk_at "st"
        rw [show Str.empty = S [] from rfl, S_app]
        refine ⟨L (by rw [lenS]; simp; omega), ?_⟩
        walk_at "st"
        rw [lit "*" [42], S_app]
        refine ⟨L (by rw [lenS]; simp; omega), ?_⟩
        walk_at "st"
        refine ⟨L (by rw [lenS]; omega), ?_⟩
        walk_at "st"
        rw [S_app]
        refine ⟨L (by rw [lenS]; simp; omega), ?_⟩
        walk_at "st"
        rw [show [] ++ numL c.natAbs ++ [42] ++ n = numL c.natAbs ++ 42 :: n by simp]
        exact h
  · exact h.elim
theorem ok_p_shown_size (T : Tx P K mg) : FnG P w K mg base 2 T.f_p_shown_size T.d_p_shown_size ["size", "name"] (spD K sp_p_shown_size) := by
  have G_p_in_figures := ok_p_in_figures (P := P) (w := w) (base := base) T
  exact fnG_of (k := 1) (t := t_p_shown_size) T.F_p_shown_size sc_p_shown_size len_p_shown_size
    (fun cdv A outer s H hr => pds_cons (pds_if (pdt_cmp (op_eqF hr.r.units) opd_eq (pd_var 1) (pd_str)) (pds_one (pds_ret (pd_call G_p_in_figures (hr.mono (by decide)) rfl T.g_p_in_figures T.F_p_in_figures.kp T.b_p_in_figures_1 (pda_cons (pd_var 0) (pda_nil))))) (pds_nil)) (pds_cons (pds_if (pdt_cmp (op_eqF hr.r.units) opd_eq (pd_var 0) (pd_int)) (pds_one (pds_ret (pd_var 1))) (pds_nil)) (pds_one (pds_ret (pd_joined (PDJ.cons (pd_fmt (pd_call G_p_in_figures (hr.mono (by decide)) rfl T.g_p_in_figures T.F_p_in_figures.kp T.b_p_in_figures_1 (pda_cons (pd_var 0) (pda_nil)))) (PDJ.cons (pd_str) (PDJ.cons (pd_fmt (pd_var 1)) (PDJ.nil)))))))))
    sem_p_shown_size
/-- known names, a line over them -/
structure LnU (B : Nat) (ns : List (List Nat)) (is : List Int) : Prop where
  nm : ∀ n ∈ ns, Nml n
  nd : ns.Nodup
  n8 : ns.length ≤ 8
  ln : is.length = ns.length + 1
  bd : ∀ i ∈ is, Bd B i
def nsD (ns : List (List Nat)) : D := .lst (ns.map nmD)
def isD (is : List Int) : D := .lst (is.map D.int)
def sp_p_shown_line : FS := fun ds ms P => match ds with
  | [a, b] => ∃ (ns : List (List Nat)) (is : List Int), a = nsD ns ∧ b = isD is ∧ LnU 1000 ns is ∧ P (.str (S (txT (tms is ([] :: ns))))) ms
  | _ => False
theorem len_p_shown_line : ∀ ds ms Q, sp_p_shown_line ds ms Q → ds.length = 2 := fun ds ms Q h => by
  unfold sp_p_shown_line at h
  split at h <;> first | rfl | exact h.elim
def t_p_shown_line : DTS := dSeq (dAsg (dC (.str "")) (sName 2)) (dSeq (dFor (iZipD (aCons (dVar 1) (aCons (dLst (aCons (dC (.str "")) (aStar (dVar 0) (aNil)))) (aNil)))) (sTup 2 (sCons (sName 3) (sCons (sName 4) (sNil)))) (dSeq (dIfS (dTest (dOp fEq (dVar 3) (dC (.int 0)))) (dCont) (dNext)) (dSeq (dIfS (dTest (dOp fEq (dVar 2) (dC (.str "")))) (dAsg (dIf (dTest (dOp fLt (dVar 3) (dC (.int 0)))) (dC (.str "-")) (dC (.str ""))) (sName 5)) (dAsg (dIf (dTest (dOp fLt (dVar 3) (dC (.int 0)))) (dC (.str " - ")) (dC (.str " + "))) (sName 5))) (dAsg (dOp fAdd (dOp fAdd (dVar 2) (dVar 5)) (dCall 2 0 [0, 1] sp_p_shown_size (aCons (dCB cAbs (aCons (dVar 3) (aNil))) (aCons (dVar 4) (aNil))) (aNil))) (sName 2))))) (dRet (dIf (dTest (dOp fNe (dVar 2) (dC (.str "")))) (dVar 2) (dC (.str "0")))))
theorem pt_len {B : Nat} {c : Int} {n : List Nat} (h : Bd B c) (hn : n.length ≤ 7) (hB : B ≤ 1000) : (pt c n).length ≤ 1100 := by
  have hl : (numL c.natAbs).length ≤ B + 1 := numL_len' (show c.natAbs < 2 ^ B from h)
  unfold pt
  split
  · omega
  · split
    · omega
    · rw [List.length_append, List.length_cons]; omega
theorem acT_len : ∀ t : Tms, (∀ p ∈ t, (pt p.1 p.2).length ≤ 1100) → (acT t).length ≤ 1104 * t.length
  | [], _ => Nat.zero_le _
  | p :: r, h => by
    have hp := h p List.mem_cons_self
    have fl : ∀ r : Tms, (∀ p ∈ r, (pt p.1 p.2).length ≤ 1100) → (r.flatMap fun p => sgM p.1 ++ pt p.1 p.2).length ≤ 1104 * r.length := fun r => by
      induction r with
      | nil => exact fun _ => Nat.zero_le _
      | cons q r ih =>
        intro h
        have h1 := h q List.mem_cons_self
        have h2 := ih fun z hz => h z (List.mem_cons_of_mem _ hz)
        have h3 : (sgM q.1).length = 3 := by unfold sgM; split <;> rfl
        rw [List.flatMap_cons, List.length_append, List.length_append, List.length_cons]
        omega
    have h2 := fl r fun z hz => h z (List.mem_cons_of_mem _ hz)
    have h3 : (sgF p.1).length ≤ 1 := by unfold sgF; split <;> decide
    show (sgF p.1 ++ pt p.1 p.2 ++ _).length ≤ _
    rw [List.length_append, List.length_append, List.length_cons]
    omega
theorem sem_p_shown_line : ∀ ds ms Q, sp_p_shown_line ds ms Q → t_p_shown_line { nx := fun _ m => Q .non m, rt := Q } (startD 6 ds) ms := by
  intro ds ms Q h
  unfold sp_p_shown_line at h
  split at h
  · obtain ⟨ns, is, rfl, rfl, ok, h⟩ := h
    have L : ∀ {a : Nat}, a ≤ 30000 → a ≤ sizeLine := fun h => Nat.le_trans h (by decide)
    simp only [startD]
    unfold t_p_shown_line nsD isD
    walk_at "st"
    have n8 := ok.n8
    have i9 := ok.ln
    refine ⟨L (by rw [List.length_cons]; simp only [List.length_append, List.length_map, List.length_nil]; omega), ?_⟩
    walk_at "st"
    rw [List.append_nil, show D.str "" :: ns.map nmD = ([] :: ns).map nmD by rw [lit "" []]; rfl, zipD_mpU]
    have all6 : ∀ p ∈ is.zip ([] :: ns), Bd 1000 p.1 ∧ p.2.length ≤ 7 := fun p hp => by
      have := List.of_mem_zip hp
      refine ⟨ok.bd _ this.1, ?_⟩
      rcases List.mem_cons.mp this.2 with e | e
      · rw [e]; decide
      · exact (ok.nm _ e).l6
    have zl : (is.zip ([] :: ns)).length ≤ 9 := by rw [List.length_zip, List.length_cons]; omega
    refine loop_lU (fun p : Int × List Nat => D.tup [.int p.1, nmD p.2]) (is.zip ([] :: ns)) (fun pre ds m => m = ms ∧ ∃ x3 x4 x5, ds = [some (nsD ns), some (isD is), some (.str (S (acT (pre.filter fun p => !(p.1 == 0))))), x3, x4, x5]) _ [] _ _ rfl ⟨rfl, _, _, _, by rw [lit "" []]; rfl⟩ ?_ ?_
    · rintro pre ⟨c, n⟩ rest ds m split ⟨rfl, x3, x4, x5, rfl⟩ N hN
      have pl : pre.length ≤ 8 := by have := congrArg List.length split; rw [List.length_append, List.length_cons] at this; omega
      have b0 := all6 (c, n) (by rw [← split]; simp)
      have al : (acT (pre.filter fun p => !(p.1 == 0))).length ≤ 10000 := by
        refine Nat.le_trans (acT_len _ fun p hp => ?_) (Nat.le_trans (Nat.mul_le_mul_left 1104 (show (pre.filter fun p => !(p.1 == 0)).length ≤ 8 from Nat.le_trans (List.length_filter_le ..) pl)) (by decide))
        have b := all6 p (by rw [← split]; exact List.mem_append_left _ (List.mem_filter.mp hp).1)
        exact pt_len b.1 b.2 (by decide)
      unfold nmD
      walk_at "st"
      cases hc : (c == 0) with
      | true =>
        walk_at "st"
        rw [List.filter_append, List.filter_cons_of_neg (by simp [hc]), List.filter_nil, List.append_nil] at hN
        exact hN _ _ ⟨rfl, _, _, _, rfl⟩
      | false =>
        walk_at "st"
        have e1 : (pre ++ [(c, n)]).filter (fun p => !(p.1 == 0)) = pre.filter (fun p => !(p.1 == 0)) ++ [(c, n)] := by
          rw [List.filter_append, List.filter_cons_of_pos (by simp [hc]), List.filter_nil]
        rw [e1] at hN
        generalize pre.filter (fun p => !(p.1 == 0)) = t at al hN
        rw [lit "" [], S_beq]
        have go : ∀ (E : EN) (sg : List Nat), sg.length ≤ 3 → acT (t ++ [(c, n)]) = acT t ++ sg ++ pt c n → StG (dAsg (dOp fAdd (dOp fAdd (dVar 2) (dVar 5)) (dCall 2 0 [0, 1] sp_p_shown_size (aCons (dCB cAbs (aCons (dVar 3) (aNil))) (aCons (dVar 4) (aNil))) (aNil))) (sName 2)) (EN.lp E N) [some (nsD ns), some (isD is), some (.str (S (acT t))), some (.int c), some (.str (S n)), some (.str (S sg))] m := fun E sg sl e => by
          walk_at "st"
          refine ⟨L (by rw [lenS, lenS]; omega), ?_⟩
          walk_at "st"
          rw [S_app]
          have ea : (if c < 0 then -c else c).natAbs = c.natAbs := by split <;> omega
          refine ⟨n, rfl, by split <;> omega, (show (if c < 0 then -c else c).natAbs < 2 ^ 4000 by rw [ea]; exact b0.1.mono (by decide)), Nat.le_trans b0.2 (by decide), ?_⟩
          rw [show pt (if c < 0 then -c else c) n = pt c n by unfold pt; rw [ea]]
          have pl := pt_len b0.1 b0.2 (by decide)
          dsimp only at pl
          walk_at "st"
          refine ⟨L (by rw [lenS, lenS, List.length_append]; omega), ?_⟩
          walk_at "st"
          rw [S_app, ← e]
          exact hN _ _ ⟨rfl, _, _, _, rfl⟩
        cases t with
        | nil =>
          refine w_iteT rfl ?_
          walk_at "st"
          by_cases hs : c < 0
          · refine w_iteT (decide_eq_true hs) ?_
            rw [lit "-" [45]]
            walk_at "s1"
            walk_at "s1"
            walk_at "s1"
            walk_at "s1"
            exact go _ [45] (by decide) (by show sgF c ++ pt c n ++ [] = _; unfold sgF; rw [if_pos hs, List.append_nil]; rfl)
          · refine w_iteF (decide_eq_false hs) ?_
            walk_at "s1"
            walk_at "s1"
            walk_at "s1"
            walk_at "s1"
            exact go _ [] (by decide) (by show sgF c ++ pt c n ++ [] = _; unfold sgF; rw [if_neg hs, List.append_nil]; rfl)
        | cons q r =>
          have ne := acT_ne (t := q :: r) (by simp)
          refine w_iteF (by cases e : acT (q :: r) with | nil => exact absurd e ne | cons a b => rfl) ?_
          walk_at "st"
          by_cases hs : c < 0
          · refine w_iteT (decide_eq_true hs) ?_
            rw [lit " - " [32, 45, 32]]
            walk_at "s1"
            walk_at "s1"
            walk_at "s1"
            walk_at "s1"
            exact go _ [32, 45, 32] (by decide) (by rw [acT_snoc (by simp)]; show acT (q :: r) ++ (sgM c ++ pt c n) = _; unfold sgM; rw [if_pos hs, List.append_assoc])
          · refine w_iteF (decide_eq_false hs) ?_
            rw [lit " + " [32, 43, 32]]
            walk_at "s1"
            walk_at "s1"
            walk_at "s1"
            walk_at "s1"
            exact go _ [32, 43, 32] (by decide) (by rw [acT_snoc (by simp)]; show acT (q :: r) ++ (sgM c ++ pt c n) = _; unfold sgM; rw [if_neg hs, List.append_assoc])
    · rintro ds m ⟨rfl, x3, x4, x5, rfl⟩
      walk_at "st"
      rw [lit "" [], S_beq]
      rw [show (is.zip ([] :: ns)).filter (fun p => !(p.1 == 0)) = tms is ([] :: ns) from rfl]
      unfold txT at h
      generalize tms is ([] :: ns) = t at h
      cases t with
      | nil =>
        rw [if_pos rfl] at h
        walk_at "st"
        rw [lit "0" [48]]
        exact h
      | cons q r =>
        have ne := acT_ne (t := q :: r) (by simp)
        rw [if_neg (by simp)] at h
        refine w_iteT (by cases e : acT (q :: r) with | nil => exact absurd e ne | cons a b => rfl) ?_
        walk_at "st"
        exact h
  · exact h.elim
theorem ok_p_shown_line (T : Tx P K mg) : FnG P w K mg base 3 T.f_p_shown_line T.d_p_shown_line ["names", "line"] (spD K sp_p_shown_line) := by
  have G_p_shown_size := ok_p_shown_size (P := P) (w := w) (base := base) T
  exact fnG_of (k := 2) (t := t_p_shown_line) T.F_p_shown_line sc_p_shown_line len_p_shown_line
    (fun cdv A outer s H hr => pds_cons (pds_set (i := 2) sc_p_shown_line.nd rfl (.inl rfl) (pd_str)) (pds_cons (pds_for (vs := [3, 4]) rfl (pdi_zip rfl T.n_zip (pda_cons (pd_var 1) (pda_cons (pd_lst (pda_cons (pd_str) (pda_star (pd_var 0) (pda_nil)))) (pda_nil)))) (pg_tup rfl (pgs_cons (pg_name (i := 3) sc_p_shown_line.nd rfl (.inl rfl)) (pgs_cons (pg_name (i := 4) sc_p_shown_line.nd rfl (.inl rfl)) (pgs_nil)))) (tg_tup (tgs_cons (tg_name (i := 3) (by decide)) (tgs_cons (tg_name (i := 4) (by decide)) (tgs_nil) (mon_name (i := 4))) (mon_name (i := 3)))) (pds_cons (pds_if (pdt_cmp (op_eqF hr.r.units) opd_eq (pd_var 3) (pd_int)) (pds_one (pds_cont)) (pds_nil)) (pds_cons (pds_if (pdt_cmp (op_eqF hr.r.units) opd_eq (pd_var 2) (pd_str)) (pds_one (pds_set (i := 5) sc_p_shown_line.nd rfl (.inl rfl) (pd_ifExp (pdt_cmp op_lt opd_lt (pd_var 3) (pd_int)) (pd_str) (pd_str)))) (pds_one (pds_set (i := 5) sc_p_shown_line.nd rfl (.inl rfl) (pd_ifExp (pdt_cmp op_lt opd_lt (pd_var 3) (pd_int)) (pd_str) (pd_str))))) (pds_one (pds_set (i := 2) sc_p_shown_line.nd rfl (.inl rfl) (pd_op op_addD opd_add (pd_op op_addD opd_add (pd_var 2) (pd_var 5)) (pd_call G_p_shown_size (hr.mono (by decide)) rfl T.g_p_shown_size T.F_p_shown_size.kp T.b_p_shown_size_2 (pda_cons (pd_callB call_abs cal_abs rfl T.n_abs (by decide +kernel) (pda_cons (pd_var 3) (pda_nil))) (pda_cons (pd_var 4) (pda_nil)))))))))) (pds_one (pds_ret (pd_ifExp (pdt_cmp (op_neF hr.r.units) opd_ne (pd_var 2) (pd_str)) (pd_var 2) (pd_str))))))
    sem_p_shown_line
def wdU (j : Bool) : D := .str (if j then "just" else "least")
def enU (j : Bool) : List Nat := if j then [32, 61, 32, 48] else [32, 62, 61, 32, 48]
def sp_p_shown_wish : FS := fun ds ms P => match ds with
  | [a, b] => ∃ (ns : List (List Nat)) (is : List Int) (j : Bool), a = nsD ns ∧ b = .tup [wdU j, isD is] ∧ LnU 1000 ns is ∧ P (.str (S (txT (tms is ([] :: ns)) ++ enU j))) ms
  | _ => False
theorem len_p_shown_wish : ∀ ds ms Q, sp_p_shown_wish ds ms Q → ds.length = 2 := fun ds ms Q h => by
  unfold sp_p_shown_wish at h
  split at h <;> first | rfl | exact h.elim
def t_p_shown_wish : DTS := dSeq (dAsg (dVar 1) (sTup 2 (sCons (sName 2) (sCons (sName 3) (sNil))))) (dRet (dOp fAdd (dCall 2 0 [0, 1] sp_p_shown_line (aCons (dVar 0) (aCons (dVar 3) (aNil))) (aNil)) (dIf (dTest (dOp fEq (dVar 2) (dC (.str "just")))) (dC (.str " = 0")) (dC (.str " >= 0")))))
theorem tms_len {B : Nat} {ns : List (List Nat)} {is : List Int} (ok : LnU B ns is) (hB : B ≤ 1000) : (txT (tms is ([] :: ns))).length ≤ 10000 := by
  have n8 := ok.n8
  have i9 := ok.ln
  have zl : (tms is ([] :: ns)).length ≤ 9 := Nat.le_trans (List.length_filter_le ..) (by rw [List.length_zip, List.length_cons]; omega)
  unfold txT
  split
  · decide
  · refine Nat.le_trans (acT_len _ fun p hp => ?_) (Nat.le_trans (Nat.mul_le_mul_left 1104 zl) (by decide))
    have hp := List.of_mem_zip (List.mem_filter.mp hp).1
    refine pt_len ((ok.bd _ hp.1).mono hB) ?_ (by decide)
    rcases List.mem_cons.mp hp.2 with e | e
    · rw [e]; decide
    · exact (ok.nm _ e).l6
theorem sem_p_shown_wish : ∀ ds ms Q, sp_p_shown_wish ds ms Q → t_p_shown_wish { nx := fun _ m => Q .non m, rt := Q } (startD 4 ds) ms := by
  intro ds ms Q h
  unfold sp_p_shown_wish at h
  split at h
  · obtain ⟨ns, is, j, rfl, rfl, ok, h⟩ := h
    have L : ∀ {a : Nat}, a ≤ 30000 → a ≤ sizeLine := fun h => Nat.le_trans h (by decide)
    have tl := tms_len ok (by decide)
    simp only [startD]
    unfold t_p_shown_wish
    walk_at "st"
    refine ⟨ns, is, rfl, rfl, ok, ?_⟩
    cases j with
    | true =>
      unfold wdU
      walk_at "st"
      rw [lit " = 0" [32, 61, 32, 48]]
      refine ⟨L (by rw [lenS, lenS]; simp only [List.length_cons, List.length_nil]; omega), ?_⟩
      walk_at "st"
      rw [S_app]
      exact h
    | false =>
      unfold wdU
      walk_at "st"
      rw [lit " >= 0" [32, 62, 61, 32, 48]]
      refine ⟨L (by rw [lenS, lenS]; simp only [List.length_cons, List.length_nil]; omega), ?_⟩
      walk_at "st"
      rw [S_app]
      exact h
  · exact h.elim
theorem ok_p_shown_wish (T : Tx P K mg) : FnG P w K mg base 4 T.f_p_shown_wish T.d_p_shown_wish ["names", "wish"] (spD K sp_p_shown_wish) := by
  have G_p_shown_line := ok_p_shown_line (P := P) (w := w) (base := base) T
  exact fnG_of (k := 3) (t := t_p_shown_wish) T.F_p_shown_wish sc_p_shown_wish len_p_shown_wish
    (fun cdv A outer s H hr => pds_cons (pds_asg (vs := [2, 3]) (pd_var 1) (pg_tup rfl (pgs_cons (pg_name (i := 2) sc_p_shown_wish.nd rfl (.inl rfl)) (pgs_cons (pg_name (i := 3) sc_p_shown_wish.nd rfl (.inl rfl)) (pgs_nil)))) (tg_tup (tgs_cons (tg_name (i := 2) (by decide)) (tgs_cons (tg_name (i := 3) (by decide)) (tgs_nil) (mon_name (i := 3))) (mon_name (i := 2))))) (pds_one (pds_ret (pd_op op_addD opd_add (pd_call G_p_shown_line (hr.mono (by decide)) rfl T.g_p_shown_line T.F_p_shown_line.kp T.b_p_shown_line_2 (pda_cons (pd_var 0) (pda_cons (pd_var 3) (pda_nil)))) (pd_ifExp (pdt_cmp (op_eqF hr.r.units) opd_eq (pd_var 2) (pd_glob (v := .str "just") rfl T.c_JUST ⟨_, rfl⟩ (fun _ => .str _))) (pd_glob (v := .str " = 0") rfl T.c_JUST_SO ⟨_, rfl⟩ (fun _ => .str _)) (pd_glob (v := .str " >= 0") rfl T.c_AT_LEAST ⟨_, rfl⟩ (fun _ => .str _)))))))
    sem_p_shown_wish
/-- where each name stands -/
def sptU (ns : List (List Nat)) : List (Str × Int) := ns.zipIdx.map fun p => (S p.1, ((p.2 : Int) + 1))
def ixU (ns : List (List Nat)) (n : List Nat) : Int := if n = [] then 0 else (ns.idxOf n : Int) + 1
def sx_p_read_size : FX := fun ds ms P Z => match ds with
  | [d, .str t] => ∃ (ns : List (List Nat)) (c : Int) (n : List Nat), d = .dct (sptU ns) ∧ t = S (pt c n) ∧ (∀ n ∈ ns, Nml n) ∧ (n = [] ∨ n ∈ ns) ∧ Bd 900 c ∧ P (.tup [.int (ixU ns n), .int (c.natAbs : Int)]) ms
  | _ => False
def sp_p_read_size : FS := fun ds ms P => sx_p_read_size ds ms P fun _ _ _ _ => False
theorem pl_p_read_size : ∀ ds ms P, sp_p_read_size ds ms P → sx_p_read_size ds ms P fun _ _ _ _ => False := fun _ _ _ h => h
theorem len_p_read_size : ∀ ds ms Q Z, sx_p_read_size ds ms Q Z → ds.length = 2 := fun ds ms Q Z h => by
  unfold sx_p_read_size at h
  split at h <;> first | rfl | exact h.elim
def t_p_read_size_c1 : DTS := dSeq (dIfS (dAnd (dTest (dOp fEq (dVar 3) (dC (.str "")))) (dTest (dOp fInDct (dVar 2) (dVar 0)))) (dRet (dTup (aCons (dDGet (dVar 0) (dVar 2)) (aCons (dC (.int 1)) (aNil))))) (dNext)) (dSeq (dIfS (dNot (dTest (dCall 1 0 [0] sp_p_is_figures (aCons (dVar 2) (aNil)) (aNil)))) (dRaiseI "NoText" ["row"] (aCons (dC (.int 0)) (aNil))) (dNext)) (dSeq (dIfS (dTest (dOp fEq (dVar 3) (dC (.str "")))) (dRet (dTup (aCons (dC (.int 0)) (aCons (dCall 1 0 [0] sp_p_of_figures (aCons (dVar 2) (aNil)) (aNil)) (aNil))))) (dNext)) (dSeq (dIfS (dTest (dOp fNotInDct (dVar 4) (dVar 0))) (dRaiseI "NoText" ["row"] (aCons (dC (.int 0)) (aNil))) (dNext)) (dRet (dTup (aCons (dDGet (dVar 0) (dVar 4)) (aCons (dCall 1 0 [0] sp_p_of_figures (aCons (dVar 2) (aNil)) (aNil)) (aNil))))))))
def t_p_read_size : DTS := dSeq (dAsg (dM1 mPart (dVar 1) (dC (.str "*"))) (sTup 3 (sCons (sName 2) (sCons (sName 3) (sCons (sName 4) (sNil)))))) (t_p_read_size_c1)
theorem getD_spt {ns : List (List Nat)} {n : List Nat} : getD (sptU ns) (S n) = if n ∈ ns then some ((ns.idxOf n : Int) + 1) else none := by
  unfold sptU
  have go : ∀ (ns : List (List Nat)) (k : Nat), getD ((ns.zipIdx k).map fun p => (S p.1, ((p.2 : Int) + 1))) (S n) = if n ∈ ns then some (((k + ns.idxOf n : Nat) : Int) + 1) else none := fun ns => by
    induction ns with
    | nil => intro k; rfl
    | cons m r ih =>
      intro k
      rw [List.zipIdx_cons, List.map_cons]
      unfold getD
      rw [List.find?_cons]
      by_cases e : m = n
      · subst e
        simp
      · have ne : decide (S m = S n) = false := decide_eq_false fun z => e (S_inj z)
        simp only [ne]
        have := ih (k + 1)
        unfold getD at this
        rw [this]
        by_cases hn : n ∈ r
        · rw [if_pos hn, if_pos (List.mem_cons_of_mem _ hn), List.idxOf_cons, show (m == n) = false from beq_eq_false_iff_ne.mpr e, cond_false]
          congr 2
          omega
        · rw [if_neg hn, if_neg (by simp [hn, Ne.symm e])]
  have := go ns 0
  rw [this]
  by_cases hn : n ∈ ns
  · rw [if_pos hn, if_pos hn, Nat.zero_add]
  · rw [if_neg hn, if_neg hn]
theorem par_no {l : List Nat} (h : 42 ∉ l) : par [42] [] l = none := by
  rcases spl_par 42 l [] with ⟨h1, _, _⟩ | ⟨a, b, _, _, _, e⟩
  · exact h1
  · exact absurd (by rw [e]; simp) h
theorem cut_uniq {s : Nat} : ∀ {a d b n : List Nat}, s ∉ a → s ∉ d → d ++ s :: n = a ++ s :: b → a = d ∧ b = n
  | [], [], _, _, _, _, e => by injection e with _ e; exact ⟨rfl, e.symm⟩
  | [], x :: d, _, _, _, h, e => by injection e with e _; exact absurd (by rw [e]; simp) h
  | x :: a, [], _, _, h, _, e => by injection e with e _; exact absurd (by rw [e]; simp) h
  | x :: a, y :: d, _, _, h1, h2, e => by
    injection e with e1 e2
    obtain ⟨r1, r2⟩ := cut_uniq (fun z => h1 (List.mem_cons_of_mem _ z)) (fun z => h2 (List.mem_cons_of_mem _ z)) e2
    exact ⟨by rw [e1, r1], r2⟩
theorem par_yes {d n : List Nat} (h : 42 ∉ d) : par [42] [] (d ++ 42 :: n) = some (d, n) := by
  rcases spl_par 42 (d ++ 42 :: n) [] with ⟨_, _, no⟩ | ⟨a, b, h1, _, na, e⟩
  · exact absurd (by simp) no
  · obtain ⟨r1, r2⟩ := cut_uniq na h e
    rw [h1, r1, r2]; rfl
theorem star_no {l : List Nat} (h : 42 ∉ l) : Txt.partition (S l) (Str.ofString "*") = (S l, S [], S []) := by
  rw [lit "*" [42], SX.partition_none (by simp) (par_no h)]
theorem star_yes {d n : List Nat} (h : 42 ∉ d) : Txt.partition (S (d ++ 42 :: n)) (Str.ofString "*") = (S d, S [42], S n) := by
  rw [lit "*" [42], SX.partition_some (by simp) (par_yes h)]
theorem Nml.no {n : List Nat} (h : Nml n) {s : Nat} (hs : s < 97) (h9 : s ≠ 39) : s ∉ n := fun z => by have := h.ok s z; omega
theorem sem_p_read_size : ∀ ds ms Q Z, sx_p_read_size ds ms Q Z → t_p_read_size { nx := fun _ m => Q .non m, rt := Q, ex := fun c ns xs _ m => Z c ns xs m } (startD 5 ds) ms := by
  intro ds ms Q Z h
  unfold sx_p_read_size at h
  split at h
  · rename_i d t
    obtain ⟨ns, c, n, rfl, rfl, nm, hn, bc, h⟩ := h
    have L : ∀ {a : Nat}, a ≤ 30000 → a ≤ sizeLine := fun h => Nat.le_trans h (by decide)
    have n6 : n.length ≤ 7 := by rcases hn with rfl | hn; decide; exact (nm n hn).l6
    have pl := pt_len bc n6 (by decide)
    simp only [startD]
    have d42 : 42 ∉ numL c.natAbs := numL_free (by omega)
    have key : ∀ (l : List Nat) (st nm2 : List Nat), l.length ≤ 1100 → Txt.partition (S (pt c n)) (Str.ofString "*") = (S l, S st, S nm2) → (pt c n).length ≤ 1100 →
        StG t_p_read_size_c1 { nx := fun _ m => Q .non m, rt := Q, ex := fun c ns xs _ m => Z c ns xs m } [some (.dct (sptU ns)), some (.str (S (pt c n))), some (.str (S l)), some (.str (S st)), some (.str (S nm2))] ms → t_p_read_size { nx := fun _ m => Q .non m, rt := Q, ex := fun c ns xs _ m => Z c ns xs m } [some (.dct (sptU ns)), some (.str (S (pt c n))), none, none, none] ms := fun l st nm2 ll e pl h => by
      unfold t_p_read_size
      walk_at "st"
      refine ⟨rfl, L (by rw [lenS]; omega), ?_⟩
      rw [e]
      walk_at "st"
      exact h
    by_cases h0 : n = []
    · have ep : pt c n = numL c.natAbs := if_pos h0
      refine key (numL c.natAbs) [] [] (by rw [← ep]; exact pl) (by rw [ep]; exact star_no d42) pl ?_
      have nl : (numL c.natAbs).length ≤ 901 := numL_len' (show c.natAbs < 2 ^ 900 from bc)
      have no : numL c.natAbs ∉ ns := fun z => by
        obtain ⟨x, r, e⟩ := List.exists_cons_of_ne_nil (numL_ne c.natAbs)
        have g := (nm _ z).ok x (by rw [e]; simp)
        have d := numL_digits c.natAbs x (by rw [e]; simp)
        omega
      unfold t_p_read_size_c1
      walk_at "st"
      refine OpG.out (w_inDct ?_)
      rw [getD_spt, if_neg no]
      walk_at "st"
      refine ⟨by rw [lenS]; omega, ?_⟩
      rw [tlS, num_figs]
      walk_at "st"
      refine ⟨numL_digits _, numL_ne _, by rw [lenS]; omega, ?_⟩
      rw [tlS, numL_val]
      walk_at "st"
      unfold ixU at h
      rw [if_pos h0] at h
      exact h
    · have hn := hn.resolve_left h0
      have gn := nm n hn
      have ei : getD (sptU ns) (S n) = some ((ns.idxOf n : Int) + 1) := by rw [getD_spt, if_pos hn]
      unfold ixU at h
      rw [if_neg h0] at h
      by_cases h1 : c.natAbs = 1
      · have ep : pt c n = n := by unfold pt; rw [if_neg h0, if_pos h1]
        refine key n [] [] (by omega) (by rw [ep]; exact star_no (gn.no (by decide) (by decide))) pl ?_
        unfold t_p_read_size_c1
        walk_at "st"
        refine OpG.out (w_inDct ?_)
        rw [ei]
        walk_at "st"
        refine ExG.out (w_dget ?_)
        walk_at "st"
        refine w_mDGet ei ?_
        walk_at "st"
        rw [h1] at h
        exact h
      · have ep : pt c n = numL c.natAbs ++ 42 :: n := by unfold pt; rw [if_neg h0, if_neg h1]
        have nl : (numL c.natAbs).length ≤ 901 := numL_len' (show c.natAbs < 2 ^ 900 from bc)
        refine key (numL c.natAbs) [42] n (by omega) (by rw [ep]; exact star_yes d42) pl ?_
        unfold t_p_read_size_c1
        walk_at "st"
        refine ⟨by rw [lenS]; omega, ?_⟩
        rw [tlS, num_figs]
        walk_at "st"
        refine OpG.out (w_notInDct ?_)
        rw [ei]
        walk_at "st"
        refine ExG.out (w_dget ?_)
        walk_at "st"
        refine w_mDGet ei ?_
        walk_at "st"
        refine ⟨numL_digits _, numL_ne _, by rw [lenS]; omega, ?_⟩
        rw [tlS, numL_val]
        walk_at "st"
        exact h
  · exact h.elim
theorem okx_p_read_size (T : Tx P K mg) : FnX P w K mg base 2 T.f_p_read_size T.d_p_read_size ["spots", "text"] (spX K sx_p_read_size) := by
  have G_p_is_figures := ok_p_is_figures (P := P) (w := w) (base := base) T
  have G_p_of_figures := ok_p_of_figures (P := P) (w := w) (base := base) T
  exact fnX_of (k := 1) (t := t_p_read_size) T.F_p_read_size sc_p_read_size len_p_read_size
    (fun cdv A outer s H E hr W tk => px_cons (px_of (pds_asg (vs := [2, 3, 4]) (pd_m1 PySem.F.slot_str_partition PySem.F.type_str_partition mt_partition mtd_part (pd_var 1) (pd_str)) (pg_tup rfl (pgs_cons (pg_name (i := 2) sc_p_read_size.nd rfl (.inl rfl)) (pgs_cons (pg_name (i := 3) sc_p_read_size.nd rfl (.inl rfl)) (pgs_cons (pg_name (i := 4) sc_p_read_size.nd rfl (.inl rfl)) (pgs_nil))))) (tg_tup (tgs_cons (tg_name (i := 2) (by decide)) (tgs_cons (tg_name (i := 3) (by decide)) (tgs_cons (tg_name (i := 4) (by decide)) (tgs_nil) (mon_name (i := 4))) (mon_name (i := 3))) (mon_name (i := 2)))))) (px_cons (px_if (pdt_w (pdw_and (pdt_cmp (op_eqF hr.r.units) opd_eq (pd_var 3) (pd_str)) (pdw_and1 (pdt_cmp (op_inDct hr.u64) opd_inDct (pd_var 2) (pd_var 0) (by rfl))))) (px_one (px_of (pds_ret (pd_tup (pda_cons (pd_dget hr.u1 (pd_var 0) (pd_var 2) (fun _ _ => by rfl)) (pda_cons (pd_int) (pda_nil))))))) (px_nil)) (px_cons (px_if (pdt_not (pdt_val (pd_call G_p_is_figures (hr.mono (by decide)) rfl T.g_p_is_figures T.F_p_is_figures.kp T.b_p_is_figures_1 (pda_cons (pd_var 2) (pda_nil))))) (px_one (px_raiseI rfl tk (xb_of PySem.F.excBase_ValueError) PySem.F.store_ValueError PySem.W.kxs_ValueError T.i_NoText T.j_NoText hr rfl T.gx_NoText (pda_cons (pd_int) (pda_nil)))) (px_nil)) (px_cons (px_if (pdt_cmp (op_eqF hr.r.units) opd_eq (pd_var 3) (pd_str)) (px_one (px_of (pds_ret (pd_tup (pda_cons (pd_int) (pda_cons (pd_call G_p_of_figures (hr.mono (by decide)) rfl T.g_p_of_figures T.F_p_of_figures.kp T.b_p_of_figures_1 (pda_cons (pd_var 2) (pda_nil))) (pda_nil))))))) (px_nil)) (px_cons (px_if (pdt_cmp (op_notInDct hr.u64) opd_notInDct (pd_var 4) (pd_var 0) (by rfl)) (px_one (px_raiseI rfl tk (xb_of PySem.F.excBase_ValueError) PySem.F.store_ValueError PySem.W.kxs_ValueError T.i_NoText T.j_NoText hr rfl T.gx_NoText (pda_cons (pd_int) (pda_nil)))) (px_nil)) (px_one (px_of (pds_ret (pd_tup (pda_cons (pd_dget hr.u1 (pd_var 0) (pd_var 4) (fun _ _ => by rfl)) (pda_cons (pd_call G_p_of_figures (hr.mono (by decide)) rfl T.g_p_of_figures T.F_p_of_figures.kp T.b_p_of_figures_1 (pda_cons (pd_var 2) (pda_nil))) (pda_nil))))))))))))
    sem_p_read_size
theorem ok_p_read_size (T : Tx P K mg) : FnG P w K mg base 2 T.f_p_read_size T.d_p_read_size ["spots", "text"] (spD K sp_p_read_size) := (okx_p_read_size T).plain pl_p_read_size
/-- what is read: of nought alone one part -/
def rdU (t : Tms) : Tms := if t = [] then [(0, [])] else t
def wdsU : Tms → List (List Nat)
  | [] => []
  | p :: r => (sgF p.1 ++ pt p.1 p.2) :: r.flatMap fun q => [[if q.1 < 0 then 45 else 43], pt q.1 q.2]
def sgD (p : Int × List Nat) : D := .tup [.bl (decide (p.1 < 0)), .str (S (pt p.1 p.2))]
def TmOk (t : Tms) : Prop := ∀ p ∈ t, Bd 900 p.1 ∧ p.2.length ≤ 7 ∧ ∀ c ∈ p.2, (97 ≤ c ∧ c < 123) ∨ c = 39
def sp_p_read_signs : FS := fun ds ms P => match ds with
  | [.lst ws] => ∃ t : Tms, ws = (wdsU t).map (fun w => .str (S w)) ∧ t ≠ [] ∧ t.length ≤ 9 ∧ TmOk t ∧ P (.lst (t.map sgD)) ms
  | _ => False
theorem len_p_read_signs : ∀ ds ms Q, sp_p_read_signs ds ms Q → ds.length = 1 := fun ds ms Q h => by
  unfold sp_p_read_signs at h
  split at h <;> first | rfl | exact h.elim
def t_p_read_signs_c1 : DTS := dSeq (dFor (iZipD (aCons (dStepL 1 2 (dVar 0)) (aCons (dStepL 2 2 (dVar 0)) (aNil)))) (sTup 2 (sCons (sName 3) (sCons (sName 4) (sNil)))) (dDrop (dAppend (dVar 2) (aCons (dTup (aCons (dOp fEq (dVar 3) (dC (.str "-"))) (aCons (dVar 4) (aNil)))) (aNil))))) (dRet (dFrz (dVar 2)))
def t_p_read_signs : DTS := dSeq (dAsg (dM1 mStarts (dOp fIx (dVar 0) (dC (.int 0))) (dC (.str "-"))) (sName 1)) (dSeq (dAsg (dLstM (aCons (dTup (aCons (dVar 1) (aCons (dIf (dTru (dVar 1)) (dSl (dOp fIx (dVar 0) (dC (.int 0))) (oSome (dC (.int 1))) (oNone)) (dOp fIx (dVar 0) (dC (.int 0)))) (aNil)))) (aNil))) (sName 2)) (t_p_read_signs_c1))
theorem flat_odd {α β : Type} (f g : α → β) : ∀ (r : List α) (k : Nat), (r.flatMap fun q => [f q, g q])[2 * k]? = (r.map f)[k]?
  | [], _ => rfl
  | x :: r, 0 => rfl
  | x :: r, k + 1 => by
    rw [List.flatMap_cons, show 2 * (k + 1) = 2 * k + 2 by omega]
    exact flat_odd f g r k
theorem flat_even {α β : Type} (f g : α → β) : ∀ (r : List α) (k : Nat), (r.flatMap fun q => [f q, g q])[2 * k + 1]? = (r.map g)[k]?
  | [], _ => rfl
  | x :: r, 0 => rfl
  | x :: r, k + 1 => by
    rw [List.flatMap_cons, show 2 * (k + 1) + 1 = 2 * k + 1 + 2 by omega]
    exact flat_even f g r k
theorem stepIx_is (n : Nat) (a : Nat) : stepIx n (a : Int) 2 = (List.range ((n - a + 1) / 2)).map fun k => a + 2 * k := by
  unfold stepIx
  have e1 : (sliceBounds (some (a : Int)) none (some 2) n).1 = ((min a n : Nat) : Int) := by simp only [sliceBounds, Option.getD_some]; omega
  have e2 : (sliceBounds (some (a : Int)) none (some 2) n).2.1 = (n : Int) := by simp [sliceBounds]
  have e3 : (sliceBounds (some (a : Int)) none (some 2) n).2.2 = 2 := rfl
  rw [e1, e2, e3]
  unfold sliceRange
  have e4 : (if (2 : Int) > 0 then (if ((min a n : Nat) : Int) < (n : Int) then ((n : Int) - ((min a n : Nat) : Int) + 2 - 1) / 2 else 0) else (if ((min a n : Nat) : Int) > (n : Int) then (((min a n : Nat) : Int) - (n : Int) - 2 - 1) / (-2) else 0)).toNat = (n - a + 1) / 2 := by
    rw [if_pos (by decide)]
    by_cases h : ((min a n : Nat) : Int) < (n : Int)
    · rw [if_pos h]; omega
    · rw [if_neg h]; omega
  simp only [e4]
  refine List.map_congr_left fun k hk => ?_
  have := List.mem_range.mp hk
  omega
theorem pick_all {α : Type} : ∀ l : List α, (List.range l.length).filterMap (fun k => l[k]?) = l
  | [] => rfl
  | x :: r => by
    rw [List.length_cons, List.range_succ_eq_map, List.filterMap_cons_some (f := fun k => (x :: r)[k]?) (a := 0) (b := x) rfl, List.filterMap_map]
    exact congrArg (x :: ·) (pick_all r)
theorem wds_len (p : Int × List Nat) (r : Tms) : (wdsU (p :: r)).length = 1 + 2 * r.length := by
  show ((sgF p.1 ++ pt p.1 p.2) :: r.flatMap _).length = _
  rw [List.length_cons]
  have : ∀ r : Tms, (r.flatMap fun q => [[if q.1 < 0 then 45 else 43], pt q.1 q.2]).length = 2 * r.length := fun r => by
    induction r with
    | nil => rfl
    | cons q r ih => simp only [List.flatMap_cons, List.length_append, ih, List.length_cons, List.length_nil]; omega
  rw [this]; omega
theorem step_gen {p : Int × List Nat} {r : Tms} (a : Nat) (f : Int × List Nat → D) (h1 : a = 1 ∨ a = 2) (h : ∀ k, ((wdsU (p :: r)).map fun w => D.str (S w))[a + 2 * k]? = (r.map f)[k]?) : stepL ((wdsU (p :: r)).map fun w => D.str (S w)) (a : Int) 2 = r.map f := by
  unfold stepL
  rw [List.length_map, wds_len, stepIx_is _ a]
  have e : (1 + 2 * r.length - a + 1) / 2 = (r.map f).length := by rw [List.length_map]; rcases h1 with rfl | rfl <;> omega
  rw [e, List.filterMap_map]
  have : (fun k => ((wdsU (p :: r)).map fun w => D.str (S w))[a + 2 * k]?) = fun k => (r.map f)[k]? := funext h
  show (List.range (r.map f).length).filterMap (fun k => ((wdsU (p :: r)).map fun w => D.str (S w))[a + 2 * k]?) = _
  rw [this, pick_all]
theorem step_odd {p : Int × List Nat} {r : Tms} : stepL ((wdsU (p :: r)).map fun w => D.str (S w)) 1 2 = r.map fun q => D.str (S [if q.1 < 0 then 45 else 43]) :=
  step_gen 1 _ (.inl rfl) fun k => by
    rw [List.getElem?_map, show 1 + 2 * k = 2 * k + 1 by omega]
    show Option.map _ ((sgF p.1 ++ pt p.1 p.2) :: r.flatMap _)[2 * k + 1]? = _
    rw [List.getElem?_cons_succ, flat_odd, List.getElem?_map, List.getElem?_map, Option.map_map]; rfl
theorem step_even {p : Int × List Nat} {r : Tms} : stepL ((wdsU (p :: r)).map fun w => D.str (S w)) 2 2 = r.map fun q => D.str (S (pt q.1 q.2)) :=
  step_gen 2 _ (.inr rfl) fun k => by
    rw [List.getElem?_map, show 2 + 2 * k = 2 * k + 1 + 1 by omega]
    show Option.map _ ((sgF p.1 ++ pt p.1 p.2) :: r.flatMap _)[2 * k + 1 + 1]? = _
    rw [List.getElem?_cons_succ, flat_even, List.getElem?_map, List.getElem?_map, Option.map_map]; rfl
theorem zip_same {α : Type} : ∀ r : List α, r.zip r = r.map fun q => (q, q)
  | [] => rfl
  | x :: r => by rw [List.zip_cons_cons, zip_same r]; rfl
theorem pt_no45 {c : Int} {n : List Nat} (h : ∀ x ∈ n, (97 ≤ x ∧ x < 123) ∨ x = 39) : (pt c n).take 1 ≠ [45] := by
  intro e
  have m45 : 45 ∈ pt c n := List.mem_of_mem_take (i := 1) (by rw [e]; simp)
  have dn : 45 ∉ numL c.natAbs := numL_free (by omega)
  unfold pt at m45
  by_cases h0 : n = []
  · rw [if_pos h0] at m45; exact dn m45
  · rw [if_neg h0] at m45
    by_cases h1 : c.natAbs = 1
    · rw [if_pos h1] at m45
      have := h 45 m45
      omega
    · rw [if_neg h1] at m45
      rcases List.mem_append.mp m45 with z | z
      · exact dn z
      · rcases List.mem_cons.mp z with z | z
        · omega
        · have := h 45 z
          omega
theorem sem_p_read_signs : ∀ ds ms Q, sp_p_read_signs ds ms Q → t_p_read_signs { nx := fun _ m => Q .non m, rt := Q } (startD 5 ds) ms := by
  intro ds ms Q h
  unfold sp_p_read_signs at h
  split at h
  · obtain ⟨t, rfl, ne, t9, ok, h⟩ := h
    obtain ⟨p, r, rfl⟩ := List.exists_cons_of_ne_nil ne
    have L : ∀ {a : Nat}, a ≤ 30000 → a ≤ sizeLine := fun h => Nat.le_trans h (by decide)
    simp only [startD]
    unfold t_p_read_signs
    walk_at "st"
    have o0 := ok p List.mem_cons_self
    have pl := pt_len o0.1 o0.2.1 (by decide)
    have e45 : (pt p.1 p.2).take 1 ≠ [45] := pt_no45 o0.2.2
    have hst : Txt.startswith (S (sgF p.1 ++ pt p.1 p.2)) (Str.ofString "-") = decide (p.1 < 0) := by
      rw [lit "-" [45], starts_S]
      by_cases hs : p.1 < 0
      · unfold sgF
        rw [if_pos hs, decide_eq_true hs]; rfl
      · unfold sgF
        rw [if_neg hs, decide_eq_false hs, List.nil_append]
        exact decide_eq_false e45
    rw [hst]
    have go : ∀ x : D, x = .str (S (pt p.1 p.2)) → ∀ q : Addr, (∀ e ∈ ms, e.1 ≠ q) → StG t_p_read_signs_c1 { nx := fun _ m => Q .non m, rt := Q } [some (.lst ((wdsU (p :: r)).map fun w => .str (S w))), some (.bl (decide (p.1 < 0))), some (.opq (.ref q)), none, none] ((q, [.tup [.bl (decide (p.1 < 0)), x]]) :: ms) := fun x ex q hq => by
      subst ex
      unfold t_p_read_signs_c1
      walk_at "st"
      refine ExG.out (w_stepL ?_)
      walk_at "st"
      refine w_mStepL ?_
      walk_at "st"
      refine ExG.out (w_stepL ?_)
      walk_at "st"
      refine w_mStepL ?_
      walk_at "st"
      rw [step_odd, step_even, zipD_mpU, zip_same, List.map_map]
      have tl : r.length ≤ 8 := by rw [List.length_cons] at t9; omega
      refine loop_lU (fun z : Int × List Nat => D.tup [.str (S [if z.1 < 0 then 45 else 43]), .str (S (pt z.1 z.2))]) r (fun pre ds m => ∃ x3 x4, ds = [some (.lst ((wdsU (p :: r)).map fun w => .str (S w))), some (.bl (decide (p.1 < 0))), some (.opq (.ref q)), x3, x4] ∧ m = (q, (p :: pre).map sgD) :: ms) r [] _ _ rfl ⟨_, _, rfl, rfl⟩ ?_ ?_
      · rintro pre z rest ds m split ⟨x3, x4, rfl, rfl⟩ N hN
        have pl2 : pre.length ≤ 8 := by have := congrArg List.length split; rw [List.length_append, List.length_cons] at this; omega
        walk_at "st"
        have eb : (S [if z.1 < 0 then 45 else 43] == Str.ofString "-") = decide (z.1 < 0) := by
          rw [lit "-" [45], S_beq]
          by_cases hs : z.1 < 0
          · rw [if_pos hs, decide_eq_true hs]; rfl
          · rw [if_neg hs, decide_eq_false hs]; rfl
        rw [eb]
        refine ⟨Nat.lt_of_lt_of_le (show ((p :: pre).map sgD).length < 20 by rw [List.length_map, List.length_cons]; omega) (by decide), ?_⟩
        walk_at "st"
        refine hN _ _ ⟨_, _, rfl, ?_⟩
        rw [← List.cons_append, List.map_append]; rfl
      · rintro ds m ⟨x3, x4, rfl, rfl⟩
        walk_at "st"
        exact h
    have s1 : (sgF p.1).length ≤ 1 := by unfold sgF; split <;> decide
    by_cases hs : p.1 < 0
    · refine w_iteT (decide_eq_true hs) ?_
      walk_at "st"
      refine ⟨L (by rw [lenS, List.length_append]; omega), ?_⟩
      walk_at "st"
      intro q hq
      walk_at "st"
      exact go _ (by rw [cutS_S, cutL_1]; unfold sgF; rw [if_pos hs]; rfl) q hq
    · refine w_iteF (decide_eq_false hs) ?_
      walk_at "st"
      intro q hq
      walk_at "st"
      exact go _ (by show D.str (S (sgF p.1 ++ pt p.1 p.2)) = _; unfold sgF; rw [if_neg hs]; rfl) q hq
  · exact h.elim
theorem ok_p_read_signs (T : Tx P K mg) : FnG P w K mg base 1 T.f_p_read_signs T.d_p_read_signs ["words"] (spD K sp_p_read_signs) := by
  exact fnG_of (k := 0) (t := t_p_read_signs) T.F_p_read_signs sc_p_read_signs len_p_read_signs
    (fun cdv A outer s H hr => pds_cons (pds_set (i := 1) sc_p_read_signs.nd rfl (.inl rfl) (pd_m1 PySem.F.slot_str_startswith PySem.F.type_str_startswith mt_startswith mtd_starts (pd_ix ix_seq opd_ix (pd_var 0) (pd_int)) (pd_str))) (pds_cons (pds_set (i := 2) sc_p_read_signs.nd rfl (.inl rfl) (pd_lstM (pda_cons (pd_tup (pda_cons (pd_var 1) (pda_cons (pd_ifExp (pdt_tru (pd_var 1)) (pd_slice (pd_ix ix_seq opd_ix (pd_var 0) (pd_int)) (pdo_some (pd_int)) (pdo_none)) (pd_ix ix_seq opd_ix (pd_var 0) (pd_int))) (pda_nil)))) (pda_nil)))) (pds_cons (pds_for (vs := [3, 4]) rfl (pdi_zip rfl T.n_zip (pda_cons (pd_stepL (by decide) (pd_var 0)) (pda_cons (pd_stepL (by decide) (pd_var 0)) (pda_nil)))) (pg_tup rfl (pgs_cons (pg_name (i := 3) sc_p_read_signs.nd rfl (.inl rfl)) (pgs_cons (pg_name (i := 4) sc_p_read_signs.nd rfl (.inl rfl)) (pgs_nil)))) (tg_tup (tgs_cons (tg_name (i := 3) (by decide)) (tgs_cons (tg_name (i := 4) (by decide)) (tgs_nil) (mon_name (i := 4))) (mon_name (i := 3)))) (pds_one (pds_expr (pd_append (pd_var 2) (pda_cons (pd_tup (pda_cons (pd_cmp (op_eqF hr.r.units) opd_eq (pd_var 3) (pd_str)) (pda_cons (pd_var 4) (pda_nil)))) (pda_nil)))))) (pds_one (pds_ret (pd_frz (pd_var 2)))))))
    sem_p_read_signs
def sx_p_read_line : FX := fun ds ms P Z => match ds with
  | [a, .str t] => ∃ (ns : List (List Nat)) (is : List Int), a = nsD ns ∧ LnU 900 ns is ∧ t = S (txT (tms is ([] :: ns))) ∧ flatM ms ∧ ∀ p, (∀ q ∈ ms, q.1 ≠ p) → P (.opq (.ref p)) ((p, is.map D.int) :: ms)
  | _ => False
def sp_p_read_line : FS := fun ds ms P => sx_p_read_line ds ms P fun _ _ _ _ => False
theorem pl_p_read_line : ∀ ds ms P, sp_p_read_line ds ms P → sx_p_read_line ds ms P fun _ _ _ _ => False := fun _ _ _ h => h
theorem len_p_read_line : ∀ ds ms Q Z, sx_p_read_line ds ms Q Z → ds.length = 2 := fun ds ms Q Z h => by
  unfold sx_p_read_line at h
  split at h <;> first | rfl | exact h.elim
def t_p_read_line : DTS := dSeq (dIfS (dNot (dTest (dIsi .str (dVar 1)))) (dRaiseI "NoText" ["row"] (aCons (dC (.int 0)) (aNil))) (dNext)) (dSeq (dAsg (dDc (iEnumD (aCons (dVar 0) (aNil))) (sTup 2 (sCons (sName 2) (sCons (sName 8) (sNil)))) dYes (dVar 8) (dOp fAdd (dVar 2) (dC (.int 1))) [2, 8]) (sName 3)) (dSeq (dAsg (dOp fMulM (dLst (aCons (dC (.int 0)) (aNil))) (dOp fAdd (dCB cLen (aCons (dVar 0) (aNil))) (dC (.int 1)))) (sName 4)) (dSeq (dFor (iSeq (dCall 1 0 [0] sp_p_read_signs (aCons (dM1 mSplit (dVar 1) (dC (.str " "))) (aNil)) (aNil))) (sTup 2 (sCons (sName 5) (sCons (sName 6) (sNil)))) (dSeq (dAsgZ (fun Z => dCallZ 2 0 [0, 1] sx_p_read_size (aCons (dVar 3) (aCons (dVar 6) (aNil))) (aNil) Z) (sTup 2 (sCons (sName 2) (sCons (sName 7) (sNil))))) (dSetIx (dVar 4) (dVar 2) (dIf (dTru (dVar 5)) (dNeg (dVar 7)) (dVar 7))))) (dSeq (dIfS (dTest (dOp fNe (dView 4 (dCall 2 0 [0, 1] sp_p_shown_line (aCons (dVar 0) (aCons (dVar 4) (aNil))) (aNil))) (dVar 1))) (dRaiseI "NoText" ["row"] (aCons (dC (.int 0)) (aNil))) (dNext)) (dRet (dVar 4))))))
theorem pt_no32 {c : Int} {n : List Nat} (h : ∀ x ∈ n, (97 ≤ x ∧ x < 123) ∨ x = 39) : 32 ∉ pt c n := by
  intro m
  have dn : 32 ∉ numL c.natAbs := numL_free (by omega)
  unfold pt at m
  by_cases h0 : n = []
  · rw [if_pos h0] at m; exact dn m
  · rw [if_neg h0] at m
    by_cases h1 : c.natAbs = 1
    · rw [if_pos h1] at m
      have := h 32 m
      omega
    · rw [if_neg h1] at m
      rcases List.mem_append.mp m with z | z
      · exact dn z
      · rcases List.mem_cons.mp z with z | z
        · omega
        · have := h 32 z
          omega
theorem spl_step {a b : List Nat} (h : 32 ∉ a) : spl [32] 0 [] (a ++ 32 :: b) = a :: spl [32] 0 [] b := by
  rcases spl_par 32 (a ++ 32 :: b) [] with ⟨_, _, no⟩ | ⟨x, y, _, h2, nx, e⟩
  · exact absurd (by simp) no
  · obtain ⟨r1, r2⟩ := cut_uniq nx h e
    rw [h2, r1, r2]; rfl
theorem spl_end {a : List Nat} (h : 32 ∉ a) : spl [32] 0 [] a = [a] := by
  rcases spl_par 32 a [] with ⟨_, h2, _⟩ | ⟨x, y, _, _, _, e⟩
  · exact h2
  · exact absurd (by rw [e]; simp) h
theorem spl_rest : ∀ (r : Tms) (a : List Nat), 32 ∉ a → TmOk r → spl [32] 0 [] (a ++ r.flatMap fun p => sgM p.1 ++ pt p.1 p.2) = a :: r.flatMap fun q => [[if q.1 < 0 then 45 else 43], pt q.1 q.2]
  | [], a, ha, _ => by rw [List.flatMap_nil, List.append_nil]; exact spl_end ha
  | q :: r, a, ha, ok => by
    have oq := ok q List.mem_cons_self
    have e : sgM q.1 = [32, if q.1 < 0 then 45 else 43, 32] := by unfold sgM; split <;> rfl
    rw [List.flatMap_cons, List.flatMap_cons, e]
    show spl [32] 0 [] (a ++ (32 :: ([if q.1 < 0 then 45 else 43] ++ 32 :: pt q.1 q.2) ++ _)) = _
    rw [List.cons_append, spl_step ha]
    show a :: spl [32] 0 [] ([if q.1 < 0 then 45 else 43] ++ 32 :: (pt q.1 q.2 ++ r.flatMap fun p => sgM p.1 ++ pt p.1 p.2)) = _
    rw [spl_step (by
      intro z
      have := List.mem_singleton.mp z
      split at this <;> omega), spl_rest r (pt q.1 q.2) (pt_no32 oq.2.2) fun z hz => ok z (List.mem_cons_of_mem _ hz)]
    rfl
theorem spl_acT {u : Tms} (ne : u ≠ []) (ok : TmOk u) : spl [32] 0 [] (acT u) = wdsU u := by
  obtain ⟨p, r, rfl⟩ := List.exists_cons_of_ne_nil ne
  have op := ok p List.mem_cons_self
  show spl [32] 0 [] (sgF p.1 ++ pt p.1 p.2 ++ _) = _
  rw [spl_rest r _ (by
    intro z
    rcases List.mem_append.mp z with z | z
    · unfold sgF at z
      split at z
      · have := List.mem_singleton.mp z; omega
      · cases z
    · exact pt_no32 op.2.2 z) fun z hz => ok z (List.mem_cons_of_mem _ hz)]
  rfl
theorem txT_rd (t : Tms) : txT t = acT (rdU t) := by
  unfold txT rdU
  by_cases h : t = []
  · rw [if_pos h, if_pos h]; decide +kernel
  · rw [if_neg h, if_neg h]
theorem enumD_atU {α : Type} (e : α → D) (xs : List α) : enumD (xs.map e) = (xs.zipIdx).map fun p => .tup [.int (p.2 : Int), e p.1] := by
  unfold enumD rng
  refine List.ext_getElem? fun i => ?_
  rw [List.getElem?_zipWith, List.getElem?_map, List.getElem?_map, List.getElem?_map, List.getElem?_zipIdx, List.length_map]
  by_cases h : i < xs.length
  · rw [List.getElem?_range h, List.getElem?_eq_getElem h]
    show some (D.tup [.int (0 + (i : Int)), e xs[i]]) = some (.tup [.int ((0 + i : Nat) : Int), e xs[i]])
    rw [Int.zero_add, Nat.zero_add]
  · rw [List.getElem?_eq_none (by rw [List.length_range]; omega), List.getElem?_eq_none (by omega)]; rfl
theorem put_spt {pre : List (List Nat)} {n : List Nat} (h : n ∉ pre) : putD (sptU pre) (S n) ((pre.length : Int) + 1) = sptU (pre ++ [n]) := by
  have e : ((sptU pre).any fun kv => decide (kv.1 = S n)) = false := by
    rw [List.any_eq_false]
    intro kv hkv
    obtain ⟨p, hp, rfl⟩ := List.mem_map.mp hkv
    have := (List.mem_zipIdx hp).2.2
    intro z
    have z := S_inj (of_decide_eq_true z)
    exact h (by rw [← z, this]; exact List.getElem_mem _)
  unfold putD
  rw [e]
  unfold sptU
  rw [List.zipIdx_append, List.map_append]
  simp
theorem comp_dctU {g : DG} {tk tv : DE} {ds : DS} {ms : MS} {P : List (Str × Int) → MS → Prop} : ∀ (r pre : List (List Nat)), (pre ++ r).Nodup → pre.length + r.length ≤ 1000 →
    (∀ n ∈ r, ∀ (k : Nat) (K : D → D → MS → Prop), K (.str (S n)) (.int ((k : Int) + 1)) ms → g (.tup [.int (k : Int), nmD n]) ds fun ds2 => tk ds2 ms fun y m4 => tv ds2 m4 fun z m5 => K y z m5) →
    P (sptU (pre ++ r)) ms → compDD g dYes tk tv ds ((r.zipIdx pre.length).map fun p => D.tup [.int (p.2 : Int), nmD p.1]) (sptU pre) ms P
  | [], pre, _, _, _, h => by rw [List.append_nil] at h; exact h
  | n :: r, pre, nd, hl, t, h => by
    rw [List.length_cons] at hl
    rw [List.zipIdx_cons, List.map_cons]
    unfold compDD
    have hn : n ∉ pre := fun z => by
      have := (List.nodup_append.mp nd).2.2 n z n List.mem_cons_self
      exact this rfl
    refine t n List.mem_cons_self pre.length (fun y z m5 => ddPut y z (sptU pre) fun acc' => compDD g dYes tk tv ds ((r.zipIdx (pre.length + 1)).map fun p => D.tup [.int (p.2 : Int), nmD p.1]) acc' m5 P) ?_
    refine ⟨Nat.lt_of_lt_of_le (show (sptU pre).length < 2000 by unfold sptU; rw [List.length_map, List.length_zipIdx]; omega) (by decide), ?_⟩
    rw [put_spt hn]
    have := comp_dctU (g := g) (tk := tk) (tv := tv) (ds := ds) (ms := ms) (P := P) r (pre ++ [n]) (by rw [List.append_assoc]; exact nd) (by rw [List.length_append, List.length_singleton]; omega) (fun z hz => t z (List.mem_cons_of_mem _ hz)) (by rw [List.append_assoc]; exact h)
    rw [List.length_append, List.length_singleton] at this
    exact this
def ixNm (ns : List (List Nat)) (n : List Nat) : Nat := if n = [] then 0 else ns.idxOf n + 1
theorem ixU_N (ns : List (List Nat)) (n : List Nat) : ixU ns n = (ixNm ns n : Int) := by
  unfold ixU ixNm
  split
  · rfl
  · omega
def setU (ns : List (List Nat)) (l : List Int) (t : Tms) : List Int := t.foldl (fun l q => l.set (ixNm ns q.2) q.1) l
theorem setU_len (ns : List (List Nat)) : ∀ (t : Tms) (l : List Int), (setU ns l t).length = l.length
  | [], _ => rfl
  | q :: r, l => (setU_len ns r (l.set (ixNm ns q.2) q.1)).trans (List.length_set ..)
theorem setU_at {ns : List (List Nat)} {k : Nat} {c : Int} : ∀ (t : Tms) (l : List Int), k < l.length → (∀ q ∈ t, ixNm ns q.2 = k → q.1 = c) → (l[k]? = some c ∨ ∃ q ∈ t, ixNm ns q.2 = k) → (setU ns l t)[k]? = some c
  | [], l, _, _, h => by
    rcases h with h | ⟨q, hq, _⟩
    · exact h
    · cases hq
  | q :: r, l, hk, hc, h => by
    refine setU_at r (l.set (ixNm ns q.2) q.1) (by rw [List.length_set]; exact hk) (fun z hz => hc z (List.mem_cons_of_mem _ hz)) ?_
    by_cases e : ixNm ns q.2 = k
    · left
      rw [e, List.getElem?_set_self hk, hc q List.mem_cons_self e]
    · rw [List.getElem?_set_ne e]
      rcases h with h | ⟨z, hz, ez⟩
      · exact .inl h
      · rcases List.mem_cons.mp hz with rfl | hz
        · exact absurd ez e
        · exact .inr ⟨z, hz, ez⟩
theorem ixNm_at {ns : List (List Nat)} (nd : ns.Nodup) (ne : ∀ n ∈ ns, n ≠ []) {j : Nat} (h : j < ([] :: ns).length) : ixNm ns (([] :: ns)[j]) = j := by
  cases j with
  | zero => rfl
  | succ i =>
    have hi : i < ns.length := by rw [List.length_cons] at h; omega
    rw [List.getElem_cons_succ]
    unfold ixNm
    rw [if_neg (ne _ (List.getElem_mem hi)), nd.idxOf_getElem]
theorem setU_all {B : Nat} {ns : List (List Nat)} {is : List Int} (ok : LnU B ns is) : setU ns (List.replicate (ns.length + 1) 0) (rdU (tms is ([] :: ns))) = is := by
  have ne : ∀ n ∈ ns, n ≠ [] := fun n hn => (ok.nm n hn).l1
  have ln := ok.ln
  refine List.ext_getElem? fun k => ?_
  by_cases hk : k < is.length
  · rw [List.getElem?_eq_getElem hk]
    have hN : k < ([] :: ns).length := by rw [List.length_cons]; omega
    have zk : (is[k], ([] :: ns)[k]) ∈ is.zip ([] :: ns) := by
      have : (is.zip ([] :: ns))[k]? = some (is[k], ([] :: ns)[k]) := by
        rw [List.getElem?_zip_eq_some]
        exact ⟨List.getElem?_eq_getElem hk, List.getElem?_eq_getElem hN⟩
      exact List.mem_of_getElem? this
    have of : ∀ q ∈ tms is ([] :: ns), ixNm ns q.2 = k → q.1 = is[k] := fun q hq e => by
      obtain ⟨j, hj, ej⟩ := List.mem_iff_getElem.mp (List.mem_filter.mp hq).1
      rw [List.getElem_zip] at ej
      have hj1 : j < is.length := by rw [List.length_zip] at hj; omega
      have hj2 : j < ([] :: ns).length := by rw [List.length_zip] at hj; omega
      have e2 : q.2 = ([] :: ns)[j] := by rw [← ej]
      rw [e2, ixNm_at ok.nd ne hj2] at e
      subst e
      rw [← ej]
    have z0 : is[k] = 0 → (List.replicate (ns.length + 1) (0 : Int))[k]? = some is[k] := fun z => by rw [z, List.getElem?_replicate, if_pos (by omega)]
    have inT : is[k] ≠ 0 → (is[k], ([] :: ns)[k]) ∈ tms is ([] :: ns) := fun z => List.mem_filter.mpr ⟨zk, by simp [z]⟩
    refine setU_at _ _ (by rw [List.length_replicate]; omega) (fun q hq e => ?_) ?_
    · unfold rdU at hq
      by_cases h0 : tms is ([] :: ns) = []
      · rw [if_pos h0] at hq
        rw [List.mem_singleton.mp hq]
        by_cases z : is[k] = 0
        · exact z.symm
        · have := inT z
          rw [h0] at this; cases this
      · rw [if_neg h0] at hq
        exact of q hq e
    · by_cases z : is[k] = 0
      · exact .inl (z0 z)
      · right
        have m := inT z
        refine ⟨(is[k], ([] :: ns)[k]), ?_, ixNm_at ok.nd ne hN⟩
        unfold rdU
        rw [if_neg fun h0 => by rw [h0] at m; cases m]
        exact m
  · have h1 : (setU ns (List.replicate (ns.length + 1) 0) (rdU (tms is ([] :: ns))))[k]? = none := List.getElem?_eq_none (by rw [setU_len, List.length_replicate]; omega)
    rw [h1, List.getElem?_eq_none (by omega)]
theorem rd_ok {ns : List (List Nat)} {is : List Int} (ok : LnU 900 ns is) : TmOk (rdU (tms is ([] :: ns))) ∧ (rdU (tms is ([] :: ns))).length ≤ 9 ∧ rdU (tms is ([] :: ns)) ≠ [] ∧ ∀ q ∈ rdU (tms is ([] :: ns)), q.2 = [] ∨ q.2 ∈ ns := by
  have n8 := ok.n8
  have ln := ok.ln
  have zl : (tms is ([] :: ns)).length ≤ 9 := Nat.le_trans (List.length_filter_le ..) (by rw [List.length_zip, List.length_cons]; omega)
  have mem : ∀ q ∈ tms is ([] :: ns), Bd 900 q.1 ∧ (q.2 = [] ∨ q.2 ∈ ns) := fun q hq => by
    have := List.of_mem_zip (List.mem_filter.mp hq).1
    exact ⟨ok.bd _ this.1, List.mem_cons.mp this.2⟩
  have each : ∀ q : Int × List Nat, Bd 900 q.1 → (q.2 = [] ∨ q.2 ∈ ns) → Bd 900 q.1 ∧ q.2.length ≤ 7 ∧ ∀ c ∈ q.2, (97 ≤ c ∧ c < 123) ∨ c = 39 := fun q b h => by
    rcases h with e | e
    · rw [e]; exact ⟨b, by decide, fun c hc => by cases hc⟩
    · exact ⟨b, (ok.nm _ e).l6, (ok.nm _ e).ok⟩
  unfold rdU
  by_cases h0 : tms is ([] :: ns) = []
  · rw [if_pos h0]
    refine ⟨fun q hq => ?_, by decide, by simp, fun q hq => ?_⟩
    · rw [List.mem_singleton.mp hq]; exact each (0, []) (by unfold Bd; decide) (.inl rfl)
    · rw [List.mem_singleton.mp hq]; exact .inl rfl
  · rw [if_neg h0]
    exact ⟨fun q hq => each q (mem q hq).1 (mem q hq).2, zl, h0, fun q hq => (mem q hq).2⟩
theorem ne_selfS (z : Str) : (!(z == z)) = false := by simp
theorem ne_selfT (z : Str) : (z != z) = false := by simp
theorem sem_p_read_line : ∀ ds ms Q Z, sx_p_read_line ds ms Q Z → t_p_read_line { nx := fun _ m => Q .non m, rt := Q, ex := fun c ns xs _ m => Z c ns xs m } (startD 9 ds) ms := by
  intro ds ms Q Z h
  unfold sx_p_read_line at h
  split at h
  · rename_i a t
    obtain ⟨ns, is, rfl, ok, rfl, fm, h⟩ := h
    have L : ∀ {a : Nat}, a ≤ 30000 → a ≤ sizeLine := fun h => Nat.le_trans h (by decide)
    simp only [startD]
    unfold t_p_read_line nsD
    walk_at "st"
    refine ExG.out (w_dc ?_)
    walk_at "st"
    have n8 := ok.n8
    simp only [wipeD, List.set]
    rw [enumD_atU]
    refine comp_dctU ns [] ok.nd (by rw [List.length_nil]; omega) (fun n hn k K q => ?_) ?_
    · unfold nmD
      walk_at "st"
      exact q
    rw [List.nil_append]
    walk_at "st"
    obtain ⟨tok, t9, tne, tin⟩ := rd_ok ok
    have tl := tms_len ok (by decide)
    rw [List.length_map]
    refine OpG.out (show fMulM _ _ _ _ from ⟨⟨by omega, by omega, Nat.le_trans (show 1 * ((ns.length : Int) + 1).toNat ≤ 100 by omega) (by decide)⟩, fun p hp => ?_⟩)
    have ez : (List.replicate ((ns.length : Int) + 1).toNat [D.int 0]).flatten = (setU ns (List.replicate (ns.length + 1) 0) []).map D.int := by
      show _ = (List.replicate (ns.length + 1) (0 : Int)).map D.int
      rw [show ((ns.length : Int) + 1).toNat = ns.length + 1 by omega, List.map_replicate]
      generalize ns.length + 1 = k
      induction k with
      | zero => rfl
      | succ k ih => rw [List.replicate_succ, List.flatten_cons, ih, List.replicate_succ]; rfl
    rw [ez]
    walk_at "st"
    refine ⟨rfl, L (by rw [lenS]; omega), ?_⟩
    rw [txT_rd, lit " " [32], split_S (by simp) (by decide), spl_acT tne tok]
    walk_at "st"
    refine ⟨_, by rw [List.map_map]; rfl, tne, t9, tok, ?_⟩
    walk_at "st"
    generalize hu : rdU (tms is ([] :: ns)) = u at tok t9 tne tin tl
    have all := setU_all ok
    rw [hu] at all
    have put_ : ∀ (p : Addr) (x5 x6 x7 x8 : Option D) (z : Int × List Nat) (pre : Tms) (N : DS → MS → Prop), z ∈ u → (∀ ds' ms', (∃ x2 x5 x6 x7 x8, ds' = [some (nsD ns), some (.str (S (acT u))), x2, some (.dct (sptU ns)), some (.opq (.ref p)), x5, x6, x7, x8] ∧ ms' = (p, (setU ns (List.replicate (ns.length + 1) 0) (pre ++ [z])).map D.int) :: ms) → N ds' ms') →
        ∀ (E : EN) (y2 y5 y6 y7 : Option D), mSetIx (EN.lp E N) [some (nsD ns), some (.str (S (acT u))), y2, some (.dct (sptU ns)), some (.opq (.ref p)), y5, y6, y7, x8] (.int z.1) (.opq (.ref p)) (.int (ixU ns z.2)) ((p, (setU ns (List.replicate (ns.length + 1) 0) pre).map D.int) :: ms) := fun p x5 x6 x7 x8 z pre N hz hN E y2 y5 y6 y7 => by
      have lt : ixNm ns z.2 < ns.length + 1 := by
        unfold ixNm
        rcases tin z hz with e | e
        · rw [if_pos e]; omega
        · have := List.idxOf_lt_length_of_mem e
          split <;> omega
      have hix : ixN ((setU ns (List.replicate (ns.length + 1) 0) pre).map D.int).length (ixU ns z.2) = some (ixNm ns z.2) := by
        rw [List.length_map, setU_len, List.length_replicate, ixU_N]
        unfold ixN
        rw [if_pos (by omega), if_pos (by omega), Int.toNat_natCast]
      refine w_mSetIx look_new hix put_new ?_
      walk_at "st"
      refine hN _ _ ⟨_, _, _, _, _, rfl, ?_⟩
      rw [← List.map_set]
      unfold setU
      rw [List.foldl_append]; rfl
    refine loop_lU sgD u (fun pre ds m => ∃ x2 x5 x6 x7 x8, ds = [some (nsD ns), some (.str (S (acT u))), x2, some (.dct (sptU ns)), some (.opq (.ref p)), x5, x6, x7, x8] ∧ m = (p, (setU ns (List.replicate (ns.length + 1) 0) pre).map D.int) :: ms) u [] _ _ rfl ⟨_, _, _, _, _, rfl, rfl⟩ ?_ ?_
    · rintro pre z rest ds m split ⟨x2, x5, x6, x7, x8, rfl, rfl⟩ N hN
      have hz : z ∈ u := by rw [← split]; simp
      unfold sgD
      walk_at "st"
      refine ⟨ns, z.1, z.2, rfl, rfl, ok.nm, tin z hz, (tok z hz).1, ?_⟩
      walk_at "st"
      by_cases hs : z.1 < 0
      · refine w_iteT (decide_eq_true hs) ?_
        walk_at "st"
        rw [show -(z.1.natAbs : Int) = z.1 by omega]
        exact put_ p x5 x6 x7 x8 z pre N hz hN _ _ _ _ _
      · refine w_iteF (decide_eq_false hs) ?_
        walk_at "st"
        rw [show (z.1.natAbs : Int) = z.1 by omega]
        exact put_ p x5 x6 x7 x8 z pre N hz hN _ _ _ _ _
    · rintro ds m ⟨x2, x5, x6, x7, x8, rfl, rfl⟩
      rw [all]
      walk_at "st"
      refine ExG.out (w_view [(p, is.map D.int)] ms rfl rfl (.lst List.mem_cons_self (VwS.same _)) rfl ?_)
      walk_at "st"
      refine ⟨ns, is, rfl, rfl, ⟨ok.nm, ok.nd, ok.n8, ok.ln, fun i hi => (ok.bd i hi).mono (by decide)⟩, ?_⟩
      rw [txT_rd, hu]
      refine ⟨rfl, fm, ?_⟩
      walk_at "st"
      (first | rw [ne_selfS] | rw [ne_selfT] | skip)
      walk_at "st"
      exact h p hp
  · exact h.elim
theorem okx_p_read_line (T : Tx P K mg) : FnX P w K mg base 4 T.f_p_read_line T.d_p_read_line ["names", "text"] (spX K sx_p_read_line) := by
  have G_p_read_signs := ok_p_read_signs (P := P) (w := w) (base := base) T
  have G_p_read_size := ok_p_read_size (P := P) (w := w) (base := base) T
  have G_p_shown_line := ok_p_shown_line (P := P) (w := w) (base := base) T
  have X_p_read_size := okx_p_read_size (P := P) (w := w) (base := base) T
  exact fnX_of (k := 3) (t := t_p_read_line) T.F_p_read_line sc_p_read_line len_p_read_line
    (fun cdv A outer s H E hr W tk => px_cons (px_if (pdt_not (pdt_val (pd_isi .str (by decide) rfl T.n_isinstance rfl T.n_str (by decide +kernel) (by decide) (by decide) (pd_var 1)))) (px_one (px_raiseI rfl tk (xb_of PySem.F.excBase_ValueError) PySem.F.store_ValueError PySem.W.kxs_ValueError T.i_NoText T.j_NoText hr rfl T.gx_NoText (pda_cons (pd_int) (pda_nil)))) (px_nil)) (px_cons (px_of (pds_setDc (i := 3) (own := [("at", 2), ("name", 8)]) rfl sc_p_read_line.nd rfl rfl (sw_dict rfl rfl rfl (by decide +kernel)) (pdi_enum rfl T.n_enumerate (pda_cons (pd_var 0) (pda_nil))) (blkOk_by (own := [("at", 2), ("name", 8)]) (by kernel_rfl)) (fun _ _ _ _ _ => pg_tup rfl (pgs_cons (pg_name (i := 2) sc_p_read_line.nd rfl (by first | exact .inl rfl | exact .inr rfl)) (pgs_cons (pg_name (i := 8) sc_p_read_line.nd rfl (by first | exact .inl rfl | exact .inr rfl)) (pgs_nil)))) (tg_tup (tgs_cons (tg_name (i := 2) (by decide)) (tgs_cons (tg_name (i := 8) (by decide)) (tgs_nil) (mon_name (i := 8))) (mon_name (i := 2)))) (mon_tup (mon_cons (mon_name (i := 2)) (mon_cons (mon_name (i := 8)) (mon_nil)))) (fun _ _ _ _ _ => pdts_nil) (fun _ _ _ _ _ => pd_var 8) (fun _ _ _ _ _ => pd_op op_addD opd_add (pd_var 2) (pd_int)))) (px_cons (px_of (pds_set (i := 4) sc_p_read_line.nd rfl (.inl rfl) (pd_op op_mulA opd_mulM (pd_lst (pda_cons (pd_int) (pda_nil))) (pd_op op_addD opd_add (pd_callB call_len cal_len rfl T.n_len (by decide +kernel) (pda_cons (pd_var 0) (pda_nil))) (pd_int))))) (px_cons (px_for (vs := [5, 6]) (passes_of rfl) rfl (pdi_list (pd_call G_p_read_signs (hr.mono (by decide)) rfl T.g_p_read_signs T.F_p_read_signs.kp T.b_p_read_signs_1 (pda_cons (pd_m1 PySem.F.slot_str_split PySem.F.type_str_split mt_split mtd_split (pd_var 1) (pd_str)) (pda_nil)))) (pg_tup rfl (pgs_cons (pg_name (i := 5) sc_p_read_line.nd rfl (.inl rfl)) (pgs_cons (pg_name (i := 6) sc_p_read_line.nd rfl (.inl rfl)) (pgs_nil)))) (tg_tup (tgs_cons (tg_name (i := 5) (by decide)) (tgs_cons (tg_name (i := 6) (by decide)) (tgs_nil) (mon_name (i := 6))) (mon_name (i := 5)))) (px_cons (px_asgZ (vs := [2, 7]) (fun Z => pdz_call tk X_p_read_size (hr.mono (by decide)) rfl T.g_p_read_size T.F_p_read_size.kp T.b_p_read_size_2 (pda_cons (pd_var 3) (pda_cons (pd_var 6) (pda_nil)))) (pg_tup rfl (pgs_cons (pg_name (i := 2) sc_p_read_line.nd rfl (.inl rfl)) (pgs_cons (pg_name (i := 7) sc_p_read_line.nd rfl (.inl rfl)) (pgs_nil)))) (tg_tup (tgs_cons (tg_name (i := 2) (by decide)) (tgs_cons (tg_name (i := 7) (by decide)) (tgs_nil) (mon_name (i := 7))) (mon_name (i := 2))))) (px_one (px_of (pds_setIx (pd_ifExp (pdt_tru (pd_var 5)) (pd_neg (pd_var 7)) (pd_var 7)) (pd_var 4) (pd_var 2)))))) (px_cons (px_if (pdt_cmp (op_neF hr.r.units) opd_ne (pd_view (i := 4) (pd_call G_p_shown_line (hr.mono (by decide)) rfl T.g_p_shown_line T.F_p_shown_line.kp T.b_p_shown_line_2 (pda_cons (pd_var 0) (pda_cons (pd_var 4) (pda_nil))))) (pd_var 1)) (px_one (px_raiseI rfl tk (xb_of PySem.F.excBase_ValueError) PySem.F.store_ValueError PySem.W.kxs_ValueError T.i_NoText T.j_NoText hr rfl T.gx_NoText (pda_cons (pd_int) (pda_nil)))) (px_nil)) (px_one (px_of (pds_ret (pd_var 4)))))))))
    sem_p_read_line
theorem ok_p_read_line (T : Tx P K mg) : FnG P w K mg base 4 T.f_p_read_line T.d_p_read_line ["names", "text"] (spD K sp_p_read_line) := (okx_p_read_line T).plain pl_p_read_line
def sx_p_read_wish : FX := fun ds ms P Z => match ds with
  | [a, .str t] => ∃ (ns : List (List Nat)) (is : List Int) (j : Bool), a = nsD ns ∧ LnU 900 ns is ∧ t = S (txT (tms is ([] :: ns)) ++ enU j) ∧ flatM ms ∧ ∀ p, (∀ q ∈ ms, q.1 ≠ p) → P (.tup [wdU j, .opq (.ref p)]) ((p, is.map D.int) :: ms)
  | _ => False
def sp_p_read_wish : FS := fun ds ms P => sx_p_read_wish ds ms P fun _ _ _ _ => False
theorem pl_p_read_wish : ∀ ds ms P, sp_p_read_wish ds ms P → sx_p_read_wish ds ms P fun _ _ _ _ => False := fun _ _ _ h => h
theorem len_p_read_wish : ∀ ds ms Q Z, sx_p_read_wish ds ms Q Z → ds.length = 2 := fun ds ms Q Z h => by
  unfold sx_p_read_wish at h
  split at h <;> first | rfl | exact h.elim
def t_p_read_wish : DTS := dSeq (dIfS (dNot (dTest (dIsi .str (dVar 1)))) (dRaiseI "NoText" ["row"] (aCons (dC (.int 0)) (aNil))) (dNext)) (dSeq (dIfS (dTest (dM1 mEnds (dVar 1) (dC (.str " >= 0")))) (dRetZ (fun Z => dTup (aCons (dC (.str "least")) (aCons (dCallZ 2 0 [0, 1] sx_p_read_line (aCons (dVar 0) (aCons (dM1 mRemSuf (dVar 1) (dC (.str " >= 0"))) (aNil))) (aNil) Z) (aNil))))) (dNext)) (dSeq (dIfS (dTest (dM1 mEnds (dVar 1) (dC (.str " = 0")))) (dRetZ (fun Z => dTup (aCons (dC (.str "just")) (aCons (dCallZ 2 0 [0, 1] sx_p_read_line (aCons (dVar 0) (aCons (dM1 mRemSuf (dVar 1) (dC (.str " = 0"))) (aNil))) (aNil) Z) (aNil))))) (dNext)) (dRaiseI "NoText" ["row"] (aCons (dC (.int 0)) (aNil)))))
theorem ends_S (a b : List Nat) : Txt.endswith (S a) (S b) = decide (b.length ≤ a.length ∧ (a.drop (a.length - b.length)).take b.length = b) := by
  unfold Txt.endswith
  rw [StrLaws.subAt_eq, lenS, lenS, Nat.zero_add]
  show (decide (b.length ≤ a.length) && (List.take b.length (List.drop (a.length - b.length) a) == b)) = _
  rw [Bool.eq_iff_iff, Bool.and_eq_true_iff, decide_eq_true_iff, decide_eq_true_iff, beq_iff_eq]
theorem ends_app (a b : List Nat) : Txt.endswith (S (a ++ b)) (S b) = true := by
  rw [ends_S]
  refine decide_eq_true ⟨by rw [List.length_append]; omega, ?_⟩
  rw [List.length_append, Nat.add_sub_cancel, List.drop_left' rfl, List.take_length]
theorem ends_just (a : List Nat) : Txt.endswith (S (a ++ [32, 61, 32, 48])) (S [32, 62, 61, 32, 48]) = false := by
  rw [ends_S]
  refine decide_eq_false fun ⟨h1, h2⟩ => ?_
  rw [List.length_append] at h1 h2
  have ha : 1 ≤ a.length := by
    have : [32, 62, 61, 32, 48].length = 5 := rfl
    have : [32, 61, 32, 48].length = 4 := rfl
    omega
  have e : (a ++ [32, 61, 32, 48]).drop (a.length + [32, 61, 32, 48].length - [32, 62, 61, 32, 48].length) = a.drop (a.length - 1) ++ [32, 61, 32, 48] := by
    show (a ++ [32, 61, 32, 48]).drop (a.length - 1) = _
    rw [List.drop_append_of_le_length (by omega)]
  rw [e] at h2
  have l1 : (a.drop (a.length - 1)).length = 1 := by rw [List.length_drop]; omega
  match hd : a.drop (a.length - 1), l1 with
  | [x], _ =>
    rw [hd] at h2
    have : [x, 32, 61, 32, 48] = [32, 62, 61, 32, 48] := h2
    exact absurd (List.cons.inj (List.cons.inj this).2).1 (by decide)
theorem suf_S (a b : List Nat) (h : b ≠ []) : Txt.removesuffix (S (a ++ b)) (S b) = S a := by
  have hb : 1 ≤ b.length := List.length_pos_iff.mpr h
  have e := ends_app a b
  unfold Txt.endswith at e
  rw [Nat.zero_add] at e
  unfold Txt.removesuffix
  rw [e, if_pos rfl]
  show (if (S (a ++ b)).length - (S b).length - 0 == (S (a ++ b)).length then _ else _) = _
  rw [lenS, lenS, List.length_append, show (a.length + b.length - b.length - 0 == a.length + b.length) = false from beq_eq_false_iff_ne.mpr (by omega)]
  rw [if_neg (by decide), Nat.add_sub_cancel]
  refine ext_tl ?_
  show (Builtin.Str.strSub (S (a ++ b)) 0 a.length).cps.toList = a
  rw [StrLaws.strSub_toList]
  show (List.take _ (List.drop 0 (a ++ b))) = a
  exact List.take_left' (by simp)
theorem sem_p_read_wish : ∀ ds ms Q Z, sx_p_read_wish ds ms Q Z → t_p_read_wish { nx := fun _ m => Q .non m, rt := Q, ex := fun c ns xs _ m => Z c ns xs m } (startD 2 ds) ms := by
  intro ds ms Q Z h
  unfold sx_p_read_wish at h
  split at h
  · rename_i a t
    obtain ⟨ns, is, j, rfl, ok, rfl, fm, h⟩ := h
    have L : ∀ {a : Nat}, a ≤ 30000 → a ≤ sizeLine := fun h => Nat.le_trans h (by decide)
    have tl := tms_len ok (by decide)
    simp only [startD]
    unfold t_p_read_wish
    walk_at "st"
    rw [lit " >= 0" [32, 62, 61, 32, 48]]
    cases j with
    | false =>
      rw [show enU false = [32, 62, 61, 32, 48] from rfl, ends_app]
      walk_at "st"
      refine ⟨L (by rw [lenS, List.length_append]; have : [32, 62, 61, 32, 48].length = 5 := rfl; omega), ?_⟩
      walk_at "st"
      rw [suf_S _ _ (by simp)]
      walk_at "st"
      refine ⟨ns, is, rfl, ok, rfl, fm, fun p hp => ?_⟩
      walk_at "st"
      exact h p hp
    | true =>
      rw [show enU true = [32, 61, 32, 48] from rfl, ends_just]
      walk_at "st"
      rw [lit " = 0" [32, 61, 32, 48], ends_app]
      walk_at "st"
      refine ⟨L (by rw [lenS, List.length_append]; have : [32, 61, 32, 48].length = 4 := rfl; omega), ?_⟩
      walk_at "st"
      rw [suf_S _ _ (by simp)]
      walk_at "st"
      refine ⟨ns, is, rfl, ok, rfl, fm, fun p hp => ?_⟩
      walk_at "st"
      exact h p hp
  · exact h.elim
theorem okx_p_read_wish (T : Tx P K mg) : FnX P w K mg base 5 T.f_p_read_wish T.d_p_read_wish ["names", "text"] (spX K sx_p_read_wish) := by
  have G_p_read_line := ok_p_read_line (P := P) (w := w) (base := base) T
  have X_p_read_line := okx_p_read_line (P := P) (w := w) (base := base) T
  exact fnX_of (k := 4) (t := t_p_read_wish) T.F_p_read_wish sc_p_read_wish len_p_read_wish
    (fun cdv A outer s H E hr W tk => px_cons (px_if (pdt_not (pdt_val (pd_isi .str (by decide) rfl T.n_isinstance rfl T.n_str (by decide +kernel) (by decide) (by decide) (pd_var 1)))) (px_one (px_raiseI rfl tk (xb_of PySem.F.excBase_ValueError) PySem.F.store_ValueError PySem.W.kxs_ValueError T.i_NoText T.j_NoText hr rfl T.gx_NoText (pda_cons (pd_int) (pda_nil)))) (px_nil)) (px_cons (px_if (pdt_val (pd_m1 PySem.F.slot_str_endswith PySem.F.type_str_endswith mt_endswith mtd_ends (pd_var 1) (pd_glob (v := .str " >= 0") rfl T.c_AT_LEAST ⟨_, rfl⟩ (fun _ => .str _)))) (px_one (px_retZ (fun Z => pdz_tup (pdaz_cons (pdz_of (pd_glob (v := .str "least") rfl T.c_LEAST ⟨_, rfl⟩ (fun _ => .str _))) (pdaz_cons (pdz_call tk X_p_read_line (hr.mono (by decide)) rfl T.g_p_read_line T.F_p_read_line.kp T.b_p_read_line_2 (pda_cons (pd_var 0) (pda_cons (pd_m1 PySem.F.slot_str_removesuffix PySem.F.type_str_removesuffix mt_removesuffix mtd_remSuf (pd_var 1) (pd_glob (v := .str " >= 0") rfl T.c_AT_LEAST ⟨_, rfl⟩ (fun _ => .str _))) (pda_nil)))) (pdaz_of pda_nil)))))) (px_nil)) (px_cons (px_if (pdt_val (pd_m1 PySem.F.slot_str_endswith PySem.F.type_str_endswith mt_endswith mtd_ends (pd_var 1) (pd_glob (v := .str " = 0") rfl T.c_JUST_SO ⟨_, rfl⟩ (fun _ => .str _)))) (px_one (px_retZ (fun Z => pdz_tup (pdaz_cons (pdz_of (pd_glob (v := .str "just") rfl T.c_JUST ⟨_, rfl⟩ (fun _ => .str _))) (pdaz_cons (pdz_call tk X_p_read_line (hr.mono (by decide)) rfl T.g_p_read_line T.F_p_read_line.kp T.b_p_read_line_2 (pda_cons (pd_var 0) (pda_cons (pd_m1 PySem.F.slot_str_removesuffix PySem.F.type_str_removesuffix mt_removesuffix mtd_remSuf (pd_var 1) (pd_glob (v := .str " = 0") rfl T.c_JUST_SO ⟨_, rfl⟩ (fun _ => .str _))) (pda_nil)))) (pdaz_of pda_nil)))))) (px_nil)) (px_one (px_raiseI rfl tk (xb_of PySem.F.excBase_ValueError) PySem.F.store_ValueError PySem.W.kxs_ValueError T.i_NoText T.j_NoText hr rfl T.gx_NoText (pda_cons (pd_int) (pda_nil)))))))
    sem_p_read_wish
theorem ok_p_read_wish (T : Tx P K mg) : FnG P w K mg base 5 T.f_p_read_wish T.d_p_read_wish ["names", "text"] (spD K sp_p_read_wish) := (okx_p_read_wish T).plain pl_p_read_wish
def sp_p_is_one_of : FS := fun ds ms P => match ds with
  | [.int n, d] => (∃ a, tyD d = some a) ∧ P (.bl (isAt n d)) ms
  | _ => False
theorem len_p_is_one_of : ∀ ds ms Q, sp_p_is_one_of ds ms Q → ds.length = 2 := fun ds ms Q h => by
  unfold sp_p_is_one_of at h
  split at h <;> first | rfl | exact h.elim
def t_p_is_one_of : DTS := dRet (dAndV (dCall 1 0 [0] sp_p_is_whole (aCons (dVar 1) (aNil)) (aNil)) (dChain fLe fLt (dC (.int 0)) (dVar 1) (dVar 0)))
theorem sem_p_is_one_of : ∀ ds ms Q, sp_p_is_one_of ds ms Q → t_p_is_one_of { nx := fun _ m => Q .non m, rt := Q } (startD 2 ds) ms := by
  intro ds ms Q h
  unfold sp_p_is_one_of at h
  split at h
  · rename_i n d
    obtain ⟨⟨a, e⟩, h⟩ := h
    simp only [startD]
    unfold t_p_is_one_of
    walk_at "st"
    refine ⟨⟨a, e⟩, ?_⟩
    walk_at "st"
    cases d with
    | int i =>
      refine w_iteT rfl ?_
      walk_at "st"
      have h : Q (.bl (decide (0 ≤ i) && decide (i < n))) ms := h
      cases h0 : decide (0 ≤ i) with
      | true =>
        rw [h0] at h
        refine w_iteT rfl ?_
        walk_at "st"
        exact h
      | false =>
        rw [h0] at h
        refine w_iteF rfl ?_
        walk_at "st"
        exact h
    | _ =>
      refine w_iteF rfl ?_
      walk_at "st"
      exact h
  · exact h.elim
theorem ok_p_is_one_of (T : Tx P K mg) : FnG P w K mg base 2 T.f_p_is_one_of T.d_p_is_one_of ["many", "thing"] (spD K sp_p_is_one_of) := by
  have G_p_is_whole := ok_p_is_whole (P := P) (w := w) (base := base) T
  exact fnG_of (k := 1) (t := t_p_is_one_of) T.F_p_is_one_of sc_p_is_one_of len_p_is_one_of
    (fun cdv A outer s H hr => pds_one (pds_ret (pd_and (pd_call G_p_is_whole (hr.mono (by decide)) rfl T.g_p_is_whole T.F_p_is_whole.kp T.b_p_is_whole_1 (pda_cons (pd_var 1) (pda_nil))) (pd_one (pd_chain op_le opd_le op_lt opd_lt (pd_int) (pd_var 1) (pd_var 0))))))
    sem_p_is_one_of
def sp_p_is_letters : FS := fun ds ms P => match ds with
  | [.str x, .int n] => n = 6 ∧ goodNm x = true ∧ P (.bl true) ms
  | _ => False
theorem len_p_is_letters : ∀ ds ms Q, sp_p_is_letters ds ms Q → ds.length = 2 := fun ds ms Q h => by
  unfold sp_p_is_letters at h
  split at h <;> first | rfl | exact h.elim
def t_p_is_letters : DTS := dSeq (dIfS (dOr (dNot (dTest (dIsi .str (dVar 0)))) (dOr (dTest (dOp fLt (dCB cLen (aCons (dVar 0) (aNil))) (dC (.int 1)))) (dTest (dOp fGt (dCB cLen (aCons (dVar 0) (aNil))) (dVar 1))))) (dRet (dC (.bl false))) (dNext)) (dRet (dCB cAll (aCons (dLc (iStrD (dVar 0)) (sName 2) (dYes) (dOp fInSign (dVar 2) (dC (.str "abcdefghijklmnopqrstuvwxyz"))) [2]) (aNil))))
theorem letters_lit : (Str.ofString "abcdefghijklmnopqrstuvwxyz").cps.toList = [97, 98, 99, 100, 101, 102, 103, 104, 105, 106, 107, 108, 109, 110, 111, 112, 113, 114, 115, 116, 117, 118, 119, 120, 121, 122] := by decide +kernel
theorem in_letters (c : Nat) : decide (c ∈ (Str.ofString "abcdefghijklmnopqrstuvwxyz").cps.toList) = (decide (97 ≤ c) && decide (c < 123)) := by
  rw [letters_lit, Bool.eq_iff_iff, decide_eq_true_iff, Bool.and_eq_true_iff, decide_eq_true_iff, decide_eq_true_iff]
  simp only [List.mem_cons, List.not_mem_nil, or_false]
  omega
theorem sem_p_is_letters : ∀ ds ms Q, sp_p_is_letters ds ms Q → t_p_is_letters { nx := fun _ m => Q .non m, rt := Q } (startD 3 ds) ms := by
  intro ds ms Q h
  unfold sp_p_is_letters at h
  split at h
  · rename_i x n
    obtain ⟨rfl, hg, h⟩ := h
    unfold goodNm at hg
    rw [Bool.and_eq_true_iff, Bool.and_eq_true_iff] at hg
    obtain ⟨⟨g1, g2⟩, g3⟩ := hg
    have g1 := of_decide_eq_true g1
    have g2 := of_decide_eq_true g2
    have sz : x.length ≤ sizeLine := Nat.le_trans g2 (by decide)
    simp only [startD]
    unfold t_p_is_letters
    walk_at "st"
    refine ⟨sz, ?_⟩
    walk_at "st"
    refine w_iteF (decide_eq_false (by omega)) ?_
    walk_at "st"
    refine ⟨sz, ?_⟩
    walk_at "st"
    refine w_iteF (decide_eq_false (by omega)) ?_
    walk_at "st"
    simp only [wipeD, List.set]
    have hl : x.cps.toList.length ≤ 6 := g2
    refine comp_e (fun c => D.str ⟨#[c]⟩) (fun c => D.bl (decide (97 ≤ c) && decide (c < 123))) x.cps.toList [] _ (by simp only [List.length_nil]; omega) (fun c hc P0 q => ?_) ?_
    · walk_at "st"
      rw [in_letters]
      exact q
    · rw [List.nil_append]
      walk_at "st"
      refine w_all (bls_map _ _) ?_
      rw [show (x.cps.toList.map fun c => decide (97 ≤ c) && decide (c < 123)).all id = x.cps.toList.all fun c => decide (97 ≤ c) && decide (c < 123) by rw [List.all_map]; rfl, g3]
      walk_at "st"
      exact h
  · exact h.elim
theorem ok_p_is_letters (T : Tx P K mg) : FnG P w K mg base 1 T.f_p_is_letters T.d_p_is_letters ["thing", "most"] (spD K sp_p_is_letters) := by
  exact fnG_of (k := 0) (t := t_p_is_letters) T.F_p_is_letters sc_p_is_letters len_p_is_letters
    (fun cdv A outer s H hr => pds_cons (pds_if (pdt_w (pdw_or (pdt_not (pdt_val (pd_isi .str (by decide) rfl T.n_isinstance rfl T.n_str (by decide +kernel) (by decide) (by decide) (pd_var 0)))) (pdw_or (pdt_cmp op_lt opd_lt (pd_callB call_len cal_len rfl T.n_len (by decide +kernel) (pda_cons (pd_var 0) (pda_nil))) (pd_int)) (pdw_or1 (pdt_cmp op_gt opd_gt (pd_callB call_len cal_len rfl T.n_len (by decide +kernel) (pda_cons (pd_var 0) (pda_nil))) (pd_var 1)))))) (pds_one (pds_ret (pd_bl))) (pds_nil)) (pds_one (pds_ret (pd_callB (cr_all rfl) cal_all rfl T.n_all (by decide +kernel) (pda_cons (pd_lc (own := [("sign", 2)]) rfl sc_p_is_letters.nd (pdi_str (pd_var 0)) (blkOk_by (own := [("sign", 2)]) (by kernel_rfl)) (fun _ _ _ _ _ => pg_name (i := 2) sc_p_is_letters.nd rfl (by first | exact .inl rfl | exact .inr rfl)) (tg_name (i := 2) (by decide)) (mon_name (i := 2)) (fun _ _ _ _ _ => pdts_nil) (fun _ _ _ _ _ => pd_cmp op_in_sign opd_inSign (pd_var 2) (pd_glob (v := .str "abcdefghijklmnopqrstuvwxyz") rfl T.c_LETTERS ⟨_, rfl⟩ (fun _ => .str _)) (by rfl))) (pda_nil))))))
    sem_p_is_letters
def sp_p_is_name : FS := fun ds ms P => match ds with
  | [.str x] => goodNm x = true ∧ P (.bl true) ms
  | _ => False
theorem len_p_is_name : ∀ ds ms Q, sp_p_is_name ds ms Q → ds.length = 1 := fun ds ms Q h => by
  unfold sp_p_is_name at h
  split at h <;> first | rfl | exact h.elim
def t_p_is_name : DTS := dRet (dCall 2 0 [0, 1] sp_p_is_letters (aCons (dVar 0) (aCons (dC (.int 6)) (aNil))) (aNil))
theorem sem_p_is_name : ∀ ds ms Q, sp_p_is_name ds ms Q → t_p_is_name { nx := fun _ m => Q .non m, rt := Q } (startD 1 ds) ms := by
  intro ds ms Q h
  unfold sp_p_is_name at h
  split at h
  · simp only [startD]
    unfold t_p_is_name
    walk_at "st"
    exact ⟨rfl, h⟩
  · exact h.elim
theorem ok_p_is_name (T : Tx P K mg) : FnG P w K mg base 2 T.f_p_is_name T.d_p_is_name ["thing"] (spD K sp_p_is_name) := by
  have G_p_is_letters := ok_p_is_letters (P := P) (w := w) (base := base) T
  exact fnG_of (k := 1) (t := t_p_is_name) T.F_p_is_name sc_p_is_name len_p_is_name
    (fun cdv A outer s H hr => pds_one (pds_ret (pd_call G_p_is_letters (hr.mono (by decide)) rfl T.g_p_is_letters T.F_p_is_letters.kp T.b_p_is_letters_2 (pda_cons (pd_var 0) (pda_cons (pd_glob (v := .int (6)) rfl T.c_LONGEST_NAME ⟨_, rfl⟩ (fun _ => .int _)) (pda_nil))))))
    sem_p_is_name
def sp_p_look_at_names : FS := fun ds ms P => match ds with
  | [.str _, .lst ys, .int n] => ∃ xs : List Str, ys = xs.map D.str ∧ 0 ≤ n ∧ n ≤ 6 ∧ NmOk n.toNat xs ∧ P .non ms
  | _ => False
theorem len_p_look_at_names : ∀ ds ms Q, sp_p_look_at_names ds ms Q → ds.length = 3 := fun ds ms Q h => by
  unfold sp_p_look_at_names at h
  split at h <;> first | rfl | exact h.elim
def t_p_look_at_names : DTS := dSeq (dIfS (dOr (dNot (dTest (dIsi .list (dVar 1)))) (dOr (dTest (dOp fLt (dCB cLen (aCons (dVar 1) (aNil))) (dC (.int 1)))) (dTest (dOp fGt (dCB cLen (aCons (dVar 1) (aNil))) (dVar 2))))) (dNever) (dNext)) (dFor (iEnumD (aCons (dVar 1) (aNil))) (sTup 2 (sCons (sName 3) (sCons (sName 4) (sNil)))) (dIfS (dOr (dNot (dTest (dCall 1 0 [0] sp_p_is_name (aCons (dVar 4) (aNil)) (aNil)))) (dTest (dOp fIn (dVar 4) (dSl (dVar 1) (oNone) (oSome (dVar 3)))))) (dNever) (dNext)))
theorem nm_notin {x : Str} {ys : List Str} {ms : MS} {P : D → MS → Prop} (hx : goodNm x = true) (hy : ∀ y ∈ ys, goodNm y = true) (hl : ys.length ≤ 100) (hn : x ∉ ys) (q : P (.bl false) ms) : InOk (.str x) (ys.map D.str) false ms P := by
  have py : ∀ ys : List Str, (∀ y ∈ ys, goodNm y = true) → toPys (ys.map D.str) = some (ys.map PyData.str) ∧ PyData.canLayAll0 (ys.map PyData.str) = true ∧ PyData.depthAll (ys.map PyData.str) = 0 := by
    intro ys
    induction ys with
    | nil => intro _; exact ⟨rfl, rfl, rfl⟩
    | cons y r ih =>
      intro h
      obtain ⟨e1, e2, e3⟩ := ih fun z hz => h z (List.mem_cons_of_mem _ hz)
      have ey : y.cps.all (· < 0x110000) = true := nm_ok (h y List.mem_cons_self)
      refine ⟨by rw [List.map_cons]; unfold toPys; rw [e1]; rfl, Bool.and_eq_true_iff.mpr ⟨ey, e2⟩, ?_⟩
      show max 0 (PyData.depthAll (r.map PyData.str)) = 0
      rw [e3]; rfl
  obtain ⟨e1, e2, e3⟩ := py ys hy
  refine ⟨.str x, ys.map PyData.str, rfl, e1, nm_ok hx, Nat.zero_le _, e2, ?_⟩
  · have e : ((ys.map PyData.str).any fun z => PyData.eqv z (.str x)) = false := by
      rw [List.any_map, List.any_eq_false]
      intro y hy z
      have z : (y == x) = true := z
      exact hn (beq_iff_eq.mp z ▸ hy)
    rw [e]
    exact q
theorem sem_p_look_at_names : ∀ ds ms Q, sp_p_look_at_names ds ms Q → t_p_look_at_names { nx := fun _ m => Q .non m, rt := Q } (startD 5 ds) ms := by
  intro ds ms Q h
  unfold sp_p_look_at_names at h
  split at h
  · rename_i part ys n
    obtain ⟨xs, rfl, n0, n6, ok, h⟩ := h
    have l1 := ok.l1
    have l2 := ok.l2
    simp only [startD]
    unfold t_p_look_at_names
    walk_at "st"
    refine w_iteF (decide_eq_false (by rw [List.length_map]; omega)) ?_
    walk_at "st"
    refine w_iteF (decide_eq_false (by rw [List.length_map]; omega)) ?_
    walk_at "st"
    refine loop_inv (fun ds m => m = ms ∧ ∃ x3 x4, ds = [some (.str part), some (.lst (xs.map D.str)), some (.int n), x3, x4]) _ _ _ ⟨rfl, _, _, rfl⟩ ?_ ?_
    · rintro d hd ds m ⟨rfl, x3, x4, rfl⟩ N hN
      obtain ⟨k, hk, rfl⟩ := enum_mem hd
      walk_at "st"
      refine ⟨ok.ok _ (List.getElem_mem hk), ?_⟩
      walk_at "st"
      rw [cut_to _ _ (by rw [List.length_map]; omega), ← List.map_take]
      refine nm_notin (ok.ok _ (List.getElem_mem hk)) (fun y hy => ok.ok y (List.mem_of_mem_take hy)) (by rw [List.length_take]; omega) (fun z => ?_) ?_
      · obtain ⟨j, hj, e⟩ := List.mem_iff_getElem.mp z
        rw [List.length_take] at hj
        rw [List.getElem_take] at e
        exact List.pairwise_iff_getElem.mp ok.nd j k (by omega) hk (by omega) e
      · walk_at "st"
        exact hN _ _ ⟨rfl, _, _, rfl⟩
    · rintro ds m ⟨rfl, _, _, rfl⟩
      exact h
  · exact h.elim
theorem ok_p_look_at_names (T : Tx P K mg) : FnG P w K mg base 3 T.f_p_look_at_names T.d_p_look_at_names ["part", "thing", "most"] (spD K sp_p_look_at_names) := by
  have G_p_is_name := ok_p_is_name (P := P) (w := w) (base := base) T
  exact fnG_of (k := 2) (t := t_p_look_at_names) T.F_p_look_at_names sc_p_look_at_names len_p_look_at_names
    (fun cdv A outer s H hr => pds_cons (pds_if (pdt_w (pdw_or (pdt_not (pdt_val (pd_isi .list (by decide) rfl T.n_isinstance rfl T.n_list (by decide +kernel) (by decide) (by decide) (pd_var 1)))) (pdw_or (pdt_cmp op_lt opd_lt (pd_callB call_len cal_len rfl T.n_len (by decide +kernel) (pda_cons (pd_var 1) (pda_nil))) (pd_int)) (pdw_or1 (pdt_cmp op_gt opd_gt (pd_callB call_len cal_len rfl T.n_len (by decide +kernel) (pda_cons (pd_var 1) (pda_nil))) (pd_var 2)))))) (pds_one (pds_never)) (pds_nil)) (pds_one (pds_for (vs := [3, 4]) rfl (pdi_enum rfl T.n_enumerate (pda_cons (pd_var 1) (pda_nil))) (pg_tup rfl (pgs_cons (pg_name (i := 3) sc_p_look_at_names.nd rfl (.inl rfl)) (pgs_cons (pg_name (i := 4) sc_p_look_at_names.nd rfl (.inl rfl)) (pgs_nil)))) (tg_tup (tgs_cons (tg_name (i := 3) (by decide)) (tgs_cons (tg_name (i := 4) (by decide)) (tgs_nil) (mon_name (i := 4))) (mon_name (i := 3)))) (pds_one (pds_if (pdt_w (pdw_or (pdt_not (pdt_val (pd_call G_p_is_name (hr.mono (by decide)) rfl T.g_p_is_name T.F_p_is_name.kp T.b_p_is_name_1 (pda_cons (pd_var 4) (pda_nil))))) (pdw_or1 (pdt_cmp (op_inF hr.r.units) opd_in (pd_var 4) (pd_slice (pd_var 1) (pdo_none) (pdo_some (pd_var 3))) (by rfl))))) (pds_one (pds_never)) (pds_nil))))))
    sem_p_look_at_names
def sp_p_is_wishes : FS := fun ds ms P => match ds with
  | [.int i, .lst ys] => ∃ (ws : List Wi) (B n : Nat), ys = ws.map wiD ∧ i = (n : Int) ∧ n ≤ 8 ∧ ws.length ≤ 12 ∧ (∀ w ∈ ws, WiOk B n w) ∧ P (.bl true) ms
  | _ => False
theorem len_p_is_wishes : ∀ ds ms Q, sp_p_is_wishes ds ms Q → ds.length = 2 := fun ds ms Q h => by
  unfold sp_p_is_wishes at h
  split at h <;> first | rfl | exact h.elim
def t_p_is_wishes : DTS := dSeq (dIfS (dOr (dNot (dTest (dIsi .list (dVar 1)))) (dTest (dOp fGt (dCB cLen (aCons (dVar 1) (aNil))) (dC (.int 12))))) (dRet (dC (.bl false))) (dNext)) (dRet (dCB cAll (aCons (dLc (iSeq (dVar 1)) (sName 2) (dYes) (dCall 2 0 [0, 1] sp_p_is_wish (aCons (dVar 0) (aCons (dVar 2) (aNil))) (aNil)) [2]) (aNil))))
theorem sem_p_is_wishes : ∀ ds ms Q, sp_p_is_wishes ds ms Q → t_p_is_wishes { nx := fun _ m => Q .non m, rt := Q } (startD 3 ds) ms := by
  intro ds ms Q h
  unfold sp_p_is_wishes at h
  split at h
  · rename_i i ys
    obtain ⟨ws, B, n, rfl, rfl, n8, wl, wo, h⟩ := h
    simp only [startD]
    unfold t_p_is_wishes
    walk_at "st"
    refine w_iteF (decide_eq_false (by rw [List.length_map]; omega)) ?_
    walk_at "st"
    simp only [wipeD, List.set]
    refine comp_e wiD (fun _ => D.bl true) ws [] _ (by simp; omega) (fun w hw P0 q => ?_) ?_
    · walk_at "st"
      exact ⟨w, rfl, by omega, by omega, by rw [(wo w hw).ln], q⟩
    · rw [List.nil_append]
      walk_at "st"
      obtain ⟨bs, e, hb⟩ := all_true (fun _ : Wi => D.bl true) (fun _ => rfl) ws
      refine w_all e ?_
      walk_at "st"
      rw [hb]
      exact h
  · exact h.elim
theorem ok_p_is_wishes (T : Tx P K mg) : FnG P w K mg base 5 T.f_p_is_wishes T.d_p_is_wishes ["many", "thing"] (spD K sp_p_is_wishes) := by
  have G_p_is_wish := ok_p_is_wish (P := P) (w := w) (base := base) T
  exact fnG_of (k := 4) (t := t_p_is_wishes) T.F_p_is_wishes sc_p_is_wishes len_p_is_wishes
    (fun cdv A outer s H hr => pds_cons (pds_if (pdt_w (pdw_or (pdt_not (pdt_val (pd_isi .list (by decide) rfl T.n_isinstance rfl T.n_list (by decide +kernel) (by decide) (by decide) (pd_var 1)))) (pdw_or1 (pdt_cmp op_gt opd_gt (pd_callB call_len cal_len rfl T.n_len (by decide +kernel) (pda_cons (pd_var 1) (pda_nil))) (pd_glob (v := .int (12)) rfl T.c_MOST_WISHES ⟨_, rfl⟩ (fun _ => .int _)))))) (pds_one (pds_ret (pd_bl))) (pds_nil)) (pds_one (pds_ret (pd_callB (cr_all rfl) cal_all rfl T.n_all (by decide +kernel) (pda_cons (pd_lc (own := [("wish", 2)]) rfl sc_p_is_wishes.nd (pdi_list (pd_var 1)) (blkOk_by (own := [("wish", 2)]) (by kernel_rfl)) (fun _ _ _ _ _ => pg_name (i := 2) sc_p_is_wishes.nd rfl (by first | exact .inl rfl | exact .inr rfl)) (tg_name (i := 2) (by decide)) (mon_name (i := 2)) (fun _ _ _ _ _ => pdts_nil) (fun _ _ _ _ _ => pd_call G_p_is_wish (hr.mono (by decide)) rfl T.g_p_is_wish T.F_p_is_wish.kp T.b_p_is_wish_2 (pda_cons (pd_var 0) (pda_cons (pd_var 2) (pda_nil))))) (pda_nil))))))
    sem_p_is_wishes
def sp_p_is_row : FS := fun ds ms P => match ds with
  | [.int a, .int b, d] => ∃ (r : Rw) (B sz pl : Nat), d = rwD r ∧ a = (sz : Int) ∧ b = (pl : Int) ∧ sz ≤ 3 ∧ RwOk B sz pl r ∧ P (.bl true) ms
  | _ => False
theorem len_p_is_row : ∀ ds ms Q, sp_p_is_row ds ms Q → ds.length = 3 := fun ds ms Q h => by
  unfold sp_p_is_row at h
  split at h <;> first | rfl | exact h.elim
def t_p_is_row : DTS := dSeq (dIfS (dOr (dNot (dTest (dIsi .tuple (dVar 2)))) (dTest (dOp fNe (dCB cLen (aCons (dVar 2) (aNil))) (dC (.int 3))))) (dRet (dC (.bl false))) (dNext)) (dSeq (dAsg (dVar 2) (sTup 3 (sCons (sName 3) (sCons (sName 4) (sCons (sName 5) (sNil)))))) (dSeq (dIfS (dOr (dNot (dTest (dCall 2 0 [0, 1] sp_p_is_one_of (aCons (dVar 1) (aCons (dVar 3) (aNil))) (aNil)))) (dNot (dTest (dCall 2 0 [0, 1] sp_p_is_one_of (aCons (dVar 1) (aCons (dVar 4) (aNil))) (aNil))))) (dRet (dC (.bl false))) (dNext)) (dRet (dCall 2 0 [0, 1] sp_p_is_wishes (aCons (dOp fMul (dC (.int 2)) (dVar 0)) (aCons (dVar 5) (aNil))) (aNil)))))
theorem sem_p_is_row : ∀ ds ms Q, sp_p_is_row ds ms Q → t_p_is_row { nx := fun _ m => Q .non m, rt := Q } (startD 6 ds) ms := by
  intro ds ms Q h
  unfold sp_p_is_row at h
  split at h
  · rename_i a b d
    obtain ⟨r, B, sz, pl, rfl, rfl, rfl, s3, ok, h⟩ := h
    simp only [startD]
    unfold t_p_is_row
    walk_at "st"
    unfold rwD
    walk_at "st"
    refine ⟨⟨_, rfl⟩, ?_⟩
    have hs : isAt (pl : Int) (.int r.s) = true := by
      show (decide (0 ≤ r.s) && decide (r.s < (pl : Int))) = true
      rw [decide_eq_true ok.s0, decide_eq_true ok.s1]; rfl
    have ht : isAt (pl : Int) (.int r.t) = true := by
      show (decide (0 ≤ r.t) && decide (r.t < (pl : Int))) = true
      rw [decide_eq_true ok.t0, decide_eq_true ok.t1]; rfl
    rw [hs]
    walk_at "st"
    refine ⟨⟨_, rfl⟩, ?_⟩
    rw [ht]
    walk_at "st"
    refine ⟨.inr (.inl ⟨by decide, by decide⟩), ?_⟩
    walk_at "st"
    refine ⟨r.ws, B, 2 * sz, rfl, by omega, by omega, ok.wl, ok.wo, ?_⟩
    exact h
  · exact h.elim
theorem ok_p_is_row (T : Tx P K mg) : FnG P w K mg base 6 T.f_p_is_row T.d_p_is_row ["names", "places", "thing"] (spD K sp_p_is_row) := by
  have G_p_is_wishes := ok_p_is_wishes (P := P) (w := w) (base := base) T
  have G_p_is_one_of := ok_p_is_one_of (P := P) (w := w) (base := base) T
  exact fnG_of (k := 5) (t := t_p_is_row) T.F_p_is_row sc_p_is_row len_p_is_row
    (fun cdv A outer s H hr => pds_cons (pds_if (pdt_w (pdw_or (pdt_not (pdt_val (pd_isi .tuple (by decide) rfl T.n_isinstance rfl T.n_tuple (by decide +kernel) (by decide) (by decide) (pd_var 2)))) (pdw_or1 (pdt_cmp (op_neF hr.r.units) opd_ne (pd_callB call_len cal_len rfl T.n_len (by decide +kernel) (pda_cons (pd_var 2) (pda_nil))) (pd_int))))) (pds_one (pds_ret (pd_bl))) (pds_nil)) (pds_cons (pds_asg (vs := [3, 4, 5]) (pd_var 2) (pg_tup rfl (pgs_cons (pg_name (i := 3) sc_p_is_row.nd rfl (.inl rfl)) (pgs_cons (pg_name (i := 4) sc_p_is_row.nd rfl (.inl rfl)) (pgs_cons (pg_name (i := 5) sc_p_is_row.nd rfl (.inl rfl)) (pgs_nil))))) (tg_tup (tgs_cons (tg_name (i := 3) (by decide)) (tgs_cons (tg_name (i := 4) (by decide)) (tgs_cons (tg_name (i := 5) (by decide)) (tgs_nil) (mon_name (i := 5))) (mon_name (i := 4))) (mon_name (i := 3))))) (pds_cons (pds_if (pdt_w (pdw_or (pdt_not (pdt_val (pd_call G_p_is_one_of (hr.mono (by decide)) rfl T.g_p_is_one_of T.F_p_is_one_of.kp T.b_p_is_one_of_2 (pda_cons (pd_var 1) (pda_cons (pd_var 3) (pda_nil)))))) (pdw_or1 (pdt_not (pdt_val (pd_call G_p_is_one_of (hr.mono (by decide)) rfl T.g_p_is_one_of T.F_p_is_one_of.kp T.b_p_is_one_of_2 (pda_cons (pd_var 1) (pda_cons (pd_var 4) (pda_nil))))))))) (pds_one (pds_ret (pd_bl))) (pds_nil)) (pds_one (pds_ret (pd_call G_p_is_wishes (hr.mono (by decide)) rfl T.g_p_is_wishes T.F_p_is_wishes.kp T.b_p_is_wishes_2 (pda_cons (pd_op op_mulA opd_mul (pd_int) (pd_var 0)) (pda_cons (pd_var 5) (pda_nil)))))))))
    sem_p_is_row
def sp_p_look_at_rows : FS := fun ds ms P => match ds with
  | [.int a, .int b, .lst ys] => ∃ (rs : List Rw) (B sz pl : Nat), ys = rs.map rwD ∧ a = (sz : Int) ∧ b = (pl : Int) ∧ sz ≤ 3 ∧ rs.length ≤ 10 ∧ (∀ r ∈ rs, RwOk B sz pl r) ∧ P .non ms
  | _ => False
theorem len_p_look_at_rows : ∀ ds ms Q, sp_p_look_at_rows ds ms Q → ds.length = 3 := fun ds ms Q h => by
  unfold sp_p_look_at_rows at h
  split at h <;> first | rfl | exact h.elim
def t_p_look_at_rows : DTS := dSeq (dIfS (dOr (dNot (dTest (dIsi .list (dVar 2)))) (dTest (dOp fGt (dCB cLen (aCons (dVar 2) (aNil))) (dC (.int 10))))) (dNever) (dNext)) (dFor (iEnumD (aCons (dVar 2) (aNil))) (sTup 2 (sCons (sName 3) (sCons (sName 4) (sNil)))) (dIfS (dNot (dTest (dCall 3 0 [0, 1, 2] sp_p_is_row (aCons (dVar 0) (aCons (dVar 1) (aCons (dVar 4) (aNil)))) (aNil)))) (dNever) (dNext)))
theorem sem_p_look_at_rows : ∀ ds ms Q, sp_p_look_at_rows ds ms Q → t_p_look_at_rows { nx := fun _ m => Q .non m, rt := Q } (startD 5 ds) ms := by
  intro ds ms Q h
  unfold sp_p_look_at_rows at h
  split at h
  · rename_i a b ys
    obtain ⟨rs, B, sz, pl, rfl, rfl, rfl, s3, rl, ro, h⟩ := h
    simp only [startD]
    unfold t_p_look_at_rows
    walk_at "st"
    refine w_iteF (decide_eq_false (by rw [List.length_map]; omega)) ?_
    walk_at "st"
    refine loop_inv (fun ds m => m = ms ∧ ∃ x3 x4, ds = [some (.int (sz : Int)), some (.int (pl : Int)), some (.lst (rs.map rwD)), x3, x4]) _ _ _ ⟨rfl, _, _, rfl⟩ ?_ ?_
    · rintro d hd ds m ⟨rfl, x3, x4, rfl⟩ N hN
      obtain ⟨k, hk, rfl⟩ := enum_mem hd
      walk_at "st"
      refine ⟨_, B, sz, pl, rfl, rfl, rfl, s3, ro _ (List.getElem_mem hk), ?_⟩
      walk_at "st"
      exact hN _ _ ⟨rfl, _, _, rfl⟩
    · rintro ds m ⟨rfl, _, _, rfl⟩
      exact h
  · exact h.elim
theorem ok_p_look_at_rows (T : Tx P K mg) : FnG P w K mg base 7 T.f_p_look_at_rows T.d_p_look_at_rows ["names", "places", "thing"] (spD K sp_p_look_at_rows) := by
  have G_p_is_row := ok_p_is_row (P := P) (w := w) (base := base) T
  exact fnG_of (k := 6) (t := t_p_look_at_rows) T.F_p_look_at_rows sc_p_look_at_rows len_p_look_at_rows
    (fun cdv A outer s H hr => pds_cons (pds_if (pdt_w (pdw_or (pdt_not (pdt_val (pd_isi .list (by decide) rfl T.n_isinstance rfl T.n_list (by decide +kernel) (by decide) (by decide) (pd_var 2)))) (pdw_or1 (pdt_cmp op_gt opd_gt (pd_callB call_len cal_len rfl T.n_len (by decide +kernel) (pda_cons (pd_var 2) (pda_nil))) (pd_glob (v := .int (10)) rfl T.c_MOST_ROWS ⟨_, rfl⟩ (fun _ => .int _)))))) (pds_one (pds_never)) (pds_nil)) (pds_one (pds_for (vs := [3, 4]) rfl (pdi_enum rfl T.n_enumerate (pda_cons (pd_var 2) (pda_nil))) (pg_tup rfl (pgs_cons (pg_name (i := 3) sc_p_look_at_rows.nd rfl (.inl rfl)) (pgs_cons (pg_name (i := 4) sc_p_look_at_rows.nd rfl (.inl rfl)) (pgs_nil)))) (tg_tup (tgs_cons (tg_name (i := 3) (by decide)) (tgs_cons (tg_name (i := 4) (by decide)) (tgs_nil) (mon_name (i := 4))) (mon_name (i := 3)))) (pds_one (pds_if (pdt_not (pdt_val (pd_call G_p_is_row (hr.mono (by decide)) rfl T.g_p_is_row T.F_p_is_row.kp T.b_p_is_row_3 (pda_cons (pd_var 0) (pda_cons (pd_var 1) (pda_cons (pd_var 4) (pda_nil))))))) (pds_one (pds_never)) (pds_nil))))))
    sem_p_look_at_rows
def sp_p_look_at : FS := fun ds ms P => match ds with
  | [d] => ∃ (g : Pg) (B : Nat), d = pgD g ∧ PgOk B g ∧ P .non ms
  | _ => False
theorem len_p_look_at : ∀ ds ms Q, sp_p_look_at ds ms Q → ds.length = 1 := fun ds ms Q h => by
  unfold sp_p_look_at at h
  split at h <;> first | rfl | exact h.elim
def t_p_look_at : DTS := dSeq (dIfS (dOr (dNot (dTest (dIsi .tuple (dVar 0)))) (dTest (dOp fNe (dCB cLen (aCons (dVar 0) (aNil))) (dC (.int 3))))) (dNever) (dNext)) (dSeq (dAsg (dVar 0) (sTup 3 (sCons (sName 1) (sCons (sName 2) (sCons (sName 3) (sNil)))))) (dSeq (dDrop (dCall 3 0 [0, 1, 2] sp_p_look_at_names (aCons (dC (.str "names")) (aCons (dVar 1) (aCons (dC (.int 3)) (aNil)))) (aNil))) (dSeq (dDrop (dCall 3 0 [0, 1, 2] sp_p_look_at_names (aCons (dC (.str "places")) (aCons (dVar 2) (aCons (dC (.int 6)) (aNil)))) (aNil))) (dDrop (dCall 3 0 [0, 1, 2] sp_p_look_at_rows (aCons (dCB cLen (aCons (dVar 1) (aNil))) (aCons (dCB cLen (aCons (dVar 2) (aNil))) (aCons (dVar 3) (aNil)))) (aNil))))))
theorem sem_p_look_at : ∀ ds ms Q, sp_p_look_at ds ms Q → t_p_look_at { nx := fun _ m => Q .non m, rt := Q } (startD 4 ds) ms := by
  intro ds ms Q h
  unfold sp_p_look_at at h
  split at h
  · rename_i d
    obtain ⟨g, B, rfl, ok, h⟩ := h
    simp only [startD]
    unfold t_p_look_at
    walk_at "st"
    unfold pgD
    walk_at "st"
    refine ⟨g.nm, rfl, by decide, by decide, ok.nm, ?_⟩
    walk_at "st"
    refine ⟨g.pm, rfl, by decide, by decide, ok.pm, ?_⟩
    walk_at "st"
    rw [List.length_map, List.length_map]
    exact ⟨g.rs, B, g.nm.length, g.pm.length, rfl, rfl, rfl, ok.nm.l2, ok.rl, ok.ro, h⟩
  · exact h.elim
theorem ok_p_look_at (T : Tx P K mg) : FnG P w K mg base 8 T.f_p_look_at T.d_p_look_at ["thing"] (spD K sp_p_look_at) := by
  have G_p_look_at_names := ok_p_look_at_names (P := P) (w := w) (base := base) T
  have G_p_look_at_rows := ok_p_look_at_rows (P := P) (w := w) (base := base) T
  exact fnG_of (k := 7) (t := t_p_look_at) T.F_p_look_at sc_p_look_at len_p_look_at
    (fun cdv A outer s H hr => pds_cons (pds_if (pdt_w (pdw_or (pdt_not (pdt_val (pd_isi .tuple (by decide) rfl T.n_isinstance rfl T.n_tuple (by decide +kernel) (by decide) (by decide) (pd_var 0)))) (pdw_or1 (pdt_cmp (op_neF hr.r.units) opd_ne (pd_callB call_len cal_len rfl T.n_len (by decide +kernel) (pda_cons (pd_var 0) (pda_nil))) (pd_int))))) (pds_one (pds_never)) (pds_nil)) (pds_cons (pds_asg (vs := [1, 2, 3]) (pd_var 0) (pg_tup rfl (pgs_cons (pg_name (i := 1) sc_p_look_at.nd rfl (.inl rfl)) (pgs_cons (pg_name (i := 2) sc_p_look_at.nd rfl (.inl rfl)) (pgs_cons (pg_name (i := 3) sc_p_look_at.nd rfl (.inl rfl)) (pgs_nil))))) (tg_tup (tgs_cons (tg_name (i := 1) (by decide)) (tgs_cons (tg_name (i := 2) (by decide)) (tgs_cons (tg_name (i := 3) (by decide)) (tgs_nil) (mon_name (i := 3))) (mon_name (i := 2))) (mon_name (i := 1))))) (pds_cons (pds_expr (pd_call G_p_look_at_names (hr.mono (by decide)) rfl T.g_p_look_at_names T.F_p_look_at_names.kp T.b_p_look_at_names_3 (pda_cons (pd_str) (pda_cons (pd_var 1) (pda_cons (pd_glob (v := .int (3)) rfl T.c_MOST_NAMES ⟨_, rfl⟩ (fun _ => .int _)) (pda_nil)))))) (pds_cons (pds_expr (pd_call G_p_look_at_names (hr.mono (by decide)) rfl T.g_p_look_at_names T.F_p_look_at_names.kp T.b_p_look_at_names_3 (pda_cons (pd_str) (pda_cons (pd_var 2) (pda_cons (pd_glob (v := .int (6)) rfl T.c_MOST_PLACES ⟨_, rfl⟩ (fun _ => .int _)) (pda_nil)))))) (pds_one (pds_expr (pd_call G_p_look_at_rows (hr.mono (by decide)) rfl T.g_p_look_at_rows T.F_p_look_at_rows.kp T.b_p_look_at_rows_3 (pda_cons (pd_callB call_len cal_len rfl T.n_len (by decide +kernel) (pda_cons (pd_var 1) (pda_nil))) (pda_cons (pd_callB call_len cal_len rfl T.n_len (by decide +kernel) (pda_cons (pd_var 2) (pda_nil))) (pda_cons (pd_var 3) (pda_nil)))))))))))
    sem_p_look_at
/-- a text's code points -/
def cpl (x : Str) : List Nat := x.cps.toList
def nsU (xs : List Str) : List (List Nat) := xs.map cpl
def Bo (ns : List (List Nat)) : List (List Nat) := ns ++ ns.map fun n => n ++ [39]
def sp_p_both_sides : FS := fun ds ms P => match ds with
  | [d] => ∃ ns : List (List Nat), d = nsD ns ∧ ns.length ≤ 100 ∧ (∀ n ∈ ns, n.length ≤ 100) ∧ P (nsD (Bo ns)) ms
  | _ => False
theorem len_p_both_sides : ∀ ds ms Q, sp_p_both_sides ds ms Q → ds.length = 1 := fun ds ms Q h => by
  unfold sp_p_both_sides at h
  split at h <;> first | rfl | exact h.elim
def t_p_both_sides : DTS := dRet (dOp fAdd (dVar 0) (dLc (iSeq (dVar 0)) (sName 1) (dYes) (dOp fAdd (dVar 1) (dC (.str "'"))) [1]))
theorem sem_p_both_sides : ∀ ds ms Q, sp_p_both_sides ds ms Q → t_p_both_sides { nx := fun _ m => Q .non m, rt := Q } (startD 2 ds) ms := by
  intro ds ms Q h
  unfold sp_p_both_sides at h
  split at h
  · obtain ⟨ns, rfl, hl, hn, h⟩ := h
    simp only [startD]
    unfold t_p_both_sides nsD
    walk_at "st"
    simp only [wipeD, List.set]
    refine comp_e nmD (fun n => nmD (n ++ [39])) ns [] _ (by rw [List.length_nil]; omega) (fun n hn' P0 q => ?_) ?_
    · unfold nmD
      walk_at "st"
      rw [lit "'" [39], S_app]
      exact ⟨Nat.le_trans (show (S n).length + (S [39]).length ≤ 200 by rw [lenS, lenS, List.length_singleton]; have := hn n hn'; omega) (by decide), q⟩
    rw [List.nil_append]
    walk_at "st"
    refine ⟨size_ok (by rw [List.length_map, List.length_map]; omega), ?_⟩
    walk_at "st"
    unfold nsD Bo at h
    rw [List.map_append, List.map_map] at h
    exact h
  · exact h.elim
theorem ok_p_both_sides (T : Tx P K mg) : FnG P w K mg base 1 T.f_p_both_sides T.d_p_both_sides ["names"] (spD K sp_p_both_sides) := by
  exact fnG_of (k := 0) (t := t_p_both_sides) T.F_p_both_sides sc_p_both_sides len_p_both_sides
    (fun cdv A outer s H hr => pds_one (pds_ret (pd_op op_addD opd_add (pd_var 0) (pd_lc (own := [("name", 1)]) rfl sc_p_both_sides.nd (pdi_list (pd_var 0)) (blkOk_by (own := [("name", 1)]) (by kernel_rfl)) (fun _ _ _ _ _ => pg_name (i := 1) sc_p_both_sides.nd rfl (by first | exact .inl rfl | exact .inr rfl)) (tg_name (i := 1) (by decide)) (mon_name (i := 1)) (fun _ _ _ _ _ => pdts_nil) (fun _ _ _ _ _ => pd_op op_addD opd_add (pd_var 1) (pd_glob (v := .str "'") rfl T.c_BEHIND ⟨_, rfl⟩ (fun _ => .str _)))))))
    sem_p_both_sides
def Frsh : MS → MS → Prop
  | [], _ => True
  | q :: L, ms => (∀ e ∈ L ++ ms, e.1 ≠ q.1) ∧ Frsh L ms
theorem frsh_app : ∀ {L M ms : MS}, Frsh L (M ++ ms) → Frsh M ms → Frsh (L ++ M) ms
  | [], _, _, _, h => h
  | q :: L, M, ms, ⟨h1, h2⟩, h => ⟨fun e he => h1 e (by
      have he : e ∈ (L ++ M) ++ ms := he
      rwa [List.append_assoc] at he), frsh_app h2 h⟩
theorem frsh_off {L ms : MS} : Frsh L ms → ∀ q ∈ L, ∀ e ∈ ms, e.1 ≠ q.1 := by
  induction L with
  | nil => intro _ q hq; cases hq
  | cons r L ih =>
    rintro ⟨h1, h2⟩ q hq e he
    rcases List.mem_cons.mp hq with rfl | hq
    · exact h1 e (List.mem_append_right _ he)
    · exact ih h2 q hq e he
theorem flatM_app {L ms : MS} (h : flatM L) (k : flatM ms) : flatM (L ++ ms) := fun q hq => (List.mem_append.mp hq).elim (h q) (k q)
theorem frsh_nd : ∀ {L ms : MS}, Frsh L ms → (L.map (·.1)).Nodup
  | [], _, _ => List.nodup_nil
  | q :: L, ms, ⟨h1, h2⟩ => by
    rw [List.map_cons, List.nodup_cons]
    refine ⟨fun z => ?_, frsh_nd h2⟩
    obtain ⟨e, he, z⟩ := List.mem_map.mp z
    exact h1 e (List.mem_append_left _ he) z
theorem frsh_map : ∀ {L M ms : MS}, L.map (·.1) = M.map (·.1) → Frsh M ms → Frsh L ms
  | [], _, _, _, _ => trivial
  | q :: L, [], _, e, _ => by cases e
  | q :: L, r :: M, ms, e, ⟨h1, h2⟩ => by
    rw [List.map_cons, List.map_cons] at e
    injection e with e1 e2
    refine ⟨fun x hx => ?_, frsh_map e2 h2⟩
    rw [e1]
    rcases List.mem_append.mp hx with hx | hx
    · have : x.1 ∈ M.map (·.1) := by rw [← e2]; exact List.mem_map_of_mem hx
      obtain ⟨y, hy, ey⟩ := List.mem_map.mp this
      rw [← ey]
      exact h1 y (List.mem_append_left _ hy)
    · exact h1 x (List.mem_append_right _ hx)
theorem look_in {a : Addr} {ys : List D} : ∀ {L ms : MS}, Frsh L ms → (a, ys) ∈ L → look (L ++ ms) a = some ys
  | [], _, _, h => by cases h
  | (b, xs) :: L, ms, ⟨h1, h2⟩, h => by
    show (if b = a then some xs else look (L ++ ms) a) = some ys
    rcases List.mem_cons.mp h with z | h
    · cases z; rw [if_pos rfl]
    · rw [if_neg fun z => h1 (a, ys) (List.mem_append_left _ h) z.symm]
      exact look_in h2 h
theorem put_adr (a : Addr) (ys : List D) : ∀ M : MS, (put M a ys).map (·.1) = M.map (·.1)
  | [] => rfl
  | (b, xs) :: r => by
    unfold put
    by_cases e : b = a
    · rw [if_pos e]; rw [List.map_cons, List.map_cons, e]
    · rw [if_neg e, List.map_cons, List.map_cons, put_adr a ys r]
theorem put_app {a : Addr} {ys : List D} : ∀ {M ms : MS}, a ∈ M.map (·.1) → put (M ++ ms) a ys = put M a ys ++ ms
  | [], _, h => by cases h
  | (b, xs) :: r, ms, h => by
    show put ((b, xs) :: (r ++ ms)) a ys = _
    unfold put
    by_cases e : b = a
    · rw [if_pos e, if_pos e]; rfl
    · rw [if_neg e, if_neg e]
      rcases List.mem_cons.mp h with z | h
      · exact absurd z.symm e
      · rw [put_app h]; rfl
theorem put_flat {a : Addr} {ys : List D} : ∀ {M : MS}, flatM M → flats ys = true → flatM (put M a ys)
  | [], _, _ => fun _ h => by cases h
  | (b, xs) :: r, h, hy => by
    unfold put
    by_cases e : b = a
    · rw [if_pos e]
      intro q hq
      rcases List.mem_cons.mp hq with rfl | hq
      · exact hy
      · exact h q (List.mem_cons_of_mem _ hq)
    · rw [if_neg e]
      intro q hq
      rcases List.mem_cons.mp hq with rfl | hq
      · exact h _ List.mem_cons_self
      · exact put_flat (fun z hz => h z (List.mem_cons_of_mem _ hz)) hy q hq
theorem flats_app : ∀ {xs ys : List D}, flats xs = true → flats ys = true → flats (xs ++ ys) = true
  | [], _, _, h => h
  | x :: r, ys, h, k => by
    obtain ⟨h1, h2⟩ := Bool.and_eq_true_iff.mp h
    exact Bool.and_eq_true_iff.mpr ⟨h1, flats_app h2 k⟩
theorem flats_all {α : Type} {f : α → D} (h : ∀ x, flat (f x) = true) : ∀ xs : List α, flats (xs.map f) = true
  | [] => rfl
  | x :: r => by
    rw [List.map_cons]
    exact Bool.and_eq_true_iff.mpr ⟨h x, flats_all h r⟩
theorem flatsI : ∀ is : List Int, flats (is.map D.int) = true := flats_all fun _ => rfl
/-- a wish told anew -/
structure LW where
  w : Wi
  a : Addr
def lwD (x : LW) : D := .tup [wdD x.w.j, .opq (.ref x.a)]
def lwM (x : LW) : Addr × List D := (x.a, x.w.ls.map D.int)
def wsN (bs : List LW) : MS := (bs.map lwM).reverse
def wsM (q : Addr) (bs : List LW) : MS := (q, bs.map lwD) :: wsN bs
/-- a row told anew -/
structure LR where
  s : Int
  t : Int
  a : Addr
  bs : List LW
def LR.rw (x : LR) : Rw := ⟨x.s, x.t, x.bs.map LW.w⟩
def lrD (x : LR) : D := .tup [.int x.s, .int x.t, .opq (.ref x.a)]
theorem lw_flat (x : LW) : flat (lwD x) = true := by
  obtain ⟨⟨j, l, fs⟩, a⟩ := x
  cases j <;> rfl
theorem lr_flat (x : LR) : flat (lrD x) = true := rfl
theorem flats_strs : ∀ xs : List Str, flats (xs.map D.str) = true := flats_all fun _ => rfl
/-- the addresses of a row's lists -/
def adrs (x : LR) : List Addr := x.a :: x.bs.map LW.a
theorem wsM_adr (x : LR) : ((wsM x.a x.bs).map (·.1)).Perm (adrs x) := by
  show (x.a :: (wsN x.bs).map (·.1)).Perm _
  refine List.Perm.cons _ ?_
  unfold wsN
  rw [List.map_reverse, List.map_map]
  exact List.reverse_perm _
/-- a program told anew, each list of it at an address of its own -/
structure PgL (g : Pg) (t : D) (L : MS) (n p q : Addr) (xs : List LR) : Prop where
  is : t = .tup [.opq (.ref n), .opq (.ref p), .opq (.ref q)]
  rs : xs.map LR.rw = g.rs
  mn : (n, g.nm.map D.str) ∈ L
  mp : (p, g.pm.map D.str) ∈ L
  mq : (q, xs.map lrD) ∈ L
  mr : ∀ x ∈ xs, ∀ e ∈ wsM x.a x.bs, e ∈ L
  nd : (n :: p :: q :: xs.flatMap adrs).Nodup
  fl : flatM L
theorem S_cpl (x : Str) : S (cpl x) = x := S_tl x
theorem nsD_nsU (xs : List Str) : nsD (nsU xs) = .lst (xs.map D.str) := by
  unfold nsD nsU nmD
  rw [List.map_map]
  congr 1
theorem map_nsU (xs : List Str) : xs.map D.str = (nsU xs).map nmD := by
  have := nsD_nsU xs
  unfold nsD at this
  injection this with this
  exact this.symm
theorem good_nml {x : Str} (h : goodNm x = true) : Nml (cpl x) ∧ (cpl x).length ≤ 6 ∧ 39 ∉ cpl x := by
  unfold goodNm at h
  rw [Bool.and_eq_true_iff, Bool.and_eq_true_iff] at h
  obtain ⟨⟨h1, h2⟩, h3⟩ := h
  have h1 := of_decide_eq_true h1
  have h2 := of_decide_eq_true h2
  have hl : (cpl x).length = x.length := by rw [← lenS, S_cpl]
  have h4 : ∀ c ∈ cpl x, 97 ≤ c ∧ c < 123 := fun c hc => by
    have := List.all_eq_true.mp h3 c hc
    rw [Bool.and_eq_true_iff] at this
    exact ⟨of_decide_eq_true this.1, of_decide_eq_true this.2⟩
  refine ⟨⟨fun e => ?_, by omega, fun c hc => .inl (h4 c hc)⟩, by omega, fun z => by have := h4 39 z; omega⟩
  rw [e] at hl
  have : ([] : List Nat).length = 0 := rfl
  omega
theorem cpl_inj {x y : Str} (h : cpl x = cpl y) : x = y := by rw [← S_cpl x, ← S_cpl y, h]
theorem nsU_nd {xs : List Str} (h : xs.Nodup) : (nsU xs).Nodup := by
  unfold nsU
  exact List.Pairwise.map _ (fun a b (hab : a ≠ b) z => hab (cpl_inj z)) h
theorem nsU_mem {m : Nat} {xs : List Str} (ok : NmOk m xs) {n : List Nat} (h : n ∈ nsU xs) : Nml n ∧ n.length ≤ 6 ∧ 39 ∉ n := by
  obtain ⟨x, hx, rfl⟩ := List.mem_map.mp h
  exact good_nml (ok.ok x hx)
theorem bo_nd {m : Nat} {xs : List Str} (ok : NmOk m xs) : (Bo (nsU xs)).Nodup := by
  unfold Bo
  refine List.nodup_append.mpr ⟨nsU_nd ok.nd, ?_, fun a ha b hb z => ?_⟩
  · exact List.Pairwise.map _ (fun a b (hab : a ≠ b) z => hab (List.append_cancel_right z)) (nsU_nd ok.nd)
  · subst z
    obtain ⟨n, _, rfl⟩ := List.mem_map.mp hb
    exact (nsU_mem ok ha).2.2 (by simp)
theorem bo_nml {m : Nat} {xs : List Str} (ok : NmOk m xs) : ∀ n ∈ Bo (nsU xs), Nml n := fun n hn => by
  rcases List.mem_append.mp hn with h | h
  · exact (nsU_mem ok h).1
  · obtain ⟨k, hk, rfl⟩ := List.mem_map.mp h
    have := nsU_mem ok hk
    refine ⟨by simp, by rw [List.length_append, List.length_singleton]; omega, fun c hc => ?_⟩
    rcases List.mem_append.mp hc with hc | hc
    · exact this.1.ok c hc
    · exact .inr (List.mem_singleton.mp hc)
theorem bo_len (ns : List (List Nat)) : (Bo ns).length = 2 * ns.length := by unfold Bo; rw [List.length_append, List.length_map]; omega
theorem lnU_of {B B' : Nat} {xs : List Str} {w : Wi} (ok : NmOk 3 xs) (h : WiOk B (2 * xs.length) w) (hB : B ≤ B') : LnU B' (Bo (nsU xs)) w.ls := by
  have l2 := ok.l2
  have e : (nsU xs).length = xs.length := List.length_map ..
  refine ⟨bo_nml ok, bo_nd ok, by rw [bo_len]; omega, ?_, fun i hi => (h.bd i hi).mono hB⟩
  rw [bo_len, e]
  show w.fs.length + 1 = _
  rw [h.ln]
abbrev sgNum : List Nat := [110, 117, 109, 98, 101, 114, 115]
abbrev sgPla : List Nat := [112, 108, 97, 99, 101, 115]
abbrev sgRow : List Nat := [114, 111, 119]
def wtx (bo : List (List Nat)) (w : Wi) : List Nat := txT (tms w.ls ([] :: bo)) ++ enU w.j
def rowT (ps : List (List Nat)) (s t : Int) : List Nat := TL.joinL [32] [sgRow, ps.getD s.toNat [], ps.getD t.toNat []]
def linesR (bo ps : List (List Nat)) (r : Rw) : List (List Nat) := rowT ps r.s r.t :: r.ws.map (wtx bo)
def linesG (g : Pg) : List (List Nat) := TL.joinL [32] (sgNum :: nsU g.nm) :: TL.joinL [32] (sgPla :: nsU g.pm) :: g.rs.flatMap (linesR (Bo (nsU g.nm)) (nsU g.pm))
def textG (g : Pg) : List Nat := TL.joinL [10] (linesG g)
theorem joinL_len (s : Nat) : ∀ ls : List (List Nat), (TL.joinL [s] ls).length ≤ (ls.map fun l => l.length + 1).sum
  | [] => Nat.le_refl _
  | [a] => by show a.length ≤ _; rw [List.map_singleton, List.sum_singleton]; omega
  | a :: b :: r => by
    have ih := joinL_len s (b :: r)
    show (a ++ ([s] ++ TL.joinL [s] (b :: r))).length ≤ _
    rw [List.map_cons, List.sum_cons, List.length_append, List.length_append, List.length_singleton]
    omega
theorem sum_le {k : Nat} : ∀ {ls : List (List Nat)}, (∀ l ∈ ls, l.length ≤ k) → (ls.map fun l => l.length + 1).sum ≤ (k + 1) * ls.length
  | [], _ => Nat.zero_le _
  | a :: r, h => by
    have h1 := h a List.mem_cons_self
    have h2 := sum_le fun z hz => h z (List.mem_cons_of_mem a hz)
    rw [List.map_cons, List.sum_cons, List.length_cons, Nat.mul_succ]
    omega
theorem join_ok {k s : Nat} {ls : List (List Nat)} (h : ∀ l ∈ ls, l.length ≤ k) (hn : (k + 1) * ls.length ≤ 16777216) : (((ls.map S)).map (·.length)).sum + (ls.map S).length * (S [s]).length ≤ 16777216 := by
  refine Nat.le_trans ?_ hn
  rw [lenS, List.length_singleton, List.length_map, List.map_map]
  have : ∀ {ls : List (List Nat)}, (∀ l ∈ ls, l.length ≤ k) → (ls.map ((·.length) ∘ S)).sum + ls.length * 1 ≤ (k + 1) * ls.length := fun {ls} => by
    induction ls with
    | nil => exact fun _ => Nat.le_refl _
    | cons a r ih =>
      intro h
      have h1 := h a List.mem_cons_self
      have h2 := ih fun z hz => h z (List.mem_cons_of_mem a hz)
      have h3 : ((·.length) ∘ S) a = a.length := lenS a
      rw [List.map_cons, List.sum_cons, List.length_cons, show (k + 1) * (r.length + 1) = (k + 1) * r.length + (k + 1) from Nat.mul_succ _ _, h3]
      omega
  exact this h
theorem row_len {ps : List (List Nat)} {s t : Int} (h : ∀ p ∈ ps, p.length ≤ 6) : (rowT ps s t).length ≤ 40 := by
  have g : ∀ i : Nat, (ps.getD i []).length ≤ 6 := fun i => by
    rw [List.getD_eq_getElem?_getD]
    cases e : ps[i]? with
    | none => decide
    | some p => exact h p (List.mem_of_getElem? e)
  have h1 := g s.toNat
  have h2 := g t.toNat
  refine Nat.le_trans (joinL_len _ _) ?_
  simp only [List.map_cons, List.map_nil, List.sum_cons, List.sum_nil, List.length_cons, List.length_nil]
  omega
theorem wtx_len {B : Nat} {bo : List (List Nat)} {w : Wi} (ok : LnU B bo w.ls) (hB : B ≤ 1000) : (wtx bo w).length ≤ 10010 := by
  have := tms_len ok hB
  unfold wtx
  rw [List.length_append]
  have : (enU w.j).length ≤ 5 := by cases w.j <;> decide
  omega
theorem nms_len {m : Nat} {xs : List Str} {wd : List Nat} (ok : NmOk m xs) (hm : m ≤ 6) (hw : wd.length ≤ 7) : (TL.joinL [32] (wd :: nsU xs)).length ≤ 100 := by
  refine Nat.le_trans (joinL_len _ _) (Nat.le_trans (sum_le (k := 7) fun l hl => ?_) ?_)
  · rcases List.mem_cons.mp hl with rfl | hl
    · exact hw
    · have := (nsU_mem ok hl).2.1; omega
  · have := ok.l2
    rw [List.length_cons, show (nsU xs).length = xs.length from List.length_map ..]
    omega
theorem lines_len {B : Nat} {g : Pg} (ok : PgOk B g) (hB : B ≤ 1000) : ∀ l ∈ linesG g, l.length ≤ 10010 := fun l hl => by
  rcases List.mem_cons.mp hl with rfl | hl
  · have := nms_len (wd := sgNum) ok.nm (by decide) (by decide); omega
  rcases List.mem_cons.mp hl with rfl | hl
  · have := nms_len (wd := sgPla) ok.pm (by decide) (by decide); omega
  obtain ⟨r, hr, hl⟩ := List.mem_flatMap.mp hl
  rcases List.mem_cons.mp hl with rfl | hl
  · have := row_len (ps := nsU g.pm) (s := r.s) (t := r.t) fun p hp => (nsU_mem ok.pm hp).2.1; omega
  · obtain ⟨w, hw, rfl⟩ := List.mem_map.mp hl
    exact wtx_len (lnU_of ok.nm ((ok.ro r hr).wo w hw) hB) (Nat.le_refl _)
theorem flat_few {bo ps : List (List Nat)} : ∀ {rs : List Rw}, (∀ r ∈ rs, r.ws.length ≤ 12) → (rs.flatMap (linesR bo ps)).length ≤ 13 * rs.length
  | [], _ => Nat.zero_le _
  | r :: rs, h => by
    have h1 := h r List.mem_cons_self
    have h2 := flat_few (bo := bo) (ps := ps) fun z hz => h z (List.mem_cons_of_mem r hz)
    rw [List.flatMap_cons, List.length_append, List.length_cons]
    have : (linesR bo ps r).length = r.ws.length + 1 := by unfold linesR; rw [List.length_cons, List.length_map]
    omega
theorem lines_few {B : Nat} {g : Pg} (ok : PgOk B g) : (linesG g).length ≤ 132 := by
  have h := flat_few (bo := Bo (nsU g.nm)) (ps := nsU g.pm) fun r hr => (ok.ro r hr).wl
  have := ok.rl
  unfold linesG
  rw [List.length_cons, List.length_cons]
  omega
def sp_p_shown_program : FS := fun ds ms P => match ds with
  | [d] => ∃ (g : Pg) (B : Nat), d = pgD g ∧ PgOk B g ∧ B ≤ 1000 ∧ ∀ M, flatM M → Frsh M ms → P (.str (S (textG g))) (M ++ ms)
  | _ => False
theorem len_p_shown_program : ∀ ds ms Q, sp_p_shown_program ds ms Q → ds.length = 1 := fun ds ms Q h => by
  unfold sp_p_shown_program at h
  split at h <;> first | rfl | exact h.elim
def t_p_shown_program : DTS := dSeq (dDrop (dCall 1 0 [0] sp_p_look_at (aCons (dVar 0) (aNil)) (aNil))) (dSeq (dAsg (dVar 0) (sTup 3 (sCons (sName 1) (sCons (sName 2) (sCons (sName 3) (sNil)))))) (dSeq (dAsg (dLstM (aCons (dM1 mJoin (dC (.str " ")) (dLst (aCons (dC (.str "numbers")) (aStar (dVar 1) (aNil))))) (aCons (dM1 mJoin (dC (.str " ")) (dLst (aCons (dC (.str "places")) (aStar (dVar 2) (aNil))))) (aNil)))) (sName 4)) (dSeq (dFor (iSeq (dVar 3)) (sTup 3 (sCons (sName 5) (sCons (sName 6) (sCons (sName 7) (sNil))))) (dSeq (dDrop (dAppend (dVar 4) (aCons (dM1 mJoin (dC (.str " ")) (dLst (aCons (dC (.str "row")) (aCons (dOp fIx (dVar 2) (dVar 5)) (aCons (dOp fIx (dVar 2) (dVar 6)) (aNil)))))) (aNil)))) (dDrop (dExtend (dVar 4) (aCons (dLc (iSeq (dVar 7)) (sName 8) (dYes) (dCall 2 0 [0, 1] sp_p_shown_wish (aCons (dCall 1 0 [0] sp_p_both_sides (aCons (dVar 1) (aNil)) (aNil)) (aCons (dVar 8) (aNil))) (aNil)) [8]) (aNil)))))) (dRet (dM1 mJoin (dC (.str "\n")) (dVar 4))))))
theorem at_nsU {xs : List Str} {i : Int} (h0 : 0 ≤ i) (h1 : i < xs.length) : atI (xs.map D.str) i = some (nmD ((nsU xs).getD i.toNat [])) := by
  obtain ⟨j, rfl⟩ : ∃ j : Nat, i = (j : Int) := ⟨i.toNat, by omega⟩
  rw [map_nsU]
  refine atI_nat ?_
  have hl : (nsU xs).length = xs.length := List.length_map ..
  rw [List.getElem?_map, Int.toNat_natCast, List.getD_eq_getElem?_getD, List.getElem?_eq_getElem (by omega)]
  rfl
theorem words_eq (w : String) (wl : List Nat) (e : Str.ofString w = S wl) (xs : List Str) : D.str (Str.ofString w) :: (xs.map D.str ++ []) = ((wl :: nsU xs).map S).map D.str := by
  rw [e, List.append_nil, map_nsU, List.map_cons, List.map_cons, List.map_map]
  rfl
theorem loop_lX {α : Type} {g : DG} {tb : DTS} {E : EN} (e : α → D) (all : List α) (I : List α → DS → MS → Prop) : ∀ (xs pre : List α) (ds : DS) (ms : MS), pre ++ xs = all → I pre ds ms →
    (∀ pre x rest ds ms, pre ++ x :: rest = all → I pre ds ms → ∀ N : DS → MS → Prop, (∀ ds' ms', I (pre ++ [x]) ds' ms' → N ds' ms') → g (e x) ds fun ds1 => tb (EN.lp E N) ds1 ms) →
    (∀ ds ms, I all ds ms → E.nx ds ms) → loopD g tb E (xs.map e) ds ms
  | [], pre, ds, ms, ha, h, _, q => q ds ms (by rw [List.append_nil] at ha; rw [← ha]; exact h)
  | x :: r, pre, ds, ms, ha, h, t, q => t pre x r ds ms ha h _ fun ds' ms' h' => loop_lX e all I r (pre ++ [x]) ds' ms' (by rw [List.append_assoc]; exact ha) h' t q
theorem sem_p_shown_program : ∀ ds ms Q, sp_p_shown_program ds ms Q → t_p_shown_program { nx := fun _ m => Q .non m, rt := Q } (startD 9 ds) ms := by
  intro ds ms Q h
  unfold sp_p_shown_program at h
  split at h
  · obtain ⟨g, B, rfl, ok, hB, h⟩ := h
    have rl := ok.rl
    have nl := ok.nm.l2
    have pl := ok.pm.l2
    simp only [startD]
    unfold t_p_shown_program
    walk_at "st"
    refine ⟨g, B, rfl, ok, ?_⟩
    unfold pgD
    walk_at "st"
    have un : (nsU g.nm).length = g.nm.length := List.length_map ..
    have up : (nsU g.pm).length = g.pm.length := List.length_map ..
    have jn : ∀ l ∈ sgNum :: nsU g.nm, l.length ≤ 10 := fun l hl => by
      rcases List.mem_cons.mp hl with rfl | hl
      · decide
      · have := (nsU_mem ok.nm hl).2.1; omega
    have jp : ∀ l ∈ sgPla :: nsU g.pm, l.length ≤ 10 := fun l hl => by
      rcases List.mem_cons.mp hl with rfl | hl
      · decide
      · have := (nsU_mem ok.pm hl).2.1; omega
    rw [words_eq "numbers" sgNum (lit _ _) g.nm]
    refine ⟨size_ok (by rw [List.length_map, List.length_map, List.length_cons]; omega), ?_⟩
    rw [lit " " [32]]
    refine w_join rfl ⟨join_ok jn (by rw [List.length_cons]; omega), ?_⟩
    rw [join_S]
    walk_at "st"
    rw [words_eq "places" sgPla (lit _ _) g.pm]
    refine ⟨size_ok (by rw [List.length_map, List.length_map, List.length_cons]; omega), ?_⟩
    refine w_join rfl ⟨join_ok jp (by rw [List.length_cons]; omega), ?_⟩
    rw [join_S]
    walk_at "st"
    intro q hq
    walk_at "st"
    refine loop_lX rwD g.rs (fun pre ds m => m = (q, ((TL.joinL [32] (sgNum :: nsU g.nm) :: TL.joinL [32] (sgPla :: nsU g.pm) :: pre.flatMap (linesR (Bo (nsU g.nm)) (nsU g.pm)))).map nmD) :: ms ∧ ∃ x5 x6 x7 x8, ds = [some (pgD g), some (.lst (g.nm.map D.str)), some (.lst (g.pm.map D.str)), some (.lst (g.rs.map rwD)), some (.opq (.ref q)), x5, x6, x7, x8]) g.rs [] _ _ rfl ⟨rfl, _, _, _, _, rfl⟩ ?_ ?_
    · rintro pre r rest ds m hs ⟨rfl, y5, y6, y7, y8, rfl⟩ N hN
      have hr : r ∈ g.rs := by rw [← hs]; simp
      have o := ok.ro r hr
      have o1 := o.s0
      have o2 := o.s1
      have o3 := o.t0
      have o4 := o.t1
      have few : (TL.joinL [32] (sgNum :: nsU g.nm) :: TL.joinL [32] (sgPla :: nsU g.pm) :: pre.flatMap (linesR (Bo (nsU g.nm)) (nsU g.pm))).length ≤ 132 := by
        have h := flat_few (bo := Bo (nsU g.nm)) (ps := nsU g.pm) (rs := pre) fun z hz => (ok.ro z (by rw [← hs]; exact List.mem_append_left _ hz)).wl
        have := congrArg List.length hs
        rw [List.length_append, List.length_cons] at this
        rw [List.length_cons, List.length_cons]
        omega
      unfold rwD
      walk_at "st"
      refine w_ix_l (at_nsU o1 o2) ?_
      walk_at "st"
      refine w_ix_l (at_nsU o3 o4) ?_
      walk_at "st"
      rw [lit "row" sgRow]
      have g6 : ∀ i : Nat, ((nsU g.pm).getD i []).length ≤ 10 := fun i => by
        rw [List.getD_eq_getElem?_getD]
        cases e : (nsU g.pm)[i]? with
        | none => decide
        | some p => exact jp p (List.mem_cons_of_mem _ (List.mem_of_getElem? e))
      refine w_join (zs := [sgRow, (nsU g.pm).getD r.s.toNat [], (nsU g.pm).getD r.t.toNat []].map S) rfl ⟨join_ok (k := 10) (fun l hl => ?_) (by simp), ?_⟩
      · simp only [List.mem_cons, List.not_mem_nil, or_false] at hl
        rcases hl with rfl | rfl | rfl
        · decide
        · exact g6 _
        · exact g6 _
      rw [join_S]
      walk_at "st"
      refine ⟨Nat.lt_of_lt_of_le (Nat.lt_succ_of_le (Nat.le_trans (Nat.le_of_eq (List.length_map ..)) few)) (by decide), ?_⟩
      walk_at "st"
      refine ExG.out (w_extend ?_)
      walk_at "st"
      refine w_mExt look_new ?_
      walk_at "st"
      simp only [wipeD, List.set]
      refine comp_e wiD (fun w => nmD (wtx (Bo (nsU g.nm)) w)) r.ws [] _ (by rw [List.length_nil]; have := o.wl; omega) (fun w hw P0 q0 => ?_) ?_
      · walk_at "st"
        refine ⟨nsU g.nm, (nsD_nsU g.nm).symm, by omega, fun n hn => by have := (nsU_mem ok.nm hn).2.1; omega, ?_⟩
        walk_at "st"
        refine ⟨Bo (nsU g.nm), w.ls, w.j, rfl, rfl, lnU_of ok.nm (o.wo w hw) hB, ?_⟩
        exact q0
      rw [List.nil_append]
      walk_at "st"
      refine w_mExt2 look_new put_new ⟨size_ok (by rw [List.length_append, List.length_map, List.length_map, List.length_singleton]; have := o.wl; omega), ?_⟩
      walk_at "st"
      refine hN _ _ ⟨?_, _, _, _, _, rfl⟩
      rw [List.flatMap_append, List.flatMap_singleton]
      unfold linesR rowT
      rw [List.map_cons, List.map_cons, List.map_cons, List.map_cons, List.map_append, List.map_cons, List.map_map]
      simp only [List.append_assoc, List.cons_append, List.nil_append]
      rfl
    · rintro ds m ⟨rfl, y5, y6, y7, y8, rfl⟩
      walk_at "st"
      rw [lit "\n" [10]]
      refine w_join (zs := (linesG g).map S) (by
        show asT (.opq (.ref q)) _ = _
        unfold asT
        show look ((q, _) :: ms) q = _
        rw [look_new, List.map_map]
        rfl) ⟨join_ok (lines_len ok hB) (by have := lines_few ok; omega), ?_⟩
      rw [join_S]
      exact h [(q, _)] (fun e he => by
        rw [List.mem_singleton.mp he]
        exact flats_all (fun _ => rfl) _) ⟨hq, trivial⟩
  · exact h.elim
theorem ok_p_shown_program (T : Tx P K mg) : FnG P w K mg base 9 T.f_p_shown_program T.d_p_shown_program ["program"] (spD K sp_p_shown_program) := by
  have G_p_look_at := ok_p_look_at (P := P) (w := w) (base := base) T
  have G_p_shown_wish := ok_p_shown_wish (P := P) (w := w) (base := base) T
  have G_p_both_sides := ok_p_both_sides (P := P) (w := w) (base := base) T
  exact fnG_of (k := 8) (t := t_p_shown_program) T.F_p_shown_program sc_p_shown_program len_p_shown_program
    (fun cdv A outer s H hr => pds_cons (pds_expr (pd_call G_p_look_at (hr.mono (by decide)) rfl T.g_p_look_at T.F_p_look_at.kp T.b_p_look_at_1 (pda_cons (pd_var 0) (pda_nil)))) (pds_cons (pds_asg (vs := [1, 2, 3]) (pd_var 0) (pg_tup rfl (pgs_cons (pg_name (i := 1) sc_p_shown_program.nd rfl (.inr rfl)) (pgs_cons (pg_name (i := 2) sc_p_shown_program.nd rfl (.inl rfl)) (pgs_cons (pg_name (i := 3) sc_p_shown_program.nd rfl (.inl rfl)) (pgs_nil))))) (tg_tup (tgs_cons (tg_name (i := 1) (by decide)) (tgs_cons (tg_name (i := 2) (by decide)) (tgs_cons (tg_name (i := 3) (by decide)) (tgs_nil) (mon_name (i := 3))) (mon_name (i := 2))) (mon_name (i := 1))))) (pds_cons (pds_set (i := 4) sc_p_shown_program.nd rfl (.inl rfl) (pd_lstM (pda_cons (pd_m1 PySem.F.slot_str_join PySem.F.type_str_join mt_join mtd_join (pd_str) (pd_lst (pda_cons (pd_glob (v := .str "numbers") rfl T.c_NUMBERS ⟨_, rfl⟩ (fun _ => .str _)) (pda_star (pd_var 1) (pda_nil))))) (pda_cons (pd_m1 PySem.F.slot_str_join PySem.F.type_str_join mt_join mtd_join (pd_str) (pd_lst (pda_cons (pd_glob (v := .str "places") rfl T.c_PLACES ⟨_, rfl⟩ (fun _ => .str _)) (pda_star (pd_var 2) (pda_nil))))) (pda_nil))))) (pds_cons (pds_for (vs := [5, 6, 7]) rfl (pdi_list (pd_var 3)) (pg_tup rfl (pgs_cons (pg_name (i := 5) sc_p_shown_program.nd rfl (.inl rfl)) (pgs_cons (pg_name (i := 6) sc_p_shown_program.nd rfl (.inl rfl)) (pgs_cons (pg_name (i := 7) sc_p_shown_program.nd rfl (.inl rfl)) (pgs_nil))))) (tg_tup (tgs_cons (tg_name (i := 5) (by decide)) (tgs_cons (tg_name (i := 6) (by decide)) (tgs_cons (tg_name (i := 7) (by decide)) (tgs_nil) (mon_name (i := 7))) (mon_name (i := 6))) (mon_name (i := 5)))) (pds_cons (pds_expr (pd_append (pd_var 4) (pda_cons (pd_m1 PySem.F.slot_str_join PySem.F.type_str_join mt_join mtd_join (pd_str) (pd_lst (pda_cons (pd_glob (v := .str "row") rfl T.c_ROW ⟨_, rfl⟩ (fun _ => .str _)) (pda_cons (pd_ix ix_seq opd_ix (pd_var 2) (pd_var 5)) (pda_cons (pd_ix ix_seq opd_ix (pd_var 2) (pd_var 6)) (pda_nil)))))) (pda_nil)))) (pds_one (pds_expr (pd_extend (pd_var 4) (pda_cons (pd_lc (own := [("wish", 8)]) rfl sc_p_shown_program.nd (pdi_list (pd_var 7)) (blkOk_by (own := [("wish", 8)]) (by kernel_rfl)) (fun _ _ _ _ _ => pg_name (i := 8) sc_p_shown_program.nd rfl (by first | exact .inl rfl | exact .inr rfl)) (tg_name (i := 8) (by decide)) (mon_name (i := 8)) (fun _ _ _ _ _ => pdts_nil) (fun _ _ _ _ _ => pd_call G_p_shown_wish (hr.mono (by decide)) rfl T.g_p_shown_wish T.F_p_shown_wish.kp T.b_p_shown_wish_2 (pda_cons (pd_call G_p_both_sides (hr.mono (by decide)) rfl T.g_p_both_sides T.F_p_both_sides.kp T.b_p_both_sides_1 (pda_cons (pd_var 1) (pda_nil))) (pda_cons (pd_var 8) (pda_nil))))) (pda_nil))))))) (pds_one (pds_ret (pd_m1 PySem.F.slot_str_join PySem.F.type_str_join mt_join mtd_join (pd_str) (pd_var 4))))))))
    sem_p_shown_program
theorem nm_no {m : Nat} {xs : List Str} (ok : NmOk m xs) {s : Nat} (hs : s < 97) (h9 : s ≠ 39) : ∀ n ∈ nsU xs, s ∉ n := fun n hn => (nsU_mem ok hn).1.no hs h9
def sx_p_read_names : FX := fun ds ms P Z => match ds with
  | [.str w, .int most, .lst ts, .int at_] => ∃ (wl : List Nat) (xs : List Str) (ls : List (List Nat)) (k : Nat), w = S wl ∧ ts = ls.map nmD ∧ at_ = (k : Int) ∧ ls[k]? = some (TL.joinL [32] (wl :: nsU xs)) ∧ 0 ≤ most ∧ most ≤ 6 ∧ NmOk most.toNat xs ∧ 32 ∉ wl ∧ wl.length ≤ 7 ∧
      ∀ p, (∀ q ∈ ms, q.1 ≠ p) → P (.opq (.ref p)) ((p, xs.map D.str) :: ms)
  | _ => False
def sp_p_read_names : FS := fun ds ms P => sx_p_read_names ds ms P fun _ _ _ _ => False
theorem pl_p_read_names : ∀ ds ms P, sp_p_read_names ds ms P → sx_p_read_names ds ms P fun _ _ _ _ => False := fun _ _ _ h => h
theorem len_p_read_names : ∀ ds ms Q Z, sx_p_read_names ds ms Q Z → ds.length = 4 := fun ds ms Q Z h => by
  unfold sx_p_read_names at h
  split at h <;> first | rfl | exact h.elim
def t_p_read_names : DTS := dSeq (dAsg (dM1 mSplit (dOp fIx (dVar 2) (dVar 3)) (dC (.str " "))) (sName 4)) (dSeq (dIfS (dTest (dOp fNe (dOp fIx (dVar 4) (dC (.int 0))) (dVar 0))) (dRaiseI "NoText" ["row"] (aCons (dVar 3) (aNil))) (dNext)) (dSeq (dTryN (dDrop (dCall 3 0 [0, 1, 2] sp_p_look_at_names (aCons (dVar 0) (aCons (dSl (dVar 4) (oSome (dC (.int 1))) (oNone)) (aCons (dVar 1) (aNil)))) (aNil)))) (dRet (dSlM (dVar 4) (oSome (dC (.int 1))) (oNone)))))
theorem words_tl (wl : List Nat) (xs : List Str) : ((wl :: nsU xs).map S).map D.str = D.str (S wl) :: xs.map D.str := by
  rw [List.map_cons, List.map_cons, map_nsU xs, List.map_map]
  rfl
theorem sem_p_read_names : ∀ ds ms Q Z, sx_p_read_names ds ms Q Z → t_p_read_names { nx := fun _ m => Q .non m, rt := Q, ex := fun c ns xs _ m => Z c ns xs m } (startD 5 ds) ms := by
  intro ds ms Q Z h
  unfold sx_p_read_names at h
  split at h
  · rename_i w most ts at_
    obtain ⟨wl, xs, ls, k, rfl, rfl, rfl, hk, m0, m6, ok, w32, w7, h⟩ := h
    have hl := nms_len (wd := wl) ok (by omega) w7
    have n32 : ∀ p ∈ wl :: nsU xs, 32 ∉ p := fun p hp => by
      rcases List.mem_cons.mp hp with rfl | hp
      · exact w32
      · exact nm_no ok (by decide) (by decide) p hp
    have hkl : k < ls.length := by
      by_cases z : k < ls.length
      · exact z
      · rw [List.getElem?_eq_none (by omega)] at hk; cases hk
    simp only [startD]
    unfold t_p_read_names
    walk_at "st"
    refine w_ix_l (d := nmD (TL.joinL [32] (wl :: nsU xs))) (atI_nat (by rw [List.getElem?_map, hk]; rfl)) ?_
    unfold nmD
    walk_at "st"
    refine ⟨rfl, Nat.le_trans (show (S (TL.joinL [32] (wl :: nsU xs))).length + 2 ≤ 200 by rw [lenS]; omega) (by decide), ?_⟩
    rw [lit " " [32], split_S (by simp) (by decide), TL.spl_join (by simp) n32]
    walk_at "st"
    rw [if_neg (by simp)]
    walk_at "st"
    rw [words_tl]
    refine StG.out (w_tryN ?_)
    walk_at "st"
    rw [cutL_1, List.drop_succ_cons, List.drop_zero]
    refine ⟨xs, rfl, m0, m6, ok, ?_⟩
    walk_at "st"
    refine ExG.out (w_slM ?_)
    walk_at "st"
    refine w_fSlM fun p hp => ?_
    rw [cutL_1, List.drop_succ_cons, List.drop_zero]
    walk_at "st"
    exact h p hp
  · exact h.elim
theorem okx_p_read_names (T : Tx P K mg) : FnX P w K mg base 4 T.f_p_read_names T.d_p_read_names ["word", "most", "texts", "at"] (spX K sx_p_read_names) := by
  have G_p_look_at_names := ok_p_look_at_names (P := P) (w := w) (base := base) T
  exact fnX_of (k := 3) (t := t_p_read_names) T.F_p_read_names sc_p_read_names len_p_read_names
    (fun cdv A outer s H E hr W tk => px_cons (px_of (pds_set (i := 4) sc_p_read_names.nd rfl (.inl rfl) (pd_m1 PySem.F.slot_str_split PySem.F.type_str_split mt_split mtd_split (pd_ix ix_seq opd_ix (pd_var 2) (pd_var 3)) (pd_str)))) (px_cons (px_if (pdt_cmp (op_neF hr.r.units) opd_ne (pd_ix ix_seq opd_ix (pd_var 4) (pd_int)) (pd_var 0)) (px_one (px_raiseI rfl tk (xb_of PySem.F.excBase_ValueError) PySem.F.store_ValueError PySem.W.kxs_ValueError T.i_NoText T.j_NoText hr rfl T.gx_NoText (pda_cons (pd_var 3) (pda_nil)))) (px_nil)) (px_cons (px_tryN ⟨rfl, by decide, .inl T.gx_NoProgram⟩ tk (fun W q xe tk po => px_one (px_of (pds_expr (pd_call G_p_look_at_names (hr.mono (by decide)) rfl T.g_p_look_at_names T.F_p_look_at_names.kp T.b_p_look_at_names_3 (pda_cons (pd_var 0) (pda_cons (pd_slice (pd_var 4) (pdo_some (pd_int)) (pdo_none)) (pda_cons (pd_var 1) (pda_nil))))))))) (px_one (px_of (pds_ret (pd_sliceM (pd_var 4) (pdo_some (pd_int)) (pdo_none))))))))
    sem_p_read_names
theorem ok_p_read_names (T : Tx P K mg) : FnG P w K mg base 4 T.f_p_read_names T.d_p_read_names ["word", "most", "texts", "at"] (spD K sp_p_read_names) := (okx_p_read_names T).plain pl_p_read_names
theorem spl_app : ∀ (n : Nat) (a b : List Nat), a.length = n → spl [32] 0 [] (a ++ 32 :: b) = spl [32] 0 [] a ++ spl [32] 0 [] b := by
  intro n
  induction n using Nat.strongRecOn with
  | _ n ih =>
    intro a b hn
    rcases spl_par 32 a [] with ⟨_, h2, h3⟩ | ⟨x, y, _, h2, nx, e⟩
    · rw [h2, List.nil_append, spl_step h3]; rfl
    · rw [h2, List.nil_append, e, List.append_assoc, List.cons_append, spl_step nx, ih y.length (by rw [← hn, e, List.length_append, List.length_cons]; omega) y b rfl]
      rfl
theorem in_strs {x : Str} {ys : List Str} {neg : Bool} {ms : MS} {P : D → MS → Prop} (hx : x.cps.all (· < 0x110000) = true) (hy : ∀ y ∈ ys, y.cps.all (· < 0x110000) = true) (q : P (.bl (Bool.xor neg (decide (x ∈ ys)))) ms) : InOk (.str x) (ys.map D.str) neg ms P := by
  have py : ∀ ys : List Str, (∀ y ∈ ys, y.cps.all (· < 0x110000) = true) → toPys (ys.map D.str) = some (ys.map PyData.str) ∧ PyData.canLayAll0 (ys.map PyData.str) = true := by
    intro ys
    induction ys with
    | nil => intro _; exact ⟨rfl, rfl⟩
    | cons y r ih =>
      intro h
      obtain ⟨e1, e2⟩ := ih fun z hz => h z (List.mem_cons_of_mem _ hz)
      exact ⟨by rw [List.map_cons]; unfold toPys; rw [e1]; rfl, Bool.and_eq_true_iff.mpr ⟨h y List.mem_cons_self, e2⟩⟩
  obtain ⟨e1, e2⟩ := py ys hy
  refine ⟨.str x, ys.map PyData.str, rfl, e1, hx, Nat.zero_le _, e2, ?_⟩
  have e : ((ys.map PyData.str).any fun z => PyData.eqv z (.str x)) = decide (x ∈ ys) := by
    rw [List.any_map, Bool.eq_iff_iff, List.any_eq_true, decide_eq_true_iff]
    refine ⟨fun ⟨y, hy, z⟩ => ?_, fun h => ⟨x, h, ?_⟩⟩
    · have z : (y == x) = true := z
      exact beq_iff_eq.mp z ▸ hy
    · show (x == x) = true
      exact beq_self_eq_true x
  rw [e]
  exact q
def sp_p_read_way : FS := fun ds ms P => match ds with
  | [.lst ys, .str t] => ∃ xs : List Str, ys = xs.map D.str ∧ NmOk 6 xs ∧ ((∃ s u : Int, 0 ≤ s ∧ s < xs.length ∧ 0 ≤ u ∧ u < xs.length ∧ t = S (rowT (nsU xs) s u) ∧ P (.tup [.int s, .int u]) ms) ∨ (∃ (bo : List (List Nat)) (w : Wi), LnU 1000 bo w.ls ∧ t = S (wtx bo w) ∧ P .non ms))
  | _ => False
theorem len_p_read_way : ∀ ds ms Q, sp_p_read_way ds ms Q → ds.length = 2 := fun ds ms Q h => by
  unfold sp_p_read_way at h
  split at h <;> first | rfl | exact h.elim
def t_p_read_way : DTS := dSeq (dAsg (dM1 mSplit (dVar 1) (dC (.str " "))) (sName 2)) (dSeq (dIfS (dOr (dTest (dOp fNe (dCB cLen (aCons (dVar 2) (aNil))) (dC (.int 3)))) (dOr (dTest (dOp fNe (dOp fIx (dVar 2) (dC (.int 0))) (dC (.str "row")))) (dOr (dTest (dOp fNotIn (dOp fIx (dVar 2) (dC (.int 1))) (dVar 0))) (dTest (dOp fNotIn (dOp fIx (dVar 2) (dC (.int 2))) (dVar 0)))))) (dRet (dC .non)) (dNext)) (dRet (dTup (aCons (dIndexS (dVar 0) (aCons (dOp fIx (dVar 2) (dC (.int 1))) (aNil))) (aCons (dIndexS (dVar 0) (aCons (dOp fIx (dVar 2) (dC (.int 2))) (aNil))) (aNil))))))
theorem sem_p_read_way : ∀ ds ms Q, sp_p_read_way ds ms Q → t_p_read_way { nx := fun _ m => Q .non m, rt := Q } (startD 3 ds) ms := by
  intro ds ms Q h
  unfold sp_p_read_way at h
  split at h
  · rename_i ys t
    obtain ⟨xs, rfl, ok, h⟩ := h
    simp only [startD]
    unfold t_p_read_way
    rcases h with ⟨s, u, s0, s1, u0, u1, rfl, h⟩ | ⟨bo, w, lo, rfl, h⟩
    · have rl := row_len (ps := nsU xs) (s := s) (t := u) fun p hp => (nsU_mem ok hp).2.1
      have ul : (nsU xs).length = xs.length := List.length_map ..
      have gt : ∀ i : Int, 0 ≤ i → i < xs.length → ∃ x, xs[i.toNat]? = some x ∧ x ∈ xs ∧ (nsU xs).getD i.toNat [] = cpl x := fun i h0 h1 => by
        have hi : i.toNat < xs.length := by omega
        refine ⟨xs[i.toNat], List.getElem?_eq_getElem hi, List.getElem_mem hi, ?_⟩
        rw [List.getD_eq_getElem?_getD]
        unfold nsU
        rw [List.getElem?_map, List.getElem?_eq_getElem hi]
        rfl
      obtain ⟨a, ea, ha, ga⟩ := gt s s0 s1
      obtain ⟨b, eb, hb, gb⟩ := gt u u0 u1
      have n32 : ∀ x ∈ xs, 32 ∉ cpl x := fun x hx => nm_no ok (by decide) (by decide) _ (List.mem_map_of_mem hx)
      have fst_ : ∀ (i : Int) (x : Str), 0 ≤ i → xs[i.toNat]? = some x → FirstS xs x i.toNat := fun i x h0 e => ⟨e, fun k hk e2 => by
        have h1 : i.toNat < xs.length := by
          by_cases z : i.toNat < xs.length
          · exact z
          · rw [List.getElem?_eq_none (by omega)] at e; cases e
        rw [List.getElem?_eq_getElem h1] at e
        rw [List.getElem?_eq_getElem (by omega)] at e2
        have e3 : xs[k]'(by omega) = xs[i.toNat] := (Option.some.inj e2).trans (Option.some.inj e).symm
        exact List.pairwise_iff_getElem.mp ok.nd k i.toNat (by omega) h1 hk e3⟩
      walk_at "st"
      refine ⟨rfl, Nat.le_trans (show (S (rowT (nsU xs) s u)).length + 2 ≤ 200 by rw [lenS]; omega) (by decide), ?_⟩
      have sp : Txt.split (S (rowT (nsU xs) s u)) (S [32]) = [S sgRow, a, b] := by
        unfold rowT
        rw [split_S (by simp) (by decide), TL.spl_join (by simp) (fun p hp => ?_), ga, gb]
        · simp only [List.map_cons, List.map_nil, S_cpl]
        · rw [ga, gb] at hp
          simp only [List.mem_cons, List.not_mem_nil, or_false] at hp
          rcases hp with rfl | rfl | rfl
          · decide
          · exact n32 a ha
          · exact n32 b hb
      rw [lit " " [32], sp]
      simp only [List.map_cons, List.map_nil]
      walk_at "st"
      have oka : ∀ x ∈ xs, x.cps.all (· < 0x110000) = true := fun x hx => nm_ok (ok.ok x hx)
      refine in_strs (oka a ha) oka ?_
      rw [decide_eq_true ha]
      refine (show mTest (.bl false) _ _ from ?_)
      walk_at "st"
      refine in_strs (oka b hb) oka ?_
      rw [decide_eq_true hb]
      refine (show mTest (.bl false) _ _ from ?_)
      walk_at "st"
      refine ExG.out (w_indexS ?_)
      walk_at "st"
      refine w_mIndexS ?_
      walk_at "st"
      refine w_mIndexSA rfl (fst_ s a s0 ea) ?_
      walk_at "st"
      refine ExG.out (w_indexS ?_)
      walk_at "st"
      refine w_mIndexS ?_
      walk_at "st"
      refine w_mIndexSA rfl (fst_ u b u0 eb) ?_
      walk_at "st"
      rw [Int.toNat_of_nonneg s0, Int.toNat_of_nonneg u0]
      exact h
    · have wl := wtx_len lo (by decide)
      have es : spl [32] 0 [] (wtx bo w) = spl [32] 0 [] (txT (tms w.ls ([] :: bo))) ++ [if w.j then [61] else [62, 61], [48]] := by
        unfold wtx
        cases w.j with
        | true =>
          rw [show enU true = 32 :: [61, 32, 48] from rfl, spl_app _ _ _ rfl]
          rfl
        | false =>
          rw [show enU false = 32 :: [62, 61, 32, 48] from rfl, spl_app _ _ _ rfl]
          rfl
      have ne : spl [32] 0 [] (txT (tms w.ls ([] :: bo))) ≠ [] := by
        rcases spl_par 32 (txT (tms w.ls ([] :: bo))) [] with ⟨_, h2, _⟩ | ⟨x, y, _, h2, _, _⟩
        · rw [h2]; exact List.cons_ne_nil _ _
        · rw [h2]; exact List.cons_ne_nil _ _
      generalize spl [32] 0 [] (txT (tms w.ls ([] :: bo))) = A at es ne
      walk_at "st"
      refine ⟨rfl, Nat.le_trans (show (S (wtx bo w)).length + 2 ≤ 20000 by rw [lenS]; omega) (by decide), ?_⟩
      rw [lit " " [32], split_S (by simp) (by decide), es]
      walk_at "st"
      match A, ne with
      | [], ne => exact absurd rfl ne
      | x :: y :: r, _ =>
        rw [if_pos (by simp; omega)]
        walk_at "st"
        exact h
      | [x], _ =>
        rw [if_neg (by simp)]
        simp only [List.cons_append, List.nil_append, List.map_cons, List.map_nil]
        refine (show TsG _ _ _ _ from ?_)
        walk_at "st"
        have fin : ∀ (v : Str), v = S (if w.j = true then [61] else [62, 61]) → v.cps.all (· < 0x110000) = true ∧ v ∉ xs := fun v e => by
          have hv : (if w.j = true then [61] else [62, 61]) = ([61] : List Nat) ∨ (if w.j = true then [61] else [62, 61]) = ([62, 61] : List Nat) := by
            cases w.j
            · exact .inr rfl
            · exact .inl rfl
          refine ⟨by rcases hv with hv | hv <;> (rw [e, hv]; decide +kernel), fun z => ?_⟩
          have := (nsU_mem ok (List.mem_map_of_mem (f := cpl) z)).1.ok
          have h61 : (61 : Nat) ∈ cpl v := by rcases hv with hv | hv <;> (rw [e, hv]; unfold cpl; rw [tlS]; simp)
          have := this 61 h61
          omega
        have oka : ∀ x ∈ xs, x.cps.all (· < 0x110000) = true := fun x hx => nm_ok (ok.ok x hx)
        obtain ⟨f1, f2⟩ := fin _ rfl
        cases hd : (S x == Str.ofString "row") with
        | false =>
          walk_at "st"
          exact h
        | true =>
          walk_at "st"
          refine in_strs f1 oka ?_
          rw [decide_eq_false f2]
          refine (show mTest (.bl true) _ _ from ?_)
          walk_at "st"
          exact h
  · exact h.elim
theorem ok_p_read_way (T : Tx P K mg) : FnG P w K mg base 1 T.f_p_read_way T.d_p_read_way ["places", "text"] (spD K sp_p_read_way) := by
  exact fnG_of (k := 0) (t := t_p_read_way) T.F_p_read_way sc_p_read_way len_p_read_way
    (fun cdv A outer s H hr => pds_cons (pds_set (i := 2) sc_p_read_way.nd rfl (.inl rfl) (pd_m1 PySem.F.slot_str_split PySem.F.type_str_split mt_split mtd_split (pd_var 1) (pd_str))) (pds_cons (pds_if (pdt_w (pdw_or (pdt_cmp (op_neF hr.r.units) opd_ne (pd_callB call_len cal_len rfl T.n_len (by decide +kernel) (pda_cons (pd_var 2) (pda_nil))) (pd_int)) (pdw_or (pdt_cmp (op_neF hr.r.units) opd_ne (pd_ix ix_seq opd_ix (pd_var 2) (pd_int)) (pd_glob (v := .str "row") rfl T.c_ROW ⟨_, rfl⟩ (fun _ => .str _))) (pdw_or (pdt_cmp (op_notInF hr.r.units) opd_notIn (pd_ix ix_seq opd_ix (pd_var 2) (pd_int)) (pd_var 0) (by rfl)) (pdw_or1 (pdt_cmp (op_notInF hr.r.units) opd_notIn (pd_ix ix_seq opd_ix (pd_var 2) (pd_int)) (pd_var 0) (by rfl))))))) (pds_one (pds_ret (pd_non))) (pds_nil)) (pds_one (pds_ret (pd_tup (pda_cons (pd_indexS (pd_var 0) (pda_cons (pd_ix ix_seq opd_ix (pd_var 2) (pd_int)) (pda_nil))) (pda_cons (pd_indexS (pd_var 0) (pda_cons (pd_ix ix_seq opd_ix (pd_var 2) (pd_int)) (pda_nil))) (pda_nil))))))))
    sem_p_read_way
def sx_p_read_wish_at : FX := fun ds ms P Z => match ds with
  | [d, .lst ts, .int at_] => ∃ (ns : List (List Nat)) (is : List Int) (j : Bool) (ls : List (List Nat)) (k : Nat), d = nsD ns ∧ LnU 900 ns is ∧ ts = ls.map nmD ∧ at_ = (k : Int) ∧ ls[k]? = some (txT (tms is ([] :: ns)) ++ enU j) ∧ flatM ms ∧
      ∀ p, (∀ q ∈ ms, q.1 ≠ p) → P (.tup [wdU j, .opq (.ref p)]) ((p, is.map D.int) :: ms)
  | _ => False
def sp_p_read_wish_at : FS := fun ds ms P => sx_p_read_wish_at ds ms P fun _ _ _ _ => False
theorem pl_p_read_wish_at : ∀ ds ms P, sp_p_read_wish_at ds ms P → sx_p_read_wish_at ds ms P fun _ _ _ _ => False := fun _ _ _ h => h
theorem len_p_read_wish_at : ∀ ds ms Q Z, sx_p_read_wish_at ds ms Q Z → ds.length = 3 := fun ds ms Q Z h => by
  unfold sx_p_read_wish_at at h
  split at h <;> first | rfl | exact h.elim
def t_p_read_wish_at : DTS := dTryN (dRetZ (fun Z => dCallZ 2 0 [0, 1] sx_p_read_wish (aCons (dVar 0) (aCons (dOp fIx (dVar 1) (dVar 2)) (aNil))) (aNil) Z))
theorem sem_p_read_wish_at : ∀ ds ms Q Z, sx_p_read_wish_at ds ms Q Z → t_p_read_wish_at { nx := fun _ m => Q .non m, rt := Q, ex := fun c ns xs _ m => Z c ns xs m } (startD 3 ds) ms := by
  intro ds ms Q Z h
  unfold sx_p_read_wish_at at h
  split at h
  · rename_i d ts at_
    obtain ⟨ns, is, j, ls, k, rfl, lo, rfl, rfl, hk, fm, h⟩ := h
    have hkl : k < ls.length := by
      by_cases z : k < ls.length
      · exact z
      · rw [List.getElem?_eq_none (by omega)] at hk; cases hk
    simp only [startD]
    unfold t_p_read_wish_at
    refine w_tryN ?_
    walk_at "st"
    refine w_ix_l (d := nmD (txT (tms is ([] :: ns)) ++ enU j)) (atI_nat (by rw [List.getElem?_map, hk]; rfl)) ?_
    walk_at "st"
    refine ⟨ns, is, j, rfl, lo, rfl, fm, fun p hp => ?_⟩
    walk_at "st"
    exact h p hp
  · exact h.elim
theorem okx_p_read_wish_at (T : Tx P K mg) : FnX P w K mg base 6 T.f_p_read_wish_at T.d_p_read_wish_at ["names", "texts", "at"] (spX K sx_p_read_wish_at) := by
  have G_p_read_wish := ok_p_read_wish (P := P) (w := w) (base := base) T
  have X_p_read_wish := okx_p_read_wish (P := P) (w := w) (base := base) T
  exact fnX_of (k := 5) (t := t_p_read_wish_at) T.F_p_read_wish_at sc_p_read_wish_at len_p_read_wish_at
    (fun cdv A outer s H E hr W tk => px_one (px_tryN ⟨rfl, by decide, .inl T.gx_NoText⟩ tk (fun W q xe tk po => px_one (px_retZ (fun Z => pdz_call tk X_p_read_wish (hr.mono (by decide)) rfl T.g_p_read_wish T.F_p_read_wish.kp T.b_p_read_wish_2 (pda_cons (pd_var 0) (pda_cons (pd_ix ix_seq opd_ix (pd_var 1) (pd_var 2)) (pda_nil))))))))
    sem_p_read_wish_at
theorem ok_p_read_wish_at (T : Tx P K mg) : FnG P w K mg base 6 T.f_p_read_wish_at T.d_p_read_wish_at ["names", "texts", "at"] (spD K sp_p_read_wish_at) := (okx_p_read_wish_at T).plain pl_p_read_wish_at
/-- rows that are being told -/
structure RwL (rs : List Rw) (L : MS) (q : Addr) (xs : List LR) : Prop where
  rs : xs.map LR.rw = rs
  mq : (q, xs.map lrD) ∈ L
  mr : ∀ x ∈ xs, ∀ e ∈ wsM x.a x.bs, e ∈ L
  nd : (q :: xs.flatMap adrs).Nodup
  fl : flatM L
def stps (r : Rw) : List ((Int × Int) ⊕ Wi) := .inl (r.s, r.t) :: r.ws.map .inr
def putW (rs : List Rw) (w : Wi) : List Rw := match rs.getLast? with
  | none => rs
  | some r => rs.dropLast ++ [⟨r.s, r.t, r.ws ++ [w]⟩]
def apS (rs : List Rw) : (Int × Int) ⊕ Wi → List Rw
  | .inl (s, t) => rs ++ [⟨s, t, []⟩]
  | .inr w => putW rs w
def stT (bo ps : List (List Nat)) : (Int × Int) ⊕ Wi → List Nat
  | .inl (s, t) => rowT ps s t
  | .inr w => wtx bo w
theorem stps_txt (bo ps : List (List Nat)) (r : Rw) : (stps r).map (stT bo ps) = linesR bo ps r := by
  unfold stps linesR
  rw [List.map_cons, List.map_map]
  rfl
theorem putW_snoc (rs : List Rw) (r : Rw) (w : Wi) : putW (rs ++ [r]) w = rs ++ [⟨r.s, r.t, r.ws ++ [w]⟩] := by
  unfold putW
  rw [List.getLast?_concat, List.dropLast_concat]
theorem fold_ws : ∀ (ws : List Wi) (rs : List Rw) (r : Rw), (ws.map Sum.inr).foldl apS (rs ++ [r]) = rs ++ [⟨r.s, r.t, r.ws ++ ws⟩]
  | [], rs, r => by rw [List.append_nil]; rfl
  | w :: ws, rs, r => by
    show (ws.map Sum.inr).foldl apS (putW (rs ++ [r]) w) = _
    rw [putW_snoc, fold_ws ws rs ⟨r.s, r.t, r.ws ++ [w]⟩, List.append_assoc]; rfl
theorem fold_stps : ∀ (rs pre : List Rw), (rs.flatMap stps).foldl apS pre = pre ++ rs
  | [], pre => by rw [List.append_nil]; rfl
  | r :: rs, pre => by
    rw [List.flatMap_cons, List.foldl_append]
    show (rs.flatMap stps).foldl apS ((r.ws.map Sum.inr).foldl apS (pre ++ [⟨r.s, r.t, []⟩])) = _
    rw [fold_ws, fold_stps rs, List.append_assoc, List.nil_append]
    rfl
def sx_p_read_rows : FX := fun ds ms P Z => match ds with
  | [.lst a, .lst b, .lst ts] => ∃ (g : Pg) (B : Nat), a = g.nm.map D.str ∧ b = g.pm.map D.str ∧ ts = (linesG g).map nmD ∧ PgOk B g ∧ B ≤ 900 ∧ flatM ms ∧ ∀ L q xs, RwL g.rs L q xs → Frsh L ms → P (.opq (.ref q)) (L ++ ms)
  | _ => False
def sp_p_read_rows : FS := fun ds ms P => sx_p_read_rows ds ms P fun _ _ _ _ => False
theorem pl_p_read_rows : ∀ ds ms P, sp_p_read_rows ds ms P → sx_p_read_rows ds ms P fun _ _ _ _ => False := fun _ _ _ h => h
theorem len_p_read_rows : ∀ ds ms Q Z, sx_p_read_rows ds ms Q Z → ds.length = 3 := fun ds ms Q Z h => by
  unfold sx_p_read_rows at h
  split at h <;> first | rfl | exact h.elim
def t_p_read_rows : DTS := dSeq (dAsg (dLstM (aNil)) (sName 3)) (dSeq (dFor (iRange2 (aCons (dC (.int 2)) (aCons (dCB cLen (aCons (dVar 2) (aNil))) (aNil)))) (sName 4) (dSeq (dAsg (dCall 2 0 [0, 1] sp_p_read_way (aCons (dVar 1) (aCons (dOp fIx (dVar 2) (dVar 4)) (aNil))) (aNil)) (sName 5)) (dIfS (dTest (dOp fNotIs (dVar 5) (dC .non))) (dSeq (dIfS (dTest (dOp fEq (dCB cLen (aCons (dVar 3) (aNil))) (dC (.int 10)))) (dRaiseI "NoText" ["row"] (aCons (dVar 4) (aNil))) (dNext)) (dDrop (dAppend (dVar 3) (aCons (dTup (aCons (dOp fIx (dVar 5) (dC (.int 0))) (aCons (dOp fIx (dVar 5) (dC (.int 1))) (aCons (dLstM (aNil)) (aNil))))) (aNil))))) (dSeq (dIfS (dOr (dTest (dView 3 (dOp fEq (dVar 3) (dLst (aNil))))) (dTest (dView 3 (dOp fEq (dCB cLen (aCons (dOp fIx (dOp fIx (dVar 3) (dNeg (dC (.int 1)))) (dC (.int 2))) (aNil))) (dC (.int 12)))))) (dRaiseI "NoText" ["row"] (aCons (dVar 4) (aNil))) (dNext)) (dExprZ (fun Z => dAppend (dOp fIx (dOp fIx (dVar 3) (dNeg (dC (.int 1)))) (dC (.int 2))) (aCons (dCallZ 3 0 [0, 1, 2] sx_p_read_wish_at (aCons (dCall 1 0 [0] sp_p_both_sides (aCons (dVar 0) (aNil)) (aNil)) (aCons (dVar 2) (aCons (dVar 4) (aNil)))) (aNil) Z) (aNil)))))))) (dRet (dVar 3)))
/-- what each line asks of the rows ahead of it -/
def StOk (B : Nat) (g : Pg) (pre : List ((Int × Int) ⊕ Wi)) : (Int × Int) ⊕ Wi → Prop
  | .inl (s, t) => 0 ≤ s ∧ s < g.pm.length ∧ 0 ≤ t ∧ t < g.pm.length ∧ (pre.foldl apS []).length < 10
  | .inr w => WiOk B (2 * g.nm.length) w ∧ ∃ (rs : List Rw) (r : Rw), pre.foldl apS [] = rs ++ [r] ∧ r.ws.length < 12
theorem st_ok {B : Nat} {g : Pg} (ok : PgOk B g) {pre rest : List ((Int × Int) ⊕ Wi)} {x : (Int × Int) ⊕ Wi} (h : g.rs.flatMap stps = pre ++ x :: rest) : StOk B g pre x := by
  have go : ∀ (rs done : List Rw) (pre : List ((Int × Int) ⊕ Wi)), (∀ r ∈ rs, RwOk B g.nm.length g.pm.length r) → done.length + rs.length ≤ 10 → rs.flatMap stps = pre ++ x :: rest →
      (match x with
      | .inl (s, t) => 0 ≤ s ∧ s < g.pm.length ∧ 0 ≤ t ∧ t < g.pm.length ∧ (pre.foldl apS done).length < 10
      | .inr w => WiOk B (2 * g.nm.length) w ∧ ∃ (rs : List Rw) (r : Rw), pre.foldl apS done = rs ++ [r] ∧ r.ws.length < 12) := by
    intro rs
    induction rs with
    | nil => intro done pre _ _ h; exact absurd h.symm (by simp)
    | cons r rs ih =>
      intro done pre ro hl h
      have o := ro r List.mem_cons_self
      rw [List.length_cons] at hl
      rw [List.flatMap_cons] at h
      by_cases hp : (stps r).length ≤ pre.length
      · obtain ⟨pre2, rfl, e2⟩ : ∃ pre2, pre = stps r ++ pre2 ∧ rs.flatMap stps = pre2 ++ x :: rest := by
          rcases List.append_eq_append_iff.mp h with ⟨as, e1, e2⟩ | ⟨bs, e1, e2⟩
          · exact ⟨as, e1, e2⟩
          · have := congrArg List.length e1
            rw [List.length_append] at this
            have hb : bs = [] := List.eq_nil_of_length_eq_zero (by omega)
            subst hb
            rw [List.append_nil] at e1
            exact ⟨[], by rw [List.append_nil]; exact e1.symm, e2.symm⟩
        have := ih (done ++ [r]) pre2 (fun z hz => ro z (List.mem_cons_of_mem _ hz)) (by rw [List.length_append, List.length_singleton]; omega) e2
        have ef : (stps r ++ pre2).foldl apS done = pre2.foldl apS (done ++ [r]) := by
          rw [List.foldl_append]
          congr 1
          have := fold_stps [r] done
          rw [List.flatMap_singleton] at this
          exact this
        rw [ef]
        exact this
      · obtain ⟨mid, em⟩ : ∃ mid, stps r = pre ++ x :: mid := by
          rcases List.append_eq_append_iff.mp h with ⟨as, e1, e2⟩ | ⟨bs, e1, e2⟩
          · have := congrArg List.length e1
            rw [List.length_append] at this
            omega
          · cases bs with
            | nil => rw [List.append_nil] at e1; rw [e1] at hp; exact absurd (Nat.le_refl _) hp
            | cons b bs =>
              have e2 : x :: rest = b :: (bs ++ rs.flatMap stps) := e2
              injection e2 with e3 e4
              subst e3
              exact ⟨bs, e1⟩
        cases pre with
        | nil =>
          unfold stps at em
          injection em with em _
          subst em
          exact ⟨o.s0, o.s1, o.t0, o.t1, by show done.length < 10; omega⟩
        | cons p0 pre =>
          unfold stps at em
          injection em with em0 em
          subst em0
          obtain ⟨l1, l2, el, e1, e2⟩ := List.map_eq_append_iff.mp em
          cases l2 with
          | nil => cases e2
          | cons w l2 =>
            rw [List.map_cons] at e2
            injection e2 with e2 _
            subst e2
            refine ⟨o.wo w (by rw [el]; simp), done, ⟨r.s, r.t, l1⟩, ?_, ?_⟩
            · show pre.foldl apS (done ++ [⟨r.s, r.t, []⟩]) = _
              rw [← e1, fold_ws]; rfl
            · have := o.wl
              rw [el, List.length_append, List.length_cons] at this
              show l1.length < 12
              omega
  have := go g.rs [] pre ok.ro (by have := ok.rl; simp; omega) h
  cases x with
  | inl p => exact this
  | inr w => exact this
theorem put_mem_self {a : Addr} {ys : List D} : ∀ {M : MS}, a ∈ M.map (·.1) → (a, ys) ∈ put M a ys
  | [], h => by cases h
  | (b, xs) :: r, h => by
    unfold put
    by_cases e : b = a
    · rw [if_pos e, e]; exact List.mem_cons_self
    · rw [if_neg e]
      rcases List.mem_cons.mp h with z | h
      · exact absurd z.symm e
      · exact List.mem_cons_of_mem _ (put_mem_self h)
theorem put_mem_ne {a : Addr} {ys : List D} {e : Addr × List D} : ∀ {M : MS}, e ∈ M → e.1 ≠ a → e ∈ put M a ys
  | [], h, _ => by cases h
  | (b, xs) :: r, h, ne => by
    unfold put
    rcases List.mem_cons.mp h with rfl | h
    · rw [if_neg ne]; exact List.mem_cons_self
    · by_cases z : b = a
      · rw [if_pos z]; exact List.mem_cons_of_mem _ h
      · rw [if_neg z]; exact List.mem_cons_of_mem _ (put_mem_ne h ne)
theorem wsM_in {x : LR} {e : Addr × List D} (h : e ∈ wsM x.a x.bs) : e.1 ∈ adrs x := (wsM_adr x).mem_iff.mp (List.mem_map_of_mem h)
theorem adrs_in {x : LR} {b : Addr} (h : b ∈ adrs x) : ∃ e ∈ wsM x.a x.bs, e.1 = b := List.mem_map.mp ((wsM_adr x).mem_iff.mpr h)
section
variable {rs : List Rw} {L ms : MS} {q a : Addr} {xs : List LR}
theorem RwL.off (h : RwL rs L q xs) (hn : ∀ e ∈ L ++ ms, e.1 ≠ a) : a ≠ q ∧ a ∉ xs.flatMap adrs := by
  refine ⟨fun z => hn _ (List.mem_append_left _ h.mq) z.symm, fun z => ?_⟩
  obtain ⟨x, hx, hb⟩ := List.mem_flatMap.mp z
  obtain ⟨e, he, ee⟩ := adrs_in hb
  exact hn e (List.mem_append_left _ (h.mr x hx e he)) ee
theorem RwL.ne (h : RwL rs L q xs) {x : LR} (hx : x ∈ xs) {e : Addr × List D} (he : e ∈ wsM x.a x.bs) : e.1 ≠ q := fun z =>
  (List.nodup_cons.mp h.nd).1 (by rw [← z]; exact List.mem_flatMap.mpr ⟨x, hx, wsM_in he⟩)
theorem rwl_row (h : RwL rs L q xs) (f : Frsh L ms) (hn : ∀ e ∈ L ++ ms, e.1 ≠ a) (s t : Int) :
    ∃ L', put ((a, []) :: (L ++ ms)) q (xs.map lrD ++ [.tup [.int s, .int t, .opq (.ref a)]]) = L' ++ ms ∧ RwL (rs ++ [⟨s, t, []⟩]) L' q (xs ++ [⟨s, t, a, []⟩]) ∧ Frsh L' ms := by
  obtain ⟨o1, o2⟩ := h.off hn
  have hq : q ∈ L.map (·.1) := List.mem_map_of_mem (f := (·.1)) h.mq
  refine ⟨(a, []) :: put L q (xs.map lrD ++ [.tup [.int s, .int t, .opq (.ref a)]]), ?_, ?_, ?_⟩
  · conv => lhs; unfold put
    rw [if_neg o1, put_app hq]; rfl
  · have eq_ : xs.map lrD ++ [.tup [.int s, .int t, .opq (.ref a)]] = (xs ++ [(⟨s, t, a, []⟩ : LR)]).map lrD := by rw [List.map_append]; rfl
    rw [eq_]
    refine ⟨by rw [List.map_append, h.rs]; rfl, List.mem_cons_of_mem _ (put_mem_self hq), fun x hx e he => ?_, ?_, ?_⟩
    · rcases List.mem_append.mp hx with hx | hx
      · exact List.mem_cons_of_mem _ (put_mem_ne (h.mr x hx e he) (h.ne hx he))
      · rw [List.mem_singleton.mp hx] at he
        have he : e ∈ [(a, ([] : List D))] := he
        rw [List.mem_singleton.mp he]; exact List.mem_cons_self
    · rw [List.flatMap_append, List.flatMap_singleton]
      show (q :: (xs.flatMap adrs ++ [a])).Nodup
      rw [← List.cons_append]
      refine List.nodup_append.mpr ⟨h.nd, by simp, fun b hb c hc z => ?_⟩
      rw [List.mem_singleton.mp hc] at z
      subst z
      rcases List.mem_cons.mp hb with z | hb
      · exact o1 z
      · exact o2 hb
    · intro e he
      rcases List.mem_cons.mp he with rfl | he
      · rfl
      · exact put_flat h.fl (flats_all lr_flat _) e he
  · refine ⟨fun e he => ?_, frsh_map (put_adr q _ L) f⟩
    rcases List.mem_append.mp he with he | he
    · have : e.1 ∈ L.map (·.1) := by rw [← put_adr q _ L]; exact List.mem_map_of_mem he
      obtain ⟨e2, h2, ee⟩ := List.mem_map.mp this
      rw [← ee]; exact hn e2 (List.mem_append_left _ h2)
    · exact hn e (List.mem_append_right _ he)
theorem rwl_wish {pre : List LR} {x : LR} {w : Wi} (h : RwL rs L q (pre ++ [x])) (f : Frsh L ms) (hn : ∀ e ∈ L ++ ms, e.1 ≠ a) :
    ∃ L', put ((a, w.ls.map D.int) :: (L ++ ms)) x.a (x.bs.map lwD ++ [lwD ⟨w, a⟩]) = L' ++ ms ∧ RwL (pre.map LR.rw ++ [⟨x.s, x.t, x.bs.map LW.w ++ [w]⟩]) L' q (pre ++ [⟨x.s, x.t, x.a, x.bs ++ [⟨w, a⟩]⟩]) ∧ Frsh L' ms := by
  obtain ⟨o1, o2⟩ := h.off hn
  have hx : x ∈ pre ++ [x] := by simp
  have ma : (x.a, x.bs.map lwD) ∈ L := h.mr x hx _ List.mem_cons_self
  have hxa : x.a ∈ L.map (·.1) := List.mem_map_of_mem (f := (·.1)) ma
  have nd := h.nd
  rw [List.flatMap_append, List.flatMap_singleton] at nd o2
  obtain ⟨ndq, nd2⟩ := List.nodup_cons.mp nd
  obtain ⟨np, nx, nn⟩ := List.nodup_append.mp nd2
  have axa : a ≠ x.a := fun z => o2 (List.mem_append_right _ (by rw [z]; exact List.mem_cons_self))
  refine ⟨(a, w.ls.map D.int) :: put L x.a (x.bs.map lwD ++ [lwD ⟨w, a⟩]), ?_, ?_, ?_⟩
  · conv => lhs; unfold put
    rw [if_neg axa, put_app hxa]; rfl
  · have eq_ : x.bs.map lwD ++ [lwD ⟨w, a⟩] = (x.bs ++ [(⟨w, a⟩ : LW)]).map lwD := by rw [List.map_append]; rfl
    rw [eq_]
    have qx : q ≠ x.a := fun z => ndq (by rw [z]; exact List.mem_append_right _ List.mem_cons_self)
    refine ⟨?_, ?_, fun y hy e he => ?_, ?_, ?_⟩
    · rw [List.map_append, List.map_singleton]
      show _ ++ [(⟨x.s, x.t, (x.bs ++ [(⟨w, a⟩ : LW)]).map LW.w⟩ : Rw)] = _
      rw [List.map_append]; rfl
    · have := h.mq
      rw [List.map_append] at this
      have e2 : (pre ++ [(⟨x.s, x.t, x.a, x.bs ++ [⟨w, a⟩]⟩ : LR)]).map lrD = pre.map lrD ++ [x].map lrD := by rw [List.map_append]; rfl
      rw [e2]
      exact List.mem_cons_of_mem _ (put_mem_ne this qx)
    · rcases List.mem_append.mp hy with hy | hy
      · have hy' : y ∈ pre ++ [x] := List.mem_append_left _ hy
        refine List.mem_cons_of_mem _ (put_mem_ne (h.mr y hy' e he) fun z => ?_)
        exact nn e.1 (List.mem_flatMap.mpr ⟨y, hy, wsM_in he⟩) x.a List.mem_cons_self z
      · rw [List.mem_singleton.mp hy] at he
        rcases List.mem_cons.mp he with rfl | he
        · exact List.mem_cons_of_mem _ (put_mem_self hxa)
        · unfold wsN at he
          rw [List.map_append, List.reverse_append] at he
          have he : e ∈ lwM ⟨w, a⟩ :: (x.bs.map lwM).reverse := he
          rcases List.mem_cons.mp he with rfl | he
          · exact List.mem_cons_self
          · refine List.mem_cons_of_mem _ (put_mem_ne (h.mr x hx e (List.mem_cons_of_mem _ he)) fun z => ?_)
            have nx2 := List.nodup_cons.mp (show (x.a :: x.bs.map LW.a).Nodup from nx)
            refine nx2.1 ?_
            obtain ⟨b, hb, rfl⟩ := List.mem_map.mp (List.mem_reverse.mp he)
            rw [← z]
            exact List.mem_map_of_mem (f := LW.a) hb
    · rw [List.flatMap_append, List.flatMap_singleton]
      have ead : adrs ⟨x.s, x.t, x.a, x.bs ++ [⟨w, a⟩]⟩ = adrs x ++ [a] := by unfold adrs; rw [List.map_append]; rfl
      rw [ead, ← List.append_assoc, ← List.cons_append]
      refine List.nodup_append.mpr ⟨nd, by simp, fun b hb c hc z => ?_⟩
      rw [List.mem_singleton.mp hc] at z
      subst z
      rcases List.mem_cons.mp hb with z | hb
      · exact o1 z
      · exact o2 hb
    · intro e he
      rcases List.mem_cons.mp he with rfl | he
      · exact flatsI _
      · exact put_flat h.fl (flats_all lw_flat _) e he
  · refine ⟨fun e he => ?_, frsh_map (put_adr x.a _ L) f⟩
    rcases List.mem_append.mp he with he | he
    · have : e.1 ∈ L.map (·.1) := by rw [← put_adr x.a _ L]; exact List.mem_map_of_mem he
      obtain ⟨e2, h2, ee⟩ := List.mem_map.mp this
      rw [← ee]; exact hn e2 (List.mem_append_left _ h2)
    · exact hn e (List.mem_append_right _ he)
/-- rows told so far, seen as they are -/
theorem vw_rows (h : RwL rs L q xs) : Vw L (.opq (.ref q)) (.lst (rs.map rwD)) := by
  have wl : ∀ bs : List LW, (∀ b ∈ bs, lwM b ∈ L) → VwS L (bs.map lwD) ((bs.map LW.w).map wiD) := fun bs => by
    induction bs with
    | nil => exact fun _ => .nil
    | cons b r ih =>
      intro hb
      exact .cons (.tup (.cons .same (.cons (.lst (hb b List.mem_cons_self) (VwS.same _)) .nil))) (ih fun c hc => hb c (List.mem_cons_of_mem _ hc))
  have rl : ∀ ys : List LR, (∀ x ∈ ys, ∀ e ∈ wsM x.a x.bs, e ∈ L) → VwS L (ys.map lrD) ((ys.map LR.rw).map rwD) := fun ys => by
    induction ys with
    | nil => exact fun _ => .nil
    | cons y r ih =>
      intro hy
      refine .cons (.tup (.cons .same (.cons .same (.cons (.lst (hy y List.mem_cons_self _ List.mem_cons_self) (wl y.bs fun b hb => hy y List.mem_cons_self _ (List.mem_cons_of_mem _ (List.mem_reverse.mpr (List.mem_map_of_mem hb))))) .nil)))) (ih fun c hc => hy c (List.mem_cons_of_mem _ hc))
  rw [← h.rs]
  exact .lst h.mq (rl xs h.mr)
end
theorem sem_p_read_rows : ∀ ds ms Q Z, sx_p_read_rows ds ms Q Z → t_p_read_rows { nx := fun _ m => Q .non m, rt := Q, ex := fun c ns xs _ m => Z c ns xs m } (startD 6 ds) ms := by
  intro ds ms Q Z h
  unfold sx_p_read_rows at h
  split at h
  · rename_i a b ts
    obtain ⟨g, B, rfl, rfl, rfl, ok, hB, fm, h⟩ := h
    have few := lines_few ok
    simp only [startD]
    unfold t_p_read_rows
    walk_at "st"
    intro q hq
    walk_at "st"
    refine ItG.out (w_irng2 ?_)
    walk_at "st"
    rw [List.length_map]
    refine w_mRng2 (by omega) ?_
    have el : linesG g = TL.joinL [32] (sgNum :: nsU g.nm) :: TL.joinL [32] (sgPla :: nsU g.pm) :: (g.rs.flatMap stps).map (stT (Bo (nsU g.nm)) (nsU g.pm)) := by
      unfold linesG
      rw [List.map_flatMap]
      congr 2
      have : (fun r : Rw => linesR (Bo (nsU g.nm)) (nsU g.pm) r) = fun r => (stps r).map (stT (Bo (nsU g.nm)) (nsU g.pm)) := funext fun r => (stps_txt _ _ r).symm
      exact congrArg (fun f => g.rs.flatMap f) this
    have ll : (linesG g).length = (g.rs.flatMap stps).length + 2 := by rw [el]; simp
    have er : rng 2 (((linesG g).length : Int) - 2).toNat = ((g.rs.flatMap stps).zipIdx).map fun p => D.int (2 + (p.2 : Int)) := by
      rw [show (((linesG g).length : Int) - 2).toNat = (g.rs.flatMap stps).length by omega]
      unfold rng
      refine List.ext_getElem? fun i => ?_
      rw [List.getElem?_map, List.getElem?_map, List.getElem?_zipIdx]
      by_cases hi : i < (g.rs.flatMap stps).length
      · rw [List.getElem?_range hi, List.getElem?_eq_getElem hi]
        show some (D.int (2 + (i : Int))) = some (D.int (2 + ((0 + i : Nat) : Int)))
        rw [Nat.zero_add]
      · rw [List.getElem?_eq_none (by rw [List.length_range]; omega), List.getElem?_eq_none (by omega)]; rfl
    rw [er]
    refine loop_lX (fun p : ((Int × Int) ⊕ Wi) × Nat => D.int (2 + (p.2 : Int))) (g.rs.flatMap stps).zipIdx (fun pre ds m => (∃ L xs, m = L ++ ms ∧ RwL ((pre.map (·.1)).foldl apS []) L q xs ∧ Frsh L ms) ∧ ∃ x4 x5, ds = [some (.lst (g.nm.map D.str)), some (.lst (g.pm.map D.str)), some (.lst ((linesG g).map nmD)), some (.opq (.ref q)), x4, x5]) (g.rs.flatMap stps).zipIdx [] _ _ rfl ⟨⟨[(q, [])], [], rfl, ⟨rfl, List.mem_singleton.mpr rfl, (fun x hx => by cases hx), by simp, (fun e he => by rw [List.mem_singleton.mp he]; rfl)⟩, hq, trivial⟩, _, _, rfl⟩ ?_ ?_
    · rintro pre ⟨x, i⟩ rest ds m hs ⟨⟨L, xs, rfl, rw_, fr⟩, y4, y5, rfl⟩ N hN
      have hs2 : g.rs.flatMap stps = pre.map (·.1) ++ x :: rest.map (·.1) := by
        have := congrArg (List.map (·.1)) hs
        rw [List.zipIdx_map_fst, List.map_append, List.map_cons] at this
        exact this.symm
      have hi : (g.rs.flatMap stps)[i]? = some x := by
        have hm : (x, i) ∈ (g.rs.flatMap stps).zipIdx := by rw [← hs]; simp
        obtain ⟨_, h1, h2⟩ := List.mem_zipIdx hm
        rw [List.getElem?_eq_getElem (by omega)]
        exact congrArg some (by simpa using h2.symm)
      have ht : (linesG g)[2 + i]? = some (stT (Bo (nsU g.nm)) (nsU g.pm) x) := by
        rw [el, Nat.add_comm, List.getElem?_cons_succ, List.getElem?_cons_succ, List.getElem?_map, hi]; rfl
      have hti : 2 + i < (linesG g).length := by
        by_cases z : 2 + i < (linesG g).length
        · exact z
        · rw [List.getElem?_eq_none (by omega)] at ht; cases ht
      have hat : atI ((linesG g).map nmD) (2 + (i : Int)) = some (nmD (stT (Bo (nsU g.nm)) (nsU g.pm) x)) := by
        rw [show (2 + (i : Int)) = ((2 + i : Nat) : Int) by omega]
        exact atI_nat (by rw [List.getElem?_map, ht]; rfl)
      have so := st_ok ok hs2
      have fmL : flatM (L ++ ms) := flatM_app rw_.fl fm
      have lq : look (L ++ ms) q = some (xs.map lrD) := look_in fr rw_.mq
      have xl : xs.length = ((pre.map (·.1)).foldl apS []).length := by rw [← rw_.rs, List.length_map]
      walk_at "st"
      refine w_ix_l hat ?_
      unfold nmD
      walk_at "st"
      refine ⟨g.pm, rfl, ok.pm, ?_⟩
      match x, so, hat, ht, hi, hs, hs2 with
      | .inl (s, t), so, hat, ht, hi, hs, hs2 =>
        obtain ⟨s0, s1, t0, t1, fewr⟩ := so
        refine .inl ⟨s, t, s0, s1, t0, t1, rfl, ?_⟩
        walk_at "st"
        refine CbG.out (w_len_o lq ?_)
        rw [List.length_map, xl]
        walk_at "st"
        rw [if_neg (by simp; omega)]
        walk_at "st"
        intro a ha
        walk_at "st"
        obtain ⟨L', e1, e2, e3⟩ := rwl_row rw_ fr ha s t
        have aq := (rw_.off ha).1
        refine w_mApp2 (xs := xs.map lrD) (by unfold look; rw [if_neg aq]; exact lq) e1 ⟨Nat.lt_of_lt_of_le (show (xs.map lrD).length < 20 by rw [List.length_map, xl]; omega) (by decide), ?_⟩
        walk_at "st"
        refine hN _ _ ⟨⟨L', xs ++ [⟨s, t, a, []⟩], rfl, ?_, e3⟩, _, _, rfl⟩
        rw [List.map_append, List.foldl_append]
        exact e2
      | .inr w, so, hat, ht, hi, hs, hs2 =>
        obtain ⟨wo, rs0, r0, e0, f12⟩ := so
        have lo := lnU_of ok.nm wo hB
        refine .inr ⟨Bo (nsU g.nm), w, ⟨lo.nm, lo.nd, lo.n8, lo.ln, fun i hi => (lo.bd i hi).mono (by decide)⟩, rfl, ?_⟩
        rw [e0] at rw_
        walk_at "st"
        refine ExG.out (w_view L ms rfl rfl (vw_rows rw_) rfl ?_)
        walk_at "st"
        rw [show ((rs0 ++ [r0]).map rwD).isEmpty = false by simp]
        refine ⟨rfl, fm, ?_⟩
        walk_at "st"
        refine ExG.out (w_view L ms rfl rfl (vw_rows rw_) rfl ?_)
        walk_at "st"
        have last : ∀ {α : Type} (xs : List α) (x : α), atI (xs ++ [x]) (-1) = some x := fun xs x => by
          unfold atI ixN
          rw [if_neg (by decide), if_pos (by rw [List.length_append, List.length_singleton]; omega)]
          show (xs ++ [x])[_]? = _
          rw [show (-1 + (((xs ++ [x]).length : Nat) : Int)).toNat = xs.length by rw [List.length_append, List.length_singleton]; omega]
          simp
        refine w_ix_l (d := rwD r0) (by rw [List.map_append]; exact last _ _) ?_
        unfold rwD
        walk_at "st"
        refine ⟨rfl, fm, ?_⟩
        rw [List.length_map, show ((r0.ws.length : Int) == 12) = false from beq_eq_false_iff_ne.mpr (by omega)]
        walk_at "st"
        obtain ⟨ps, l2, el2, hp, h2⟩ := List.map_eq_append_iff.mp rw_.rs
        obtain ⟨x0, rfl, hx0⟩ := List.map_eq_singleton_iff.mp h2
        subst el2
        subst hp
        subst hx0
        refine w_ix_o (d := lrD x0) lq (by rw [List.map_append]; exact last _ _) ?_
        unfold lrD
        walk_at "st"
        have lxa : look (L ++ ms) x0.a = some (x0.bs.map lwD) := look_in fr (rw_.mr x0 (by simp) _ List.mem_cons_self)
        refine w_mApp lxa ?_
        walk_at "st"
        refine ⟨nsU g.nm, (nsD_nsU g.nm).symm, by rw [show (nsU g.nm).length = g.nm.length from List.length_map ..]; have := ok.nm.l2; omega, fun n hn => by have := (nsU_mem ok.nm hn).2.1; omega, ?_⟩
        walk_at "st"
        refine ⟨Bo (nsU g.nm), w.ls, w.j, linesG g, 2 + i, rfl, lo, rfl, by omega, ht, fmL, fun a ha => ?_⟩
        walk_at "st"
        obtain ⟨L', e1, e2, e3⟩ := rwl_wish rw_ fr ha
        have ax : a ≠ x0.a := fun z => ha _ (List.mem_append_left _ (rw_.mr x0 (by simp) _ List.mem_cons_self)) z.symm
        refine w_mApp2 (xs := x0.bs.map lwD) (by unfold look; rw [if_neg ax]; exact lxa) e1 ⟨Nat.lt_of_lt_of_le (show (x0.bs.map lwD).length < 20 by
          have : x0.rw.ws.length = x0.bs.length := List.length_map ..
          rw [List.length_map]; omega) (by decide), ?_⟩
        walk_at "st"
        refine hN _ _ ⟨⟨L', ps ++ [⟨x0.s, x0.t, x0.a, x0.bs ++ [⟨w, a⟩]⟩], rfl, ?_, e3⟩, _, _, rfl⟩
        rw [List.map_append, List.foldl_append, e0]
        show RwL (putW _ w) _ _ _
        rw [putW_snoc]
        exact e2
    · rintro ds m ⟨⟨L, xs, rfl, rw_, fr⟩, y4, y5, rfl⟩
      walk_at "st"
      rw [List.zipIdx_map_fst, fold_stps, List.nil_append] at rw_
      exact h L q xs rw_ fr
  · exact h.elim
theorem okx_p_read_rows (T : Tx P K mg) : FnX P w K mg base 7 T.f_p_read_rows T.d_p_read_rows ["names", "places", "texts"] (spX K sx_p_read_rows) := by
  have G_p_read_way := ok_p_read_way (P := P) (w := w) (base := base) T
  have G_p_read_wish_at := ok_p_read_wish_at (P := P) (w := w) (base := base) T
  have G_p_both_sides := ok_p_both_sides (P := P) (w := w) (base := base) T
  have X_p_read_wish_at := okx_p_read_wish_at (P := P) (w := w) (base := base) T
  exact fnX_of (k := 6) (t := t_p_read_rows) T.F_p_read_rows sc_p_read_rows len_p_read_rows
    (fun cdv A outer s H E hr W tk => px_cons (px_of (pds_set (i := 3) sc_p_read_rows.nd rfl (.inl rfl) (pd_lstM (pda_nil)))) (px_cons (px_for (vs := [4]) (passes_of rfl) rfl (pdi_range2 rfl T.n_range (pda_cons (pd_int) (pda_cons (pd_callB call_len cal_len rfl T.n_len (by decide +kernel) (pda_cons (pd_var 2) (pda_nil))) (pda_nil)))) (pg_name (i := 4) sc_p_read_rows.nd rfl (.inl rfl)) (tg_name (i := 4) (by decide)) (px_cons (px_of (pds_set (i := 5) sc_p_read_rows.nd rfl (.inl rfl) (pd_call G_p_read_way (hr.mono (by decide)) rfl T.g_p_read_way T.F_p_read_way.kp T.b_p_read_way_2 (pda_cons (pd_var 1) (pda_cons (pd_ix ix_seq opd_ix (pd_var 2) (pd_var 4)) (pda_nil)))))) (px_one (px_if (pdt_cmp op_notIsD opd_notIs (pd_var 5) (pd_non)) (px_cons (px_if (pdt_cmp (op_eqF hr.r.units) opd_eq (pd_callB call_len cal_len rfl T.n_len (by decide +kernel) (pda_cons (pd_var 3) (pda_nil))) (pd_glob (v := .int (10)) rfl T.c_MOST_ROWS ⟨_, rfl⟩ (fun _ => .int _))) (px_one (px_raiseI rfl tk (xb_of PySem.F.excBase_ValueError) PySem.F.store_ValueError PySem.W.kxs_ValueError T.i_NoText T.j_NoText hr rfl T.gx_NoText (pda_cons (pd_var 4) (pda_nil)))) (px_nil)) (px_one (px_of (pds_expr (pd_append (pd_var 3) (pda_cons (pd_tup (pda_cons (pd_ix ix_seq opd_ix (pd_var 5) (pd_int)) (pda_cons (pd_ix ix_seq opd_ix (pd_var 5) (pd_int)) (pda_cons (pd_lstM (pda_nil)) (pda_nil))))) (pda_nil))))))) (px_cons (px_if (pdt_w (pdw_or (pdt_cmpV (i := 3) (op_eqF hr.r.units) opd_eq (pd_var 3) (pd_lst (pda_nil))) (pdw_or1 (pdt_cmpV (i := 3) (op_eqF hr.r.units) opd_eq (pd_callB call_len cal_len rfl T.n_len (by decide +kernel) (pda_cons (pd_ix ix_seq opd_ix (pd_ix ix_seq opd_ix (pd_var 3) (pd_neg (pd_int))) (pd_int)) (pda_nil))) (pd_glob (v := .int (12)) rfl T.c_MOST_WISHES ⟨_, rfl⟩ (fun _ => .int _)))))) (px_one (px_raiseI rfl tk (xb_of PySem.F.excBase_ValueError) PySem.F.store_ValueError PySem.W.kxs_ValueError T.i_NoText T.j_NoText hr rfl T.gx_NoText (pda_cons (pd_var 4) (pda_nil)))) (px_nil)) (px_one (px_exprZ (fun Z => pdz_append (pd_ix ix_seq opd_ix (pd_ix ix_seq opd_ix (pd_var 3) (pd_neg (pd_int))) (pd_int)) (pdaz_cons (pdz_call tk X_p_read_wish_at (hr.mono (by decide)) rfl T.g_p_read_wish_at T.F_p_read_wish_at.kp T.b_p_read_wish_at_3 (pda_cons (pd_call G_p_both_sides (hr.mono (by decide)) rfl T.g_p_both_sides T.F_p_both_sides.kp T.b_p_both_sides_1 (pda_cons (pd_var 0) (pda_nil))) (pda_cons (pd_var 2) (pda_cons (pd_var 4) (pda_nil))))) (pdaz_of pda_nil)))))))))) (px_one (px_of (pds_ret (pd_var 3))))))
    sem_p_read_rows
theorem ok_p_read_rows (T : Tx P K mg) : FnG P w K mg base 7 T.f_p_read_rows T.d_p_read_rows ["names", "places", "texts"] (spD K sp_p_read_rows) := (okx_p_read_rows T).plain pl_p_read_rows
def sx_p_read_program : FX := fun ds ms P Z => match ds with
  | [.str t] => ∃ (g : Pg) (B : Nat), t = S (textG g) ∧ PgOk B g ∧ B ≤ 900 ∧ flatM ms ∧ ∀ t L n p q xs, PgL g t L n p q xs → Frsh L ms → P t (L ++ ms)
  | _ => False
def sp_p_read_program : FS := fun ds ms P => match ds with
  | [.str t] => ∃ (g : Pg) (B : Nat), t = S (textG g) ∧ PgOk B g ∧ B ≤ 900 ∧ flatM ms ∧ ∀ t L n p q xs, PgL g t L n p q xs → Frsh L ms → P t (L ++ ms)
  | _ => False
theorem pl_p_read_program : ∀ ds ms P, sp_p_read_program ds ms P → sx_p_read_program ds ms P fun _ _ _ _ => False := by
  intro ds ms P h
  unfold sp_p_read_program at h
  split at h
  · exact h
  · exact h.elim
theorem len_p_read_program : ∀ ds ms Q Z, sx_p_read_program ds ms Q Z → ds.length = 1 := fun ds ms Q Z h => by
  unfold sx_p_read_program at h
  split at h <;> first | rfl | exact h.elim
def t_p_read_program : DTS := dSeq (dIfS (dNot (dTest (dIsi .str (dVar 0)))) (dRaiseI "NoText" ["row"] (aCons (dC (.int 0)) (aNil))) (dNext)) (dSeq (dAsg (dM1 mSplit (dVar 0) (dC (.str "\n"))) (sName 1)) (dSeq (dAsgZ (fun Z => dCallZ 4 0 [0, 1, 2, 3] sx_p_read_names (aCons (dC (.str "numbers")) (aCons (dC (.int 3)) (aCons (dVar 1) (aCons (dC (.int 0)) (aNil))))) (aNil) Z) (sName 2)) (dSeq (dIfS (dTest (dOp fEq (dCB cLen (aCons (dVar 1) (aNil))) (dC (.int 1)))) (dRaiseI "NoText" ["row"] (aCons (dC (.int 1)) (aNil))) (dNext)) (dSeq (dAsgZ (fun Z => dCallZ 4 0 [0, 1, 2, 3] sx_p_read_names (aCons (dC (.str "places")) (aCons (dC (.int 6)) (aCons (dVar 1) (aCons (dC (.int 1)) (aNil))))) (aNil) Z) (sName 3)) (dRet (dNd (dTup (aCons (dVar 2) (aCons (dVar 3) (aCons (dView 3 (dView 2 (dCall 3 0 [0, 1, 2] sp_p_read_rows (aCons (dVar 2) (aCons (dVar 3) (aCons (dVar 1) (aNil)))) (aNil)))) (aNil)))))))))))
theorem frshU_iff : ∀ {L ms : MS}, Frsh L ms ↔ (L.map (·.1)).Nodup ∧ ∀ q ∈ L, ∀ e ∈ ms, e.1 ≠ q.1
  | [], ms => ⟨fun _ => ⟨List.nodup_nil, fun q h => by cases h⟩, fun _ => trivial⟩
  | q :: L, ms => by
    refine ⟨fun h => ⟨frsh_nd h, frsh_off h⟩, fun ⟨h1, h2⟩ => ?_⟩
    rw [List.map_cons, List.nodup_cons] at h1
    refine ⟨fun e he z => ?_, frshU_iff.mpr ⟨h1.2, fun r hr => h2 r (List.mem_cons_of_mem _ hr)⟩⟩
    rcases List.mem_append.mp he with he | he
    · exact h1.1 (by rw [← z]; exact List.mem_map_of_mem he)
    · exact h2 q List.mem_cons_self e he z
theorem frsh_of {L ms : MS} (h : ((L ++ ms).map (·.1)).Nodup) : Frsh L ms := by
  rw [List.map_append] at h
  obtain ⟨h1, h2, h3⟩ := List.nodup_append.mp h
  exact frshU_iff.mpr ⟨h1, fun q hq e he z => h3 _ (List.mem_map_of_mem hq) _ (List.mem_map_of_mem he) z.symm⟩
theorem pt_no10 {c : Int} {n : List Nat} (h : ∀ x ∈ n, (97 ≤ x ∧ x < 123) ∨ x = 39) : 10 ∉ pt c n := by
  intro m
  have dn : 10 ∉ numL c.natAbs := numL_free (by omega)
  unfold pt at m
  by_cases h0 : n = []
  · rw [if_pos h0] at m; exact dn m
  · rw [if_neg h0] at m
    by_cases h1 : c.natAbs = 1
    · rw [if_pos h1] at m
      have := h 10 m
      omega
    · rw [if_neg h1] at m
      rcases List.mem_append.mp m with z | z
      · exact dn z
      · rcases List.mem_cons.mp z with z | z
        · omega
        · have := h 10 z
          omega
theorem tx_no10 {t : Tms} (h : ∀ p ∈ t, ∀ x ∈ p.2, (97 ≤ x ∧ x < 123) ∨ x = 39) : 10 ∉ txT t := by
  unfold txT
  split
  · decide
  · cases t with
    | nil => decide
    | cons p r =>
      intro m
      have fF : 10 ∉ sgF p.1 := by unfold sgF; split <;> decide
      rcases List.mem_append.mp (show 10 ∈ (sgF p.1 ++ pt p.1 p.2) ++ r.flatMap fun p => sgM p.1 ++ pt p.1 p.2 from m) with m | m
      · rcases List.mem_append.mp m with m | m
        · exact fF m
        · exact pt_no10 (h p List.mem_cons_self) m
      · obtain ⟨q, hq, m⟩ := List.mem_flatMap.mp m
        have fM : 10 ∉ sgM q.1 := by unfold sgM; split <;> decide
        rcases List.mem_append.mp m with m | m
        · exact fM m
        · exact pt_no10 (h q (List.mem_cons_of_mem _ hq)) m
theorem joinL_no {s k : Nat} (hs : s ≠ k) : ∀ {ls : List (List Nat)}, (∀ l ∈ ls, k ∉ l) → k ∉ TL.joinL [s] ls
  | [], _ => by intro m; cases m
  | [a], h => h a List.mem_cons_self
  | a :: b :: r, h => by
    intro m
    rcases List.mem_append.mp (show k ∈ a ++ ([s] ++ TL.joinL [s] (b :: r)) from m) with m | m
    · exact h a List.mem_cons_self m
    · rcases List.mem_append.mp m with m | m
      · exact hs (List.mem_singleton.mp m).symm
      · exact joinL_no hs (fun z hz => h z (List.mem_cons_of_mem _ hz)) m
theorem no10 {B : Nat} {g : Pg} (ok : PgOk B g) (hB : B ≤ 900) : ∀ l ∈ linesG g, 10 ∉ l := fun l hl => by
  have nmo : ∀ n ∈ nsU g.nm, 10 ∉ n := nm_no ok.nm (by decide) (by decide)
  have pmo : ∀ n ∈ nsU g.pm, 10 ∉ n := nm_no ok.pm (by decide) (by decide)
  have gt : ∀ i : Nat, 10 ∉ (nsU g.pm).getD i [] := fun i => by
    rw [List.getD_eq_getElem?_getD]
    cases e : (nsU g.pm)[i]? with
    | none => decide
    | some p => exact pmo p (List.mem_of_getElem? e)
  rcases List.mem_cons.mp hl with rfl | hl
  · refine joinL_no (by decide) fun z hz => ?_
    rcases List.mem_cons.mp hz with rfl | hz
    · decide
    · exact nmo z hz
  rcases List.mem_cons.mp hl with rfl | hl
  · refine joinL_no (by decide) fun z hz => ?_
    rcases List.mem_cons.mp hz with rfl | hz
    · decide
    · exact pmo z hz
  obtain ⟨r, hr, hl⟩ := List.mem_flatMap.mp hl
  rcases List.mem_cons.mp hl with rfl | hl
  · refine joinL_no (by decide) fun z hz => ?_
    simp only [List.mem_cons, List.not_mem_nil, or_false] at hz
    rcases hz with rfl | rfl | rfl
    · decide
    · exact gt _
    · exact gt _
  · obtain ⟨w, hw, rfl⟩ := List.mem_map.mp hl
    have lo := lnU_of ok.nm ((ok.ro r hr).wo w hw) hB
    intro m
    rcases List.mem_append.mp (show 10 ∈ txT (tms w.ls ([] :: Bo (nsU g.nm))) ++ enU w.j from m) with m | m
    · refine tx_no10 (fun p hp x hx => ?_) m
      have := (List.of_mem_zip (List.mem_filter.mp hp).1).2
      rcases List.mem_cons.mp this with e | e
      · rw [e] at hx; cases hx
      · exact (lo.nm _ e).ok x hx
    · have : 10 ∉ enU w.j := by cases w.j <;> decide
      exact this m
theorem sem_p_read_program : ∀ ds ms Q Z, sx_p_read_program ds ms Q Z → t_p_read_program { nx := fun _ m => Q .non m, rt := Q, ex := fun c ns xs _ m => Z c ns xs m } (startD 4 ds) ms := by
  intro ds ms Q Z h
  unfold sx_p_read_program at h
  split at h
  · rename_i t
    obtain ⟨g, B, rfl, ok, hB, fm, h⟩ := h
    have few := lines_few ok
    have tl : (textG g).length ≤ 2000000 := Nat.le_trans (joinL_len _ _) (Nat.le_trans (sum_le (lines_len ok (by omega))) (by omega))
    simp only [startD]
    unfold t_p_read_program
    walk_at "st"
    refine ⟨rfl, Nat.le_trans (show (S (textG g)).length + 2 ≤ 3000000 by rw [lenS]; omega) (by decide), ?_⟩
    have ne : linesG g ≠ [] := by unfold linesG; exact List.cons_ne_nil _ _
    rw [lit "\n" [10], split_S (by simp) (by decide)]
    unfold textG
    rw [TL.spl_join ne (no10 ok hB)]
    have em : (((linesG g).map S).map D.str) = (linesG g).map nmD := by rw [List.map_map]; rfl
    rw [em]
    walk_at "st"
    rw [lit "numbers" sgNum]
    refine ⟨sgNum, g.nm, linesG g, 0, rfl, rfl, rfl, rfl, by decide, by decide, ok.nm, by decide, by decide, fun n hn => ?_⟩
    walk_at "st"
    rw [lit "places" sgPla]
    refine ⟨sgPla, g.pm, linesG g, 1, rfl, rfl, rfl, rfl, by decide, by decide, ok.pm, by decide, by decide, fun p hp => ?_⟩
    walk_at "st"
    refine ExG.out (w_nd ?_)
    walk_at "st"
    refine ExG.out (w_view [(p, g.pm.map D.str)] ((n, g.nm.map D.str) :: ms) rfl rfl (.lst List.mem_cons_self (VwS.same _)) rfl ?_)
    refine ExG.out (w_view [(n, g.nm.map D.str)] ms rfl rfl (.lst List.mem_cons_self (VwS.same _)) rfl ?_)
    walk_at "st"
    refine ⟨g, B, rfl, rfl, rfl, ok, hB, fm, fun L q xs rw_ fr => ?_⟩
    have fmL : flatM (L ++ ms) := flatM_app rw_.fl fm
    refine ⟨rfl, fmL, ?_⟩
    refine ⟨rfl, flatM_app (L := [(n, g.nm.map D.str)]) (fun e he => by rw [List.mem_singleton.mp he]; exact flats_strs _) fmL, ?_⟩
    walk_at "st"
    intro nd
    have fr2 : Frsh ((p, g.pm.map D.str) :: (n, g.nm.map D.str) :: L) ms := frsh_of nd
    obtain ⟨nd1, nd2⟩ := List.nodup_cons.mp (show (p :: n :: (L ++ ms).map (·.1)).Nodup from nd)
    obtain ⟨nd3, _⟩ := List.nodup_cons.mp nd2
    have inL : ∀ b ∈ q :: xs.flatMap adrs, b ∈ (L ++ ms).map (·.1) := fun b hb => by
      rw [List.map_append]
      refine List.mem_append_left _ ?_
      rcases List.mem_cons.mp hb with rfl | hb
      · exact List.mem_map_of_mem (f := (·.1)) rw_.mq
      · obtain ⟨x, hx, hb⟩ := List.mem_flatMap.mp hb
        obtain ⟨e, he, ee⟩ := adrs_in hb
        rw [← ee]
        exact List.mem_map_of_mem (f := (·.1)) (rw_.mr x hx e he)
    refine h _ ((p, g.pm.map D.str) :: (n, g.nm.map D.str) :: L) n p q xs ⟨rfl, rw_.rs, List.mem_cons_of_mem _ List.mem_cons_self, List.mem_cons_self, List.mem_cons_of_mem _ (List.mem_cons_of_mem _ rw_.mq), fun x hx e he => List.mem_cons_of_mem _ (List.mem_cons_of_mem _ (rw_.mr x hx e he)), ?_, ?_⟩ fr2
    · refine List.nodup_cons.mpr ⟨fun z => ?_, List.nodup_cons.mpr ⟨fun z => ?_, rw_.nd⟩⟩
      · rcases List.mem_cons.mp z with z | z
        · exact nd1 (by rw [z]; exact List.mem_cons_self)
        · exact nd3 (inL n z)
      · exact nd1 (List.mem_cons_of_mem _ (inL p z))
    · intro e he
      rcases List.mem_cons.mp he with rfl | he
      · exact flats_strs _
      rcases List.mem_cons.mp he with rfl | he
      · exact flats_strs _
      · exact rw_.fl e he
  · exact h.elim
theorem okx_p_read_program (T : Tx P K mg) : FnX P w K mg base 8 T.f_p_read_program T.d_p_read_program ["text"] (spX K sx_p_read_program) := by
  have G_p_read_names := ok_p_read_names (P := P) (w := w) (base := base) T
  have G_p_read_rows := ok_p_read_rows (P := P) (w := w) (base := base) T
  have X_p_read_names := okx_p_read_names (P := P) (w := w) (base := base) T
  exact fnX_of (k := 7) (t := t_p_read_program) T.F_p_read_program sc_p_read_program len_p_read_program
    (fun cdv A outer s H E hr W tk => px_cons (px_if (pdt_not (pdt_val (pd_isi .str (by decide) rfl T.n_isinstance rfl T.n_str (by decide +kernel) (by decide) (by decide) (pd_var 0)))) (px_one (px_raiseI rfl tk (xb_of PySem.F.excBase_ValueError) PySem.F.store_ValueError PySem.W.kxs_ValueError T.i_NoText T.j_NoText hr rfl T.gx_NoText (pda_cons (pd_int) (pda_nil)))) (px_nil)) (px_cons (px_of (pds_set (i := 1) sc_p_read_program.nd rfl (.inl rfl) (pd_m1 PySem.F.slot_str_split PySem.F.type_str_split mt_split mtd_split (pd_var 0) (pd_str)))) (px_cons (px_setZ (i := 2) sc_p_read_program.nd rfl (.inl rfl) (fun Z => pdz_call tk X_p_read_names (hr.mono (by decide)) rfl T.g_p_read_names T.F_p_read_names.kp T.b_p_read_names_4 (pda_cons (pd_glob (v := .str "numbers") rfl T.c_NUMBERS ⟨_, rfl⟩ (fun _ => .str _)) (pda_cons (pd_glob (v := .int (3)) rfl T.c_MOST_NAMES ⟨_, rfl⟩ (fun _ => .int _)) (pda_cons (pd_var 1) (pda_cons (pd_int) (pda_nil))))))) (px_cons (px_if (pdt_cmp (op_eqF hr.r.units) opd_eq (pd_callB call_len cal_len rfl T.n_len (by decide +kernel) (pda_cons (pd_var 1) (pda_nil))) (pd_int)) (px_one (px_raiseI rfl tk (xb_of PySem.F.excBase_ValueError) PySem.F.store_ValueError PySem.W.kxs_ValueError T.i_NoText T.j_NoText hr rfl T.gx_NoText (pda_cons (pd_int) (pda_nil)))) (px_nil)) (px_cons (px_setZ (i := 3) sc_p_read_program.nd rfl (.inl rfl) (fun Z => pdz_call tk X_p_read_names (hr.mono (by decide)) rfl T.g_p_read_names T.F_p_read_names.kp T.b_p_read_names_4 (pda_cons (pd_glob (v := .str "places") rfl T.c_PLACES ⟨_, rfl⟩ (fun _ => .str _)) (pda_cons (pd_glob (v := .int (6)) rfl T.c_MOST_PLACES ⟨_, rfl⟩ (fun _ => .int _)) (pda_cons (pd_var 1) (pda_cons (pd_int) (pda_nil))))))) (px_one (px_of (pds_ret (pd_nd (pd_tup (pda_cons (pd_var 2) (pda_cons (pd_var 3) (pda_cons (pd_view (i := 3) (pd_view (i := 2) (pd_call G_p_read_rows (hr.mono (by decide)) rfl T.g_p_read_rows T.F_p_read_rows.kp T.b_p_read_rows_3 (pda_cons (pd_var 2) (pda_cons (pd_var 3) (pda_cons (pd_var 1) (pda_nil))))))) (pda_nil))))))))))))))
    sem_p_read_program
theorem ok_p_read_program (T : Tx P K mg) : FnG P w K mg base 8 T.f_p_read_program T.d_p_read_program ["text"] (spD K sp_p_read_program) := (okx_p_read_program T).plain pl_p_read_program
def PO (a b : Int) : Prop := 0 ≤ a ∧ 0 ≤ b ∧ b < 2147483647
def PoolAt (ms : MS) (p : Addr) : Prop := ∃ a b, PO a b ∧ look ms p = some [.int a, .int b]
def pu (ms : MS) (p : Addr) (a b : Int) : MS := put ms p [.int a, .int b]
theorem put_put : ∀ (ms : MS) (p : Addr) (x y : List D), put (put ms p x) p y = put ms p y
  | [], _, _, _ => rfl
  | (q, zs) :: r, p, x, y => by
    by_cases h : q = p
    · simp only [put, h, if_true]
    · simp only [put, h, if_false, put_put r p x y]
theorem pu_pu (ms : MS) (p : Addr) (a b c d : Int) : pu (pu ms p a b) p c d = pu ms p c d := put_put ms p _ _
theorem PoolAt.pu {ms : MS} {p : Addr} (h : PoolAt ms p) {a b : Int} (o : PO a b) : PoolAt (pu ms p a b) p := by
  obtain ⟨x, y, _, e⟩ := h
  exact ⟨a, b, o, look_put_same e⟩
/-- the pool has been drawn from, all else is as it was -/
def Chg (ms : MS) (p : Addr) (ms' : MS) : Prop := ∃ a b, PO a b ∧ ms' = pu ms p a b
theorem put_self : ∀ {ms : MS} {p : Addr} {xs : List D}, look ms p = some xs → put ms p xs = ms
  | [], _, _, h => by cases h
  | (q, zs) :: r, p, xs, h => by
    unfold look at h
    by_cases e : q = p
    · rw [if_pos e] at h
      cases h
      simp only [put, e, if_true]
    · rw [if_neg e] at h
      simp only [put, e, if_false, put_self h]
theorem PoolAt.refl {ms : MS} {p : Addr} (h : PoolAt ms p) : Chg ms p ms := by
  obtain ⟨a, b, o, e⟩ := h
  exact ⟨a, b, o, (put_self e).symm⟩
theorem Chg.trans {ms m1 m2 : MS} {p : Addr} (h : Chg ms p m1) (h2 : Chg m1 p m2) : Chg ms p m2 := by
  obtain ⟨a, b, o, rfl⟩ := h
  obtain ⟨c, d, o2, rfl⟩ := h2
  exact ⟨c, d, o2, pu_pu ms p a b c d⟩
theorem PoolAt.chg {ms m1 : MS} {p : Addr} (h : PoolAt ms p) (c : Chg ms p m1) : PoolAt m1 p := by
  obtain ⟨a, b, o, rfl⟩ := c
  exact h.pu o
theorem PoolAt.new {ms : MS} {p : Addr} {a b : Int} (o : PO a b) : PoolAt ((p, [.int a, .int b]) :: ms) p := ⟨a, b, o, by unfold look; rw [if_pos rfl]⟩
def sp_L_pool : FS := fun ds ms P => match ds with
  | [.fro xs, .int k] => ∃ ns : List Int, xs = ns.map D.int ∧ 0 ≤ k ∧ k < 100 ∧ ∀ p, (∀ q ∈ ms, q.1 ≠ p) → ∀ a b, PO a b → P (.opq (.ref p)) ((p, [.int a, .int b]) :: ms)
  | _ => False
theorem len_L_pool : ∀ ds ms Q, sp_L_pool ds ms Q → ds.length = 2 := fun ds ms Q h => by
  unfold sp_L_pool at h
  split at h <;> first | rfl | exact h.elim
def t_L_pool_c1 : DTS := dSeq (dAsg (dOp fMod (dOp fMul (dOp fAdd (dOp fAdd (dOp fMod (dVar 2) (dC (.int 2147483629))) (dOp fMul (dOp fMul (dC (.int 6151)) (dVar 1)) (dVar 1))) (dC (.int 29))) (dC (.int 48271))) (dC (.int 2147483647))) (sName 3)) (dSeq (dIfS (dTest (dOp fLt (dVar 2) (dOp fPow (dC (.int 10)) (dC (.int 18))))) (dAsg (dC (.int 0)) (sName 2)) (dNext)) (dRet (dLstM (aCons (dVar 2) (aCons (dOp fAdd (dOp fMod (dOp fMul (dVar 3) (dVar 3)) (dC (.int 2147483587))) (dC (.int 3))) (aNil))))))
def t_L_pool : DTS := dSeq (dAsg (dC (.int 0)) (sName 2)) (dSeq (dIfS (dTest (dOp fLt (dVar 1) (dCB cLen (aCons (dVar 0) (aNil))))) (dAsg (dOp fIx (dVar 0) (dVar 1)) (sName 2)) (dNext)) (t_L_pool_c1))
theorem seed_mul {c k : Int} (k0 : 0 ≤ k) (k1 : k < 100) : 0 ≤ c.fmod 2147483629 + 6151 * k * k + 29 ∧ c.fmod 2147483629 + 6151 * k * k + 29 < 2 ^ 33 := by
  have h1 := Int.fmod_nonneg_of_pos c (show (0 : Int) < 2147483629 by decide)
  have h2 := Int.fmod_lt_of_pos c (show (0 : Int) < 2147483629 by decide)
  have h3 : 0 ≤ 6151 * k * k := Int.mul_nonneg (by omega) k0
  have h4 : 6151 * k * k ≤ 6151 * 100 * 100 := Int.mul_le_mul (by omega) (by omega) k0 (by decide)
  omega
theorem pool_last {z : Int} {ms : MS} {Q : D → MS → Prop} {c : Int} (hc : 0 ≤ c) (h : ∀ p, (∀ q ∈ ms, q.1 ≠ p) → ∀ a b, PO a b → Q (.opq (.ref p)) ((p, [.int a, .int b]) :: ms)) :
    ∀ p, (∀ q ∈ ms, q.1 ≠ p) → Q (.opq (.ref p)) ((p, [.int c, .int (z.fmod 2147483587 + 3)]) :: ms) := fun p hp => by
  have f0 := Int.fmod_nonneg_of_pos z (show (0 : Int) < 2147483587 by decide)
  have f1 := Int.fmod_lt_of_pos z (show (0 : Int) < 2147483587 by decide)
  exact h p hp _ _ ⟨hc, by omega, by omega⟩
theorem pool_rest {c k : Int} {x0 : Option D} {ms : MS} {Q : D → MS → Prop} (k0 : 0 ≤ k) (k1 : k < 100) (h : ∀ p, (∀ q ∈ ms, q.1 ≠ p) → ∀ a b, PO a b → Q (.opq (.ref p)) ((p, [.int a, .int b]) :: ms)) :
    StG t_L_pool_c1 { nx := fun _ m => Q .non m, rt := Q } [x0, some (.int k), some (.int c), none] ms := by
  obtain ⟨b0, b1⟩ := seed_mul (c := c) k0 k1
  unfold t_L_pool_c1
  walk_at "st"
  refine ⟨by decide, ?_⟩
  walk_at "st"
  refine ⟨.inr (.inr ⟨by omega, by omega⟩), ?_⟩
  walk_at "st"
  refine ⟨.inr (.inr ⟨by omega, by omega⟩), ?_⟩
  walk_at "st"
  refine ⟨.inr (.inr ⟨by omega, by omega⟩), ?_⟩
  walk_at "st"
  refine ⟨by decide, ?_⟩
  generalize ((c.fmod 2147483629 + 6151 * k * k + 29) * 48271) = z
  have f0 := Int.fmod_nonneg_of_pos z (show (0 : Int) < 2147483647 by decide)
  have f1 := Int.fmod_lt_of_pos z (show (0 : Int) < 2147483647 by decide)
  generalize z.fmod 2147483647 = y at f0 f1
  walk_at "st"
  by_cases hc : c < 1000000000000000000
  · refine w_iteT (decide_eq_true hc) ?_
    walk_at "st"
    refine ⟨.inr (.inr ⟨by omega, by omega⟩), ?_⟩
    walk_at "st"
    refine ⟨by decide, ?_⟩
    walk_at "st"
    exact pool_last (by decide) h
  · refine w_iteF (decide_eq_false hc) ?_
    walk_at "st"
    refine ⟨.inr (.inr ⟨by omega, by omega⟩), ?_⟩
    walk_at "st"
    refine ⟨by decide, ?_⟩
    walk_at "st"
    exact pool_last (by omega) h
theorem sem_L_pool : ∀ ds ms Q, sp_L_pool ds ms Q → t_L_pool { nx := fun _ m => Q .non m, rt := Q } (startD 4 ds) ms := by
  intro ds ms Q h
  unfold sp_L_pool at h
  split at h
  · rename_i xs k
    obtain ⟨ns, rfl, k0, k1, h⟩ := h
    simp only [startD]
    unfold t_L_pool
    walk_at "st"
    by_cases hk : k < ((ns.map D.int).length : Int)
    · refine w_iteT (decide_eq_true hk) ?_
      have hl : k.toNat < ns.length := by rw [List.length_map] at hk; omega
      obtain ⟨c, ha⟩ : ∃ c : Int, atI (ns.map D.int) k = some (.int c) := by
        obtain ⟨j, rfl⟩ : ∃ j : Nat, k = (j : Int) := ⟨k.toNat, by omega⟩
        have hj : j < ns.length := by omega
        exact ⟨ns[j], atI_nat (by rw [List.getElem?_map, List.getElem?_eq_getElem hj]; rfl)⟩
      walk_at "st"
      refine w_ix_f ha ?_
      walk_at "st"
      exact pool_rest k0 k1 h
    · refine w_iteF (decide_eq_false hk) ?_
      walk_at "st"
      exact pool_rest k0 k1 h
  · exact h.elim
theorem ok_L_pool (T : Tx P K mg) : FnG P w K mg base 1 T.f_L_pool T.d_L_pool ["_law_script", "_law_k"] (spD K sp_L_pool) := by
  exact fnG_of (k := 0) (t := t_L_pool) T.F_L_pool sc_L_pool len_L_pool
    (fun cdv A outer s H hr => pds_cons (pds_set (i := 2) sc_L_pool.nd rfl (.inl rfl) (pd_int)) (pds_cons (pds_if (pdt_cmp op_lt opd_lt (pd_var 1) (pd_callB call_len cal_len rfl T.n_len (by decide +kernel) (pda_cons (pd_var 0) (pda_nil)))) (pds_one (pds_set (i := 2) sc_L_pool.nd rfl (.inl rfl) (pd_ix ix_seq opd_ix (pd_var 0) (pd_var 1)))) (pds_nil)) (pds_cons (pds_set (i := 3) sc_L_pool.nd rfl (.inl rfl) (pd_op op_modN opd_mod (pd_op op_mulA opd_mul (pd_op op_addD opd_add (pd_op op_addD opd_add (pd_op op_modN opd_mod (pd_var 2) (pd_int)) (pd_op op_mulA opd_mul (pd_op op_mulA opd_mul (pd_int) (pd_var 1)) (pd_var 1))) (pd_int)) (pd_int)) (pd_int))) (pds_cons (pds_if (pdt_cmp op_lt opd_lt (pd_var 2) (pd_op op_pow opd_pow (pd_int) (pd_int))) (pds_one (pds_set (i := 2) sc_L_pool.nd rfl (.inl rfl) (pd_int))) (pds_nil)) (pds_one (pds_ret (pd_lstM (pda_cons (pd_var 2) (pda_cons (pd_op op_addD opd_add (pd_op op_modN opd_mod (pd_op op_mulA opd_mul (pd_var 3) (pd_var 3)) (pd_int)) (pd_int)) (pda_nil))))))))))
    sem_L_pool
def sp_L_take : FS := fun ds ms P => match ds with
  | [.opq (.ref p), .int m] => PoolAt ms p ∧ 0 < m ∧ m ≤ 10000000000000 ∧ ∀ r, 0 ≤ r → r < m → ∀ ms', Chg ms p ms' → P (.int r) ms'
  | _ => False
theorem len_L_take : ∀ ds ms Q, sp_L_take ds ms Q → ds.length = 2 := fun ds ms Q h => by
  unfold sp_L_take at h
  split at h <;> first | rfl | exact h.elim
def t_L_take : DTS := dSeq (dIfS (dTest (dOp fGt (dOp fIx (dVar 0) (dC (.int 0))) (dC (.int 0)))) (dSeq (dAsg (dOp fMod (dOp fIx (dVar 0) (dC (.int 0))) (dVar 1)) (sName 2)) (dSeq (dSetIx (dVar 0) (dC (.int 0)) (dOp fDiv (dOp fIx (dVar 0) (dC (.int 0))) (dVar 1))) (dRet (dVar 2)))) (dNext)) (dSeq (dSetIx (dVar 0) (dC (.int 1)) (dOp fMod (dOp fAdd (dOp fMul (dOp fIx (dVar 0) (dC (.int 1))) (dC (.int 48271))) (dC (.int 12347))) (dC (.int 2147483647)))) (dRet (dOp fMod (dOp fDiv (dOp fMod (dOp fMul (dOp fIx (dVar 0) (dC (.int 1))) (dOp fIx (dVar 0) (dC (.int 1)))) (dC (.int 2147483629))) (dC (.int 64))) (dVar 1))))
theorem sem_L_take : ∀ ds ms Q, sp_L_take ds ms Q → t_L_take { nx := fun _ m => Q .non m, rt := Q } (startD 3 ds) ms := by
  intro ds ms Q h
  unfold sp_L_take at h
  split at h
  · rename_i p m
    obtain ⟨⟨a, b, ⟨a0, b0, b1⟩, e⟩, m0, m1, h⟩ := h
    unfold t_L_take
    walk_at "dl"
    simp only [fIx, asL, e, atI_0, atI_1]
    have hm : CDivA a m := ⟨by omega, Nat.lt_of_lt_of_le (Bd.log (n := 44) (x := m) (by unfold Bd; omega) (by decide)) (by decide)⟩
    have i0 : ixN ([D.int a, D.int b].length) 0 = some 0 := rfl
    have i1 : ixN ([D.int a, D.int b].length) 1 = some 1 := rfl
    have s0 : ∀ x : D, [D.int a, D.int b].set 0 x = [x, D.int b] := fun _ => rfl
    have s1 : ∀ x : D, [D.int a, D.int b].set 1 x = [D.int a, x] := fun _ => rfl
    by_cases ha : 0 < a
    · rw [if_pos ha]
      simp only [i0, s0]
      refine ⟨by omega, hm, h _ (Int.fmod_nonneg_of_pos _ m0) (Int.fmod_lt_of_pos _ m0) _ ⟨_, _, ⟨?_, b0, b1⟩, rfl⟩⟩
      rw [Int.fdiv_eq_ediv_of_nonneg _ (by omega)]
      exact Int.ediv_nonneg a0 (by omega)
    · rw [if_neg ha]
      simp only [i1, s1, look_put_same e, atI_1]
      have f0 := Int.fmod_nonneg_of_pos (b * 48271 + 12347) (show (0 : Int) < 2147483647 by decide)
      have f1 := Int.fmod_lt_of_pos (b * 48271 + 12347) (show (0 : Int) < 2147483647 by decide)
      refine ⟨.inr (.inr ⟨by decide, by decide⟩), by decide, .inr (.inl ⟨by omega, by omega⟩), by decide, ⟨by decide, by decide⟩, by omega, h _ (Int.fmod_nonneg_of_pos _ m0) (Int.fmod_lt_of_pos _ m0) _ ⟨_, _, ⟨a0, f0, f1⟩, rfl⟩⟩
  · exact h.elim
theorem ok_L_take (T : Tx P K mg) : FnG P w K mg base 1 T.f_L_take T.d_L_take ["_law_pool_here", "_law_many"] (spD K sp_L_take) := by
  exact fnG_of (k := 0) (t := t_L_take) T.F_L_take sc_L_take len_L_take
    (fun cdv A outer s H hr => pds_cons (pds_if (pdt_cmp op_gt opd_gt (pd_ix ix_seq opd_ix (pd_var 0) (pd_int)) (pd_int)) (pds_cons (pds_set (i := 2) sc_L_take.nd rfl (.inl rfl) (pd_op op_modN opd_mod (pd_ix ix_seq opd_ix (pd_var 0) (pd_int)) (pd_var 1))) (pds_cons (pds_setIx (pd_op op_fdivA opd_div (pd_ix ix_seq opd_ix (pd_var 0) (pd_int)) (pd_var 1)) (pd_var 0) (pd_int)) (pds_one (pds_ret (pd_var 2))))) (pds_nil)) (pds_cons (pds_setIx (pd_op op_modN opd_mod (pd_op op_addD opd_add (pd_op op_mulA opd_mul (pd_ix ix_seq opd_ix (pd_var 0) (pd_int)) (pd_int)) (pd_int)) (pd_int)) (pd_var 0) (pd_int)) (pds_one (pds_ret (pd_op op_modN opd_mod (pd_op op_fdivA opd_div (pd_op op_modN opd_mod (pd_op op_mulA opd_mul (pd_ix ix_seq opd_ix (pd_var 0) (pd_int)) (pd_ix ix_seq opd_ix (pd_var 0) (pd_int))) (pd_int)) (pd_int)) (pd_var 1))))))
    sem_L_take
theorem PoolAt.mem {ms : MS} {p : Addr} (h : PoolAt ms p) : ∃ e ∈ ms, e.1 = p := by
  obtain ⟨a, b, _, e⟩ := h
  exact ⟨_, look_mem e, rfl⟩
theorem chg_look {ms ms' : MS} {p q : Addr} {xs : List D} (c : Chg ms p ms') (h : look ms q = some xs) (hpq : p ≠ q) : look ms' q = some xs := by
  obtain ⟨a, b, _, rfl⟩ := c
  unfold pu
  rw [look_put_ne hpq]
  exact h
/-- the pool at p, and a list that is being made at q -/
structure PL (ms : MS) (p q : Addr) (xs : List D) : Prop where
  po : PoolAt ms p
  lk : look ms q = some xs
  ne : p ≠ q
theorem PL.new {ms : MS} {p q : Addr} {xs : List D} (h : PoolAt ms p) (hq : ∀ e ∈ ms, e.1 ≠ q) : PL ((q, xs) :: ms) p q xs := by
  obtain ⟨e, he, z⟩ := h.mem
  have hne : p ≠ q := z ▸ hq e he
  obtain ⟨a, b, o, l⟩ := h
  exact ⟨⟨a, b, o, by unfold look; rw [if_neg hne.symm]; exact l⟩, look_new, hne⟩
theorem PL.chg {ms ms' : MS} {p q : Addr} {xs : List D} (h : PL ms p q xs) (c : Chg ms p ms') : PL ms' p q xs := ⟨h.po.chg c, chg_look c h.lk h.ne, h.ne⟩
/-- how many cells are gone through -/
theorem cells_le (N : Int) (h : 1 ≤ N) (y : Nat) : 0 ≤ (if (if N < (y : Int) then N else (y : Int)) > 1 then if N < (y : Int) then N else (y : Int) else 1) ∧ (if (if N < (y : Int) then N else (y : Int)) > 1 then if N < (y : Int) then N else (y : Int) else 1) ≤ N := by
  split
  · split <;> omega
  · omega
theorem comp_pool {g : DG} {te : DE} {ds : DS} {p : Addr} {Good : D → Prop} : ∀ (xs acc : List D) (ms : MS) (P : List D → MS → Prop), PoolAt ms p → acc.length + xs.length ≤ 1000000 →
    (∀ x ∈ xs, ∀ m, PoolAt m p → ∀ P0 : D → MS → Prop, (∀ d m', Good d → PoolAt m' p → Chg m p m' → P0 d m') → g x ds fun ds2 => te ds2 m P0) →
    (∀ ys m', ys.length = xs.length → (∀ y ∈ ys, Good y) → PoolAt m' p → Chg ms p m' → P (acc ++ ys) m') → compD g dYes te ds xs acc ms P
  | [], acc, ms, P, hp, _, _, h => by
    have := h [] ms rfl (fun y hy => by cases hy) hp hp.refl
    rw [List.append_nil] at this
    exact this
  | x :: r, acc, ms, P, hp, hl, t, h => by
    rw [List.length_cons] at hl
    unfold compD
    simp only [dYes, if_true]
    refine t x List.mem_cons_self ms hp _ fun d m' gd hp' c => ⟨Nat.lt_of_lt_of_le (by omega : acc.length < 1000001) (by decide), comp_pool r _ m' P hp' (by rw [List.length_append, List.length_singleton]; omega) (fun y hy => t y (List.mem_cons_of_mem _ hy)) fun ys m2 l2 g2 p2 c2 => ?_⟩
    rw [List.append_assoc]
    exact h (d :: ys) m2 (by rw [List.length_cons, List.length_cons, l2]) (fun y hy => by
      rcases List.mem_cons.mp hy with rfl | hy
      · exact gd
      · exact g2 y hy) p2 (c.trans c2)
theorem PoolAt.cons {m : MS} {p q : Addr} {xs : List D} (h : PoolAt m p) (hne : p ≠ q) : PoolAt ((q, xs) :: m) p := by
  obtain ⟨a, b, o, l⟩ := h
  exact ⟨a, b, o, by unfold look; rw [if_neg hne.symm]; exact l⟩
theorem PoolAt.tail {m : MS} {p q : Addr} {xs : List D} (h : PoolAt ((q, xs) :: m) p) (hne : p ≠ q) : PoolAt m p := by
  obtain ⟨a, b, o, l⟩ := h
  unfold look at l
  rw [if_neg hne.symm] at l
  exact ⟨a, b, o, l⟩
theorem chg_cons {m m1 : MS} {p q : Addr} {xs : List D} (hne : p ≠ q) (c : Chg ((q, xs) :: m) p m1) : ∃ m', m1 = (q, xs) :: m' ∧ Chg m p m' := by
  obtain ⟨a, b, o, rfl⟩ := c
  refine ⟨pu m p a b, ?_, a, b, o, rfl⟩
  unfold pu
  conv => lhs; unfold put
  rw [if_neg hne.symm]
theorem PoolAt.ne {m : MS} {p q : Addr} (h : PoolAt m p) (hq : ∀ e ∈ m, e.1 ≠ q) : p ≠ q := by
  obtain ⟨e, he, z⟩ := h.mem
  exact z ▸ hq e he
theorem put_in : ∀ {ms : MS} {p : Addr} {ys : List D} {q : Addr × List D}, q ∈ put ms p ys → q ∈ ms ∨ q.2 = ys
  | [], _, _, _, h => by cases h
  | (r, zs) :: ms, p, ys, q, h => by
    unfold put at h
    split at h
    · rcases List.mem_cons.mp h with rfl | h
      · exact .inr rfl
      · exact .inl (List.mem_cons_of_mem _ h)
    · rcases List.mem_cons.mp h with rfl | h
      · exact .inl List.mem_cons_self
      · rcases put_in h with h | h
        · exact .inl (List.mem_cons_of_mem _ h)
        · exact .inr h
theorem flatM_chg {ms m1 : MS} {p : Addr} (h : flatM ms) (c : Chg ms p m1) : flatM m1 := by
  obtain ⟨a, b, _, rfl⟩ := c
  intro q hq
  rcases put_in hq with hq | hq
  · exact h q hq
  · rw [hq]; rfl
theorem flatM_cons {ms : MS} {p : Addr} {xs : List D} (h : flatM ms) (hx : flats xs = true) : flatM ((p, xs) :: ms) := fun q hq => by
  rcases List.mem_cons.mp hq with rfl | hq
  · exact hx
  · exact h q hq
theorem flats_ints : ∀ is : List Int, flats (is.map D.int) = true
  | [] => rfl
  | _ :: r => flats_ints r
theorem atI_ints {is : List Int} {i : Int} (h0 : 0 ≤ i) (h1 : i < (is.length : Int)) : ∃ v, atI (is.map D.int) i = some (.int v) ∧ v ∈ is := by
  obtain ⟨j, rfl⟩ : ∃ j : Nat, i = (j : Int) := ⟨i.toNat, by omega⟩
  have hj : j < is.length := by omega
  exact ⟨is[j], atI_nat (by rw [List.getElem?_map, List.getElem?_eq_getElem hj]; rfl), List.getElem_mem hj⟩
theorem word_of3 {a b c : D} {d : D} (h : d ∈ [a, b, c]) (ha : ∃ j, a = wdD j) (hb : ∃ j, b = wdD j) (hc : ∃ j, c = wdD j) : ∃ j, d = wdD j := by
  simp only [List.mem_cons, List.not_mem_nil, or_false] at h
  rcases h with rfl | rfl | rfl
  · exact ha
  · exact hb
  · exact hc
theorem wd_l : ∃ j, D.str "least" = wdD j := ⟨false, rfl⟩
theorem wd_j : ∃ j, D.str "just" = wdD j := ⟨true, rfl⟩
theorem line_cons {B : Nat} {is : List Int} {n : Nat} (hl : is.length = n + 1) (hb : ∀ i ∈ is, Bd B i) (j : Bool) : ∃ w : Wi, D.tup [wdD j, .lst (is.map D.int)] = wiD w ∧ WiOk B n w := by
  cases is with
  | nil => cases hl
  | cons l fs => exact ⟨⟨j, l, fs⟩, rfl, hb, by rw [List.length_cons] at hl; exact Nat.succ.inj hl⟩
/-- a loop over range(n), by its number -/
theorem loop_r {g : DG} {tb : DTS} {E : EN} (I : Nat → DS → MS → Prop) (n : Nat) : ∀ (m k : Nat), k + m = n → ∀ (ds : DS) (ms : MS), I k ds ms →
    (∀ k ds ms, k < n → I k ds ms → ∀ N : DS → MS → Prop, (∀ ds' ms', I (k + 1) ds' ms' → N ds' ms') → g (.int (0 + (k : Nat))) ds fun ds1 => tb (EN.lp E N) ds1 ms) →
    (∀ ds ms, I n ds ms → E.nx ds ms) → loopD g tb E ((List.range' k m).map fun i => D.int (0 + (i : Nat))) ds ms
  | 0, k, hk, ds, ms, h, _, q => q ds ms (by rw [← hk]; exact h)
  | m + 1, k, hk, ds, ms, h, t, q => t k ds ms (by omega) h _ fun ds' ms' h' => loop_r I n m (k + 1) (by omega) ds' ms' h' t q
theorem loop_rng {g : DG} {tb : DTS} {E : EN} (I : Nat → DS → MS → Prop) (n : Nat) {ds : DS} {ms : MS} (h : I 0 ds ms)
    (t : ∀ k ds ms, k < n → I k ds ms → ∀ N : DS → MS → Prop, (∀ ds' ms', I (k + 1) ds' ms' → N ds' ms') → g (.int (0 + (k : Nat))) ds fun ds1 => tb (EN.lp E N) ds1 ms)
    (q : ∀ ds ms, I n ds ms → E.nx ds ms) : loopD g tb E (rng 0 n) ds ms := by
  unfold rng
  rw [List.range_eq_range']
  exact loop_r I n n 0 (Nat.zero_add n) ds ms h t q
theorem take_step {ms : MS} {p : Addr} {m : Int} {P : D → MS → Prop} (h : PoolAt ms p) (m0 : 0 < m) (m1 : m ≤ 10000000000000) (q : ∀ r, 0 ≤ r → r < m → ∀ ms', PoolAt ms' p → Chg ms p ms' → P (.int r) ms') : sp_L_take [.opq (.ref p), .int m] ms P :=
  ⟨h, m0, m1, fun r h0 h1 ms' c => q r h0 h1 ms' (h.chg c) c⟩
theorem take_stepC {m : MS} {p q : Addr} {xs : List D} {n : Int} {P : D → MS → Prop} (hne : p ≠ q) (h : PoolAt m p) (m0 : 0 < n) (m1 : n ≤ 10000000000000) (k : ∀ r, 0 ≤ r → r < n → ∀ m', PoolAt m' p → Chg m p m' → P (.int r) ((q, xs) :: m')) : sp_L_take [.opq (.ref p), .int n] ((q, xs) :: m) P :=
  take_step (h.cons hne) m0 m1 fun r h0 h1 m2 p2 c2 => by
    obtain ⟨m', rfl, c'⟩ := chg_cons hne c2
    exact k r h0 h1 m' (p2.tail hne) c'
/-- a loop over range(n), by its number -/
theorem loop_rn {g : DG} {tb : DTS} {E : EN} (I : Nat → DS → MS → Prop) (n : Nat) {ds : DS} {ms : MS} (h : I 0 ds ms)
    (t : ∀ k ds ms, k < n → I k ds ms → ∀ N : DS → MS → Prop, (∀ ds' ms', I (k + 1) ds' ms' → N ds' ms') → g (.int (k : Int)) ds fun ds1 => tb (EN.lp E N) ds1 ms)
    (q : ∀ ds ms, I n ds ms → E.nx ds ms) : loopD g tb E (rng 0 n) ds ms := loop_rng I n h (fun k ds ms hk hi N hN => by rw [Int.zero_add]; exact t k ds ms hk hi N hN) q
/-- small letters, no more than so many -/
structure Ltr (w : Str) (n : Nat) : Prop where
  len : w.length ≤ n
  ok : (w.cps.toList.all fun c => decide (97 ≤ c) && decide (c < 123)) = true
theorem Ltr.add {w : Str} {n : Nat} {c : Nat} (h : Ltr w n) (h1 : 97 ≤ c) (h2 : c < 123) : Ltr (w ++ ⟨#[c]⟩) (n + 1) := by
  have e : (w ++ (⟨#[c]⟩ : Str)).cps.toList = w.cps.toList ++ [c] := by show (w.cps ++ #[c]).toList = _; simp
  have el : (w ++ (⟨#[c]⟩ : Str)).length = w.length + 1 := strLen_append _ _
  refine ⟨by have := h.len; omega, ?_⟩
  rw [e, List.all_append, h.ok, List.all_cons, List.all_nil, decide_eq_true h1, decide_eq_true h2]; rfl
theorem ltr_nil : Ltr "" 0 := ⟨Nat.le_refl _, rfl⟩
theorem ltr_at {z : Str} (hz : (z.cps.toList.all fun c => decide (97 ≤ c) && decide (c < 123)) = true) {r : Int} (h0 : 0 ≤ r) (h1 : r < (z.cps.toList.length : Int)) : ∃ c, atI z.cps.toList r = some c ∧ 97 ≤ c ∧ c < 123 ∧ z.cps.toList[r.toNat]? = some c := by
  obtain ⟨j, rfl⟩ : ∃ j : Nat, r = (j : Int) := ⟨r.toNat, by omega⟩
  have hj : j < z.cps.toList.length := by omega
  have h := List.all_eq_true.mp hz _ (List.getElem_mem hj)
  rw [Bool.and_eq_true_iff] at h
  exact ⟨_, atI_nat (List.getElem?_eq_getElem hj), of_decide_eq_true h.1, of_decide_eq_true h.2, List.getElem?_eq_getElem hj⟩
def sp_L_names : FS := fun ds ms P => match ds with
  | [.opq (.ref p), .int m, .int s] => PoolAt ms p ∧ 1 ≤ m ∧ m ≤ 6 ∧ s = 6 ∧ ∀ xs : List Str, (xs.length : Int) = m → NmOk 6 xs → ∀ ms', PoolAt ms' p → Chg ms p ms' → P (.lst (xs.map D.str)) ms'
  | _ => False
theorem len_L_names : ∀ ds ms Q, sp_L_names ds ms Q → ds.length = 3 := fun ds ms Q h => by
  unfold sp_L_names at h
  split at h <;> first | rfl | exact h.elim
def t_L_names : DTS := dSeq (dAsg (dLstM (aNil)) (sName 3)) (dSeq (dFor (iRange1 (aCons (dVar 1) (aNil))) (sName 4) (dSeq (dAsg (dC (.str "")) (sName 5)) (dSeq (dFor (iRange1 (aCons (dCall 2 0 [0, 1] sp_L_take (aCons (dVar 0) (aCons (dVar 2) (aNil))) (aNil)) (aNil))) (sName 6) (dAsg (dOp fAdd (dVar 5) (dOp fIx (dC (.str "abcdefghijklmnopqrstuvwxyz")) (dCall 2 0 [0, 1] sp_L_take (aCons (dVar 0) (aCons (dC (.int 26)) (aNil))) (aNil)))) (sName 5))) (dDrop (dAppend (dVar 3) (aCons (dOp fAdd (dVar 5) (dOp fIx (dC (.str "xyzuvw")) (dVar 4))) (aNil))))))) (dRet (dFrz (dVar 3))))
theorem let26 : ((Str.ofString "abcdefghijklmnopqrstuvwxyz").cps.toList.all fun c => decide (97 ≤ c) && decide (c < 123)) = true := by decide +kernel
theorem let6 : ((Str.ofString "xyzuvw").cps.toList.all fun c => decide (97 ≤ c) && decide (c < 123)) = true := by decide +kernel
theorem let6_is : (Str.ofString "xyzuvw").cps.toList = [120, 121, 122, 117, 118, 119] := by decide +kernel
/-- a text's last sign -/
def lastC (x : Str) : Option Nat := x.cps.toList.getLast?
theorem lastC_add (w : Str) (c : Nat) : lastC (w ++ ⟨#[c]⟩) = some c := by
  have e : (w ++ (⟨#[c]⟩ : Str)).cps.toList = w.cps.toList ++ [c] := by show (w.cps ++ #[c]).toList = _; simp
  unfold lastC; rw [e]; simp
theorem nm_last {xs : List Str} {k : Nat} (hk : k ≤ 6) (h : xs.map lastC = (([120, 121, 122, 117, 118, 119] : List Nat).take k).map some) : xs.Nodup := by
  have nd : (xs.map lastC).Nodup := by
    rw [h]
    have : k = 0 ∨ k = 1 ∨ k = 2 ∨ k = 3 ∨ k = 4 ∨ k = 5 ∨ k = 6 := by omega
    rcases this with rfl | rfl | rfl | rfl | rfl | rfl | rfl <;> decide
  exact (List.pairwise_map.mp nd).imp fun h e => h (congrArg _ e)
theorem sem_L_names : ∀ ds ms Q, sp_L_names ds ms Q → t_L_names { nx := fun _ m => Q .non m, rt := Q } (startD 7 ds) ms := by
  intro ds ms Q h
  unfold sp_L_names at h
  split at h
  · rename_i p m s
    obtain ⟨hp, m0, m1, rfl, h⟩ := h
    simp only [startD]
    unfold t_L_names
    walk_at "st"
    intro q hq
    have hne := hp.ne hq
    walk_at "st"
    refine w_mRng ⟨by omega, by omega⟩ ?_
    refine loop_rn (fun k ds m' => ∃ (xs : List Str) (m2 : MS), m' = (q, xs.map D.str) :: m2 ∧ PoolAt m2 p ∧ Chg ms p m2 ∧ xs.map lastC = (([120, 121, 122, 117, 118, 119] : List Nat).take k).map some ∧ (∀ x ∈ xs, goodNm x = true) ∧
      ∃ x4 x5 x6, ds = [some (.opq (.ref p)), some (.int m), some (.int 6), some (.opq (.ref q)), x4, x5, x6]) m.toNat ⟨[], ms, rfl, hp, hp.refl, rfl, (fun x hx => by cases hx), _, _, _, rfl⟩ ?_ ?_
    · rintro k ds m' hk ⟨xs, m2, rfl, p2, c2, hl, hx, x4, x5, x6, rfl⟩ N hN
      walk_at "st"
      refine take_stepC hne p2 (by decide) (by decide) fun r a1 b1 m3 p3 c3 => ?_
      walk_at "st"
      refine w_mRng ⟨by omega, by omega⟩ ?_
      refine loop_rn (fun j ds m' => ∃ (w : Str) (m4 : MS), m' = (q, xs.map D.str) :: m4 ∧ PoolAt m4 p ∧ Chg ms p m4 ∧ Ltr w j ∧ ∃ x6, ds = [some (.opq (.ref p)), some (.int m), some (.int 6), some (.opq (.ref q)), some (.int (k : Int)), some (.str w), x6]) r.toNat ⟨"", m3, rfl, p3, c2.trans c3, ltr_nil, _, rfl⟩ ?_ ?_
      · rintro j ds m' hj ⟨w, m4, rfl, p4, c4, lw, y6, rfl⟩ G hG
        walk_at "st"
        refine take_stepC hne p4 (by decide) (by decide) fun r2 a2 b2 m5 p5 c5 => ?_
        obtain ⟨c, ec, l1, l2, _⟩ := ltr_at let26 a2 (by rw [letters_lit]; exact b2)
        walk_at "st"
        refine w_ix_s (by decide) ec ?_
        have lw2 := lw.add l1 l2
        walk_at "st"
        refine ⟨Nat.le_trans (show w.length + 1 ≤ 10 by have := lw.len; omega) (by decide), ?_⟩
        walk_at "st"
        exact hG _ _ ⟨_, m5, rfl, p5, c4.trans c5, lw2, _, rfl⟩
      · rintro ds m' ⟨w, m4, rfl, p4, c4, lw, y6, rfl⟩
        obtain ⟨c, ec, l1, l2, l3⟩ := ltr_at let6 (r := (k : Int)) (by omega) (by rw [let6_is]; show (k : Int) < 6; omega)
        have lw2 := lw.add l1 l2
        walk_at "st"
        refine w_ix_s (by decide) ec ?_
        walk_at "st"
        refine ⟨Nat.le_trans (show w.length + 1 ≤ 10 by have := lw.len; omega) (by decide), ?_⟩
        walk_at "st"
        have xl : xs.length ≤ 6 := by have := congrArg List.length hl; rw [List.length_map, List.length_map, List.length_take] at this; omega
        refine ⟨Nat.lt_of_lt_of_le (show (xs.map D.str).length < 10 by rw [List.length_map]; omega) (by decide), ?_⟩
        walk_at "st"
        refine hN _ _ ⟨xs ++ [w ++ ⟨#[c]⟩], m4, by rw [List.map_append]; rfl, p4, c4, ?_, ?_, _, _, _, rfl⟩
        · rw [List.map_append, hl, List.map_singleton, lastC_add, let6_is, Int.toNat_natCast] at *
          rw [List.take_add_one, l3, List.map_append]; rfl
        · intro x hx'
          rcases List.mem_append.mp hx' with hx' | hx'
          · exact hx x hx'
          · rw [List.mem_singleton.mp hx']
            unfold goodNm
            have el : (w ++ (⟨#[c]⟩ : Str)).length = w.length + 1 := strLen_append _ _
            rw [lw2.ok, decide_eq_true (by omega : 1 ≤ (w ++ (⟨#[c]⟩ : Str)).length), decide_eq_true (by have := lw.len; omega : (w ++ (⟨#[c]⟩ : Str)).length ≤ 6)]; rfl
    · rintro ds m' ⟨xs, m2, rfl, p2, c2, hl, hx, x4, x5, x6, rfl⟩
      walk_at "st"
      have xl : xs.length = m.toNat := by have := congrArg List.length hl; rw [List.length_map, List.length_map, List.length_take] at this; simp at this; omega
      exact h xs (by omega) ⟨by omega, by omega, nm_last (by omega) hl, hx⟩ m2 p2 c2
  · exact h.elim
theorem ok_L_names (T : Tx P K mg) : FnG P w K mg base 2 T.f_L_names T.d_L_names ["_law_pool_here", "_law_many", "_law_most"] (spD K sp_L_names) := by
  have G_L_take := ok_L_take (P := P) (w := w) (base := base) T
  exact fnG_of (k := 1) (t := t_L_names) T.F_L_names sc_L_names len_L_names
    (fun cdv A outer s H hr => pds_cons (pds_set (i := 3) sc_L_names.nd rfl (.inl rfl) (pd_lstM (pda_nil))) (pds_cons (pds_for (vs := [4]) rfl (pdi_range1 rfl T.n_range (pda_cons (pd_var 1) (pda_nil))) (pg_name (i := 4) sc_L_names.nd rfl (.inl rfl)) (tg_name (i := 4) (by decide)) (pds_cons (pds_set (i := 5) sc_L_names.nd rfl (.inl rfl) (pd_str)) (pds_cons (pds_for (vs := [6]) rfl (pdi_range1 rfl T.n_range (pda_cons (pd_call G_L_take (hr.mono (by decide)) rfl T.g_L_take T.F_L_take.kp T.b_L_take_2 (pda_cons (pd_var 0) (pda_cons (pd_var 2) (pda_nil)))) (pda_nil))) (pg_name (i := 6) sc_L_names.nd rfl (.inl rfl)) (tg_name (i := 6) (by decide)) (pds_one (pds_set (i := 5) sc_L_names.nd rfl (.inl rfl) (pd_op op_addD opd_add (pd_var 5) (pd_ix ix_seq opd_ix (pd_str) (pd_call G_L_take (hr.mono (by decide)) rfl T.g_L_take T.F_L_take.kp T.b_L_take_2 (pda_cons (pd_var 0) (pda_cons (pd_int) (pda_nil))))))))) (pds_one (pds_expr (pd_append (pd_var 3) (pda_cons (pd_op op_addD opd_add (pd_var 5) (pd_ix ix_seq opd_ix (pd_str) (pd_var 4))) (pda_nil)))))))) (pds_one (pds_ret (pd_frz (pd_var 3))))))
    sem_L_names
def sp_L_factor : FS := fun ds ms P => match ds with
  | [.opq (.ref p)] => PoolAt ms p ∧ ∀ i, Bd 41 i → ∀ ms', PoolAt ms' p → Chg ms p ms' → P (.int i) ms'
  | _ => False
theorem len_L_factor : ∀ ds ms Q, sp_L_factor ds ms Q → ds.length = 1 := fun ds ms Q h => by
  unfold sp_L_factor at h
  split at h <;> first | rfl | exact h.elim
def t_L_factor : DTS := dSeq (dIfS (dTest (dOp fEq (dCall 2 0 [0, 1] sp_L_take (aCons (dVar 0) (aCons (dC (.int 12)) (aNil))) (aNil)) (dC (.int 0)))) (dRet (dOp fSub (dCall 2 0 [0, 1] sp_L_take (aCons (dVar 0) (aCons (dOp fMul (dC (.int 2)) (dOp fPow (dC (.int 10)) (dC (.int 12)))) (aNil))) (aNil)) (dOp fPow (dC (.int 10)) (dC (.int 12))))) (dNext)) (dRet (dOp fIx (dLst (aCons (dC (.int 0)) (aCons (dC (.int 1)) (aCons (dNeg (dC (.int 1))) (aCons (dC (.int 0)) (aCons (dC (.int 2)) (aCons (dNeg (dC (.int 3))) (aCons (dC (.int 1)) (aCons (dC (.int 0)) (aNil)))))))))) (dCall 2 0 [0, 1] sp_L_take (aCons (dVar 0) (aCons (dC (.int 8)) (aNil))) (aNil))))
theorem t12 : (10 : Int) ^ Int.toNat 12 = 1000000000000 := by decide +kernel
theorem sem_L_factor : ∀ ds ms Q, sp_L_factor ds ms Q → t_L_factor { nx := fun _ m => Q .non m, rt := Q } (startD 1 ds) ms := by
  intro ds ms Q h
  unfold sp_L_factor at h
  split at h
  · rename_i p
    obtain ⟨hp, h⟩ := h
    simp only [startD]
    unfold t_L_factor
    walk_at "st"
    refine take_step hp (by decide) (by decide) fun r a1 b1 m1 p1 c1 => ?_
    walk_at "st"
    cases e : (r == 0) with
    | true =>
      walk_at "st"
      refine w_pow (by decide) t12 ?_
      walk_at "st"
      refine ⟨.inr (.inr ⟨by decide, by decide⟩), ?_⟩
      walk_at "st"
      refine take_step p1 (by decide) (by decide) fun r2 a2 b2 m2 p2 c2 => ?_
      walk_at "st"
      refine w_pow (by decide) t12 ?_
      walk_at "st"
      exact h _ (by unfold Bd; omega) m2 p2 (c1.trans c2)
    | false =>
      walk_at "st"
      refine take_step p1 (by decide) (by decide) fun r2 a2 b2 m2 p2 c2 => ?_
      have e8 : ∃ v : Int, atI [D.int 0, .int 1, .int (-1), .int 0, .int 2, .int (-3), .int 1, .int 0] r2 = some (.int v) ∧ Bd 41 v := by
        obtain ⟨v, e, hv⟩ := atI_ints (is := [0, 1, -1, 0, 2, -3, 1, 0]) a2 b2
        refine ⟨v, e, ?_⟩
        simp only [List.mem_cons, List.not_mem_nil, or_false] at hv
        unfold Bd; omega
      obtain ⟨v, ev, bv⟩ := e8
      walk_at "st"
      refine w_ix_l ev ?_
      exact h v bv m2 p2 (c1.trans c2)
  · exact h.elim
theorem ok_L_factor (T : Tx P K mg) : FnG P w K mg base 2 T.f_L_factor T.d_L_factor ["_law_pool_here"] (spD K sp_L_factor) := by
  have G_L_take := ok_L_take (P := P) (w := w) (base := base) T
  exact fnG_of (k := 1) (t := t_L_factor) T.F_L_factor sc_L_factor len_L_factor
    (fun cdv A outer s H hr => pds_cons (pds_if (pdt_cmp (op_eqF hr.r.units) opd_eq (pd_call G_L_take (hr.mono (by decide)) rfl T.g_L_take T.F_L_take.kp T.b_L_take_2 (pda_cons (pd_var 0) (pda_cons (pd_int) (pda_nil)))) (pd_int)) (pds_one (pds_ret (pd_op op_sub opd_sub (pd_call G_L_take (hr.mono (by decide)) rfl T.g_L_take T.F_L_take.kp T.b_L_take_2 (pda_cons (pd_var 0) (pda_cons (pd_op op_mulA opd_mul (pd_int) (pd_op op_pow opd_pow (pd_int) (pd_int))) (pda_nil)))) (pd_op op_pow opd_pow (pd_int) (pd_int))))) (pds_nil)) (pds_one (pds_ret (pd_ix ix_seq opd_ix (pd_lst (pda_cons (pd_int) (pda_cons (pd_int) (pda_cons (pd_neg (pd_int)) (pda_cons (pd_int) (pda_cons (pd_int) (pda_cons (pd_neg (pd_int)) (pda_cons (pd_int) (pda_cons (pd_int) (pda_nil)))))))))) (pd_call G_L_take (hr.mono (by decide)) rfl T.g_L_take T.F_L_take.kp T.b_L_take_2 (pda_cons (pd_var 0) (pda_cons (pd_int) (pda_nil))))))))
    sem_L_factor
def sp_L_line : FS := fun ds ms P => match ds with
  | [.opq (.ref p), .int m] => PoolAt ms p ∧ 0 ≤ m ∧ m ≤ 8 ∧ ∀ is : List Int, (is.length : Int) = m + 1 → (∀ i ∈ is, Bd 41 i) → ∀ ms', PoolAt ms' p → Chg ms p ms' → P (.lst (is.map D.int)) ms'
  | _ => False
theorem len_L_line : ∀ ds ms Q, sp_L_line ds ms Q → ds.length = 2 := fun ds ms Q h => by
  unfold sp_L_line at h
  split at h <;> first | rfl | exact h.elim
def t_L_line : DTS := dRet (dOp fAdd (dLst (aCons (dOp fSub (dCall 2 0 [0, 1] sp_L_take (aCons (dVar 0) (aCons (dC (.int 9)) (aNil))) (aNil)) (dC (.int 4))) (aNil))) (dLc (iRange1 (aCons (dVar 1) (aNil))) (sName 2) (dYes) (dCall 1 0 [0] sp_L_factor (aCons (dVar 0) (aNil)) (aNil)) [2]))
theorem sem_L_line : ∀ ds ms Q, sp_L_line ds ms Q → t_L_line { nx := fun _ m => Q .non m, rt := Q } (startD 3 ds) ms := by
  intro ds ms Q h
  unfold sp_L_line at h
  split at h
  · rename_i p m
    obtain ⟨hp, m0, m8, h⟩ := h
    simp only [startD]
    unfold t_L_line
    walk_at "st"
    refine take_step hp (by decide) (by decide) fun r a1 b1 m1 p1 c1 => ?_
    walk_at "st"
    refine w_mRng ⟨by omega, by omega⟩ ?_
    simp only [wipeD, List.set]
    refine comp_pool (p := p) (Good := fun d => ∃ i, d = .int i ∧ Bd 41 i) _ [] m1 _ p1 ?_ ?_ ?_
    · rw [rng_len, List.length_nil]; omega
    · intro x hx m1 hm P0 q
      walk_at "st"
      exact ⟨hm, fun i bi m2 p2 c2 => q _ _ ⟨i, rfl, bi⟩ p2 c2⟩
    · intro ys m2 hl hg p2 c2
      rw [List.nil_append]
      rw [rng_len] at hl
      obtain ⟨is, rfl, hi, _⟩ := ints_of _ hg
      rw [List.length_map] at hl
      walk_at "st"
      try refine ⟨size_ok (by simp; omega), ?_⟩
      walk_at "st"
      exact h ((r - 4) :: is) (by rw [List.length_cons]; omega) (fun i h => by
        rcases List.mem_cons.mp h with rfl | h
        · unfold Bd; omega
        · exact hi i h) m2 p2 (c1.trans c2)
  · exact h.elim
theorem ok_L_line (T : Tx P K mg) : FnG P w K mg base 3 T.f_L_line T.d_L_line ["_law_pool_here", "_law_many"] (spD K sp_L_line) := by
  have G_L_factor := ok_L_factor (P := P) (w := w) (base := base) T
  have G_L_take := ok_L_take (P := P) (w := w) (base := base) T
  exact fnG_of (k := 2) (t := t_L_line) T.F_L_line sc_L_line len_L_line
    (fun cdv A outer s H hr => pds_one (pds_ret (pd_op op_addD opd_add (pd_lst (pda_cons (pd_op op_sub opd_sub (pd_call G_L_take (hr.mono (by decide)) rfl T.g_L_take T.F_L_take.kp T.b_L_take_2 (pda_cons (pd_var 0) (pda_cons (pd_int) (pda_nil)))) (pd_int)) (pda_nil))) (pd_lc (own := [("_law_turn", 2)]) rfl sc_L_line.nd (pdi_range1 rfl T.n_range (pda_cons (pd_var 1) (pda_nil))) (blkOk_by (own := [("_law_turn", 2)]) (by kernel_rfl)) (fun _ _ _ _ _ => pg_name (i := 2) sc_L_line.nd rfl (by first | exact .inl rfl | exact .inr rfl)) (tg_name (i := 2) (by decide)) (mon_name (i := 2)) (fun _ _ _ _ _ => pdts_nil) (fun _ _ _ _ _ => pd_call G_L_factor (hr.mono (by decide)) rfl T.g_L_factor T.F_L_factor.kp T.b_L_factor_1 (pda_cons (pd_var 0) (pda_nil)))))))
    sem_L_line
def sp_L_wishes : FS := fun ds ms P => match ds with
  | [.opq (.ref p), .int n, .int s] => PoolAt ms p ∧ 0 ≤ n ∧ n ≤ 6 ∧ 0 ≤ s ∧ s ≤ 12 ∧ ∀ ws : List Wi, (ws.length : Int) ≤ s → (∀ w ∈ ws, WiOk 41 n.toNat w) → ∀ ms', PoolAt ms' p → Chg ms p ms' → P (.lst (ws.map wiD)) ms'
  | _ => False
theorem len_L_wishes : ∀ ds ms Q, sp_L_wishes ds ms Q → ds.length = 3 := fun ds ms Q h => by
  unfold sp_L_wishes at h
  split at h <;> first | rfl | exact h.elim
def t_L_wishes : DTS := dSeq (dAsg (dLstM (aNil)) (sName 3)) (dSeq (dFor (iRange1 (aCons (dCall 2 0 [0, 1] sp_L_take (aCons (dVar 0) (aCons (dOp fAdd (dVar 2) (dC (.int 1))) (aNil))) (aNil)) (aNil))) (sName 4) (dDrop (dAppend (dVar 3) (aCons (dTup (aCons (dOp fIx (dLst (aCons (dC (.str "least")) (aCons (dC (.str "least")) (aCons (dC (.str "just")) (aNil))))) (dCall 2 0 [0, 1] sp_L_take (aCons (dVar 0) (aCons (dC (.int 3)) (aNil))) (aNil))) (aCons (dCall 2 0 [0, 1] sp_L_line (aCons (dVar 0) (aCons (dVar 1) (aNil))) (aNil)) (aNil)))) (aNil))))) (dRet (dFrz (dVar 3))))
theorem sem_L_wishes : ∀ ds ms Q, sp_L_wishes ds ms Q → t_L_wishes { nx := fun _ m => Q .non m, rt := Q } (startD 5 ds) ms := by
  intro ds ms Q h
  unfold sp_L_wishes at h
  split at h
  · rename_i p n s
    obtain ⟨hp, n0, n6, s0, s12, h⟩ := h
    simp only [startD]
    unfold t_L_wishes
    walk_at "st"
    intro q hq
    have hne := hp.ne hq
    walk_at "st"
    refine take_stepC hne hp (by omega) (by omega) fun r a1 b1 m1 p1 c1 => ?_
    walk_at "st"
    refine w_mRng ⟨by omega, by omega⟩ ?_
    refine loop_rn (fun k ds m' => ∃ (ws : List Wi) (m2 : MS), m' = (q, ws.map wiD) :: m2 ∧ PoolAt m2 p ∧ Chg ms p m2 ∧ ws.length = k ∧ (∀ w ∈ ws, WiOk 41 n.toNat w) ∧ ∃ x4, ds = [some (.opq (.ref p)), some (.int n), some (.int s), some (.opq (.ref q)), x4]) r.toNat ⟨[], m1, rfl, p1, c1, rfl, (fun x hx => by cases hx), _, rfl⟩ ?_ ?_
    · rintro k ds m' hk ⟨ws, m2, rfl, p2, c2, hl, hw, x4, rfl⟩ N hN
      walk_at "st"
      refine take_stepC hne p2 (by decide) (by decide) fun r2 a2 b2 m3 p3 c3 => ?_
      obtain ⟨d, ed, hd⟩ : ∃ d, atI [D.str "least", .str "least", .str "just"] r2 = some d ∧ d ∈ [D.str "least", .str "least", .str "just"] := by
        obtain ⟨j, rfl⟩ : ∃ j : Nat, r2 = (j : Int) := ⟨r2.toNat, by omega⟩
        have hj : j < [D.str "least", .str "least", .str "just"].length := by show j < 3; omega
        exact ⟨_, atI_nat (List.getElem?_eq_getElem hj), List.getElem_mem hj⟩
      obtain ⟨jb, rfl⟩ := word_of3 hd wd_l wd_l wd_j
      walk_at "st"
      refine w_ix_l ed ?_
      walk_at "st"
      refine ⟨p3.cons hne, by omega, by omega, fun is il bd m4 p4 c4 => ?_⟩
      obtain ⟨m5, rfl, c5⟩ := chg_cons hne c4
      obtain ⟨w, ew, ow⟩ := line_cons (n := n.toNat) (by omega) bd jb
      walk_at "st"
      rw [ew]
      refine ⟨Nat.lt_of_lt_of_le (show (ws.map wiD).length < 20 by rw [List.length_map]; omega) (by decide), ?_⟩
      walk_at "st"
      refine hN _ _ ⟨ws ++ [w], m5, by rw [List.map_append]; rfl, p4.tail hne, c2.trans (c3.trans c5), by rw [List.length_append, List.length_singleton, hl], fun z hz => ?_, _, rfl⟩
      rcases List.mem_append.mp hz with hz | hz
      · exact hw z hz
      · rw [List.mem_singleton.mp hz]; exact ow
    · rintro ds m' ⟨ws, m2, rfl, p2, c2, hl, hw, x4, rfl⟩
      walk_at "st"
      exact h ws (by omega) hw m2 p2 c2
  · exact h.elim
theorem ok_L_wishes (T : Tx P K mg) : FnG P w K mg base 4 T.f_L_wishes T.d_L_wishes ["_law_pool_here", "_law_many", "_law_most"] (spD K sp_L_wishes) := by
  have G_L_take := ok_L_take (P := P) (w := w) (base := base) T
  have G_L_line := ok_L_line (P := P) (w := w) (base := base) T
  exact fnG_of (k := 3) (t := t_L_wishes) T.F_L_wishes sc_L_wishes len_L_wishes
    (fun cdv A outer s H hr => pds_cons (pds_set (i := 3) sc_L_wishes.nd rfl (.inl rfl) (pd_lstM (pda_nil))) (pds_cons (pds_for (vs := [4]) rfl (pdi_range1 rfl T.n_range (pda_cons (pd_call G_L_take (hr.mono (by decide)) rfl T.g_L_take T.F_L_take.kp T.b_L_take_2 (pda_cons (pd_var 0) (pda_cons (pd_op op_addD opd_add (pd_var 2) (pd_int)) (pda_nil)))) (pda_nil))) (pg_name (i := 4) sc_L_wishes.nd rfl (.inl rfl)) (tg_name (i := 4) (by decide)) (pds_one (pds_expr (pd_append (pd_var 3) (pda_cons (pd_tup (pda_cons (pd_ix ix_seq opd_ix (pd_lst (pda_cons (pd_str) (pda_cons (pd_str) (pda_cons (pd_str) (pda_nil))))) (pd_call G_L_take (hr.mono (by decide)) rfl T.g_L_take T.F_L_take.kp T.b_L_take_2 (pda_cons (pd_var 0) (pda_cons (pd_int) (pda_nil))))) (pda_cons (pd_call G_L_line (hr.mono (by decide)) rfl T.g_L_line T.F_L_line.kp T.b_L_line_2 (pda_cons (pd_var 0) (pda_cons (pd_var 1) (pda_nil)))) (pda_nil)))) (pda_nil)))))) (pds_one (pds_ret (pd_frz (pd_var 3))))))
    sem_L_wishes
theorem NmOk.less {n m : Nat} {xs : List Str} (h : NmOk n xs) (hl : xs.length ≤ m) : NmOk m xs := ⟨h.l1, hl, h.nd, h.ok⟩
def sp_L_program : FS := fun ds ms P => match ds with
  | [.opq (.ref p), .int a, .int b] => PoolAt ms p ∧ 1 ≤ a ∧ a ≤ 6 ∧ 0 ≤ b ∧ b ≤ 10 ∧ ∀ (g : Pg) (q : Addr) (ms' : MS), PgOk 41 g → (g.pm.length : Int) ≤ a → (g.rs.length : Int) ≤ b → p ≠ q → (∀ e ∈ ms, e.1 ≠ q) → PoolAt ms' p → Chg ms p ms' → P (.tup [.lst (g.nm.map D.str), .lst (g.pm.map D.str), .opq (.ref q)]) ((q, g.rs.map rwD) :: ms')
  | _ => False
theorem len_L_program : ∀ ds ms Q, sp_L_program ds ms Q → ds.length = 3 := fun ds ms Q h => by
  unfold sp_L_program at h
  split at h <;> first | rfl | exact h.elim
def t_L_program : DTS := dSeq (dAsg (dCall 3 0 [0, 1, 2] sp_L_names (aCons (dVar 0) (aCons (dOp fAdd (dC (.int 1)) (dCall 2 0 [0, 1] sp_L_take (aCons (dVar 0) (aCons (dC (.int 3)) (aNil))) (aNil))) (aCons (dC (.int 6)) (aNil)))) (aNil)) (sName 3)) (dSeq (dAsg (dCall 3 0 [0, 1, 2] sp_L_names (aCons (dVar 0) (aCons (dOp fAdd (dC (.int 1)) (dCall 2 0 [0, 1] sp_L_take (aCons (dVar 0) (aCons (dVar 1) (aNil))) (aNil))) (aCons (dC (.int 6)) (aNil)))) (aNil)) (sName 4)) (dSeq (dAsg (dLstM (aNil)) (sName 5)) (dSeq (dFor (iRange1 (aCons (dCall 2 0 [0, 1] sp_L_take (aCons (dVar 0) (aCons (dOp fAdd (dVar 2) (dC (.int 1))) (aNil))) (aNil)) (aNil))) (sName 6) (dSeq (dAsg (dCall 2 0 [0, 1] sp_L_take (aCons (dVar 0) (aCons (dCB cLen (aCons (dVar 4) (aNil))) (aNil))) (aNil)) (sName 7)) (dSeq (dAsg (dCall 2 0 [0, 1] sp_L_take (aCons (dVar 0) (aCons (dCB cLen (aCons (dVar 4) (aNil))) (aNil))) (aNil)) (sName 8)) (dDrop (dAppend (dVar 5) (aCons (dTup (aCons (dVar 7) (aCons (dVar 8) (aCons (dCall 3 0 [0, 1, 2] sp_L_wishes (aCons (dVar 0) (aCons (dOp fMul (dC (.int 2)) (dCB cLen (aCons (dVar 3) (aNil)))) (aCons (dOp fIx (dLst (aCons (dC (.int 1)) (aCons (dC (.int 3)) (aCons (dC (.int 4)) (aCons (dC (.int 12)) (aNil)))))) (dCall 2 0 [0, 1] sp_L_take (aCons (dVar 0) (aCons (dC (.int 4)) (aNil))) (aNil))) (aNil)))) (aNil)) (aNil))))) (aNil))))))) (dRet (dTup (aCons (dVar 3) (aCons (dVar 4) (aCons (dVar 5) (aNil)))))))))
theorem sem_L_program : ∀ ds ms Q, sp_L_program ds ms Q → t_L_program { nx := fun _ m => Q .non m, rt := Q } (startD 9 ds) ms := by
  intro ds ms Q h
  unfold sp_L_program at h
  split at h
  · rename_i p a b
    obtain ⟨hp, a1, a6, b0, b10, h⟩ := h
    simp only [startD]
    unfold t_L_program
    walk_at "st"
    refine take_step hp (by decide) (by decide) fun r1 c1 d1 m1 p1 g1 => ?_
    walk_at "st"
    refine ⟨p1, by omega, by omega, rfl, fun nm nl no m2 p2 g2 => ?_⟩
    walk_at "st"
    refine take_step p2 (by omega) (by omega) fun r2 c2 d2 m3 p3 g3 => ?_
    walk_at "st"
    refine ⟨p3, by omega, by omega, rfl, fun pm pl po m4 p4 g4 => ?_⟩
    have chg4 := ((g1.trans g2).trans g3).trans g4
    have no3 := no.less (m := 3) (by omega)
    walk_at "st"
    intro q hq
    have hne := p4.ne hq
    have hq0 : ∀ e ∈ ms, e.1 ≠ q := fun e he z => by
      obtain ⟨x, y, _, rfl⟩ := chg4
      have : e.1 ∈ (pu ms p x y).map (·.1) := by
        unfold pu
        have adr : ∀ M : MS, (put M p [.int x, .int y]).map (·.1) = M.map (·.1) := fun M => by
          induction M with
          | nil => rfl
          | cons c r ih =>
            obtain ⟨c1, c2⟩ := c
            unfold put
            split
            · rename_i e; rw [e]; rfl
            · rw [List.map_cons, List.map_cons, ih]
        rw [adr]; exact List.mem_map_of_mem he
      obtain ⟨f, hf, ef⟩ := List.mem_map.mp this
      exact hq f hf (ef.trans z)
    walk_at "st"
    refine take_stepC hne p4 (by omega) (by omega) fun r3 c3 d3 m5 p5 g5 => ?_
    walk_at "st"
    refine w_mRng ⟨by omega, by omega⟩ ?_
    refine loop_rn (fun k ds m' => ∃ (rs : List Rw) (m2 : MS), m' = (q, rs.map rwD) :: m2 ∧ PoolAt m2 p ∧ Chg ms p m2 ∧ rs.length = k ∧ (∀ r ∈ rs, RwOk 41 nm.length pm.length r) ∧ ∃ x6 x7 x8, ds = [some (.opq (.ref p)), some (.int a), some (.int b), some (.lst (nm.map D.str)), some (.lst (pm.map D.str)), some (.opq (.ref q)), x6, x7, x8]) r3.toNat ⟨[], m5, rfl, p5, chg4.trans g5, rfl, (fun x hx => by cases hx), _, _, _, rfl⟩ ?_ ?_
    · rintro k ds m' hk ⟨rs, m6, rfl, p6, g6, hl, hr, x6, x7, x8, rfl⟩ N hN
      walk_at "st"
      rw [List.length_map]
      refine take_stepC hne p6 (by omega) (by omega) fun s e1 f1 m7 p7 g7 => ?_
      walk_at "st"
      rw [List.length_map]
      refine take_stepC hne p7 (by omega) (by omega) fun t e2 f2 m8 p8 g8 => ?_
      walk_at "st"
      rw [List.length_map]
      refine ⟨.inr (.inr ⟨by omega, by omega⟩), ?_⟩
      walk_at "st"
      refine take_stepC hne p8 (by decide) (by decide) fun v e3 f3 m9 p9 g9 => ?_
      obtain ⟨y, ey, hy⟩ := atI_ints (is := [1, 3, 4, 12]) e3 f3
      have yb : 0 ≤ y ∧ y ≤ 12 := by simp only [List.mem_cons, List.not_mem_nil, or_false] at hy; omega
      walk_at "st"
      refine w_ix_l ey ?_
      walk_at "st"
      refine ⟨p9.cons hne, by omega, by omega, yb.1, yb.2, fun ws wl wo mA pA gA => ?_⟩
      obtain ⟨mB, rfl, gB⟩ := chg_cons hne gA
      walk_at "st"
      refine ⟨Nat.lt_of_lt_of_le (show (rs.map rwD).length < 20 by rw [List.length_map]; omega) (by decide), ?_⟩
      walk_at "st"
      refine hN _ _ ⟨rs ++ [⟨s, t, ws⟩], mB, by rw [List.map_append]; rfl, pA.tail hne, g6.trans (g7.trans (g8.trans (g9.trans gB))), by rw [List.length_append, List.length_singleton, hl], fun z hz => ?_, _, _, _, rfl⟩
      rcases List.mem_append.mp hz with hz | hz
      · exact hr z hz
      · rw [List.mem_singleton.mp hz]
        exact ⟨e1, f1, e2, f2, by show ws.length ≤ 12; omega, fun w hw => by have := wo w hw; rwa [show (2 * (nm.length : Int)).toNat = 2 * nm.length by omega] at this⟩
    · rintro ds m' ⟨rs, m6, rfl, p6, g6, hl, hr, x6, x7, x8, rfl⟩
      walk_at "st"
      exact h ⟨nm, pm, rs⟩ q m6 ⟨no3, po, by show rs.length ≤ 10; omega, hr⟩ (by show (pm.length : Int) ≤ a; omega) (by show (rs.length : Int) ≤ b; omega) hne hq0 p6 g6
  · exact h.elim
theorem ok_L_program (T : Tx P K mg) : FnG P w K mg base 5 T.f_L_program T.d_L_program ["_law_pool_here", "_law_places", "_law_rows"] (spD K sp_L_program) := by
  have G_L_names := ok_L_names (P := P) (w := w) (base := base) T
  have G_L_take := ok_L_take (P := P) (w := w) (base := base) T
  have G_L_wishes := ok_L_wishes (P := P) (w := w) (base := base) T
  exact fnG_of (k := 4) (t := t_L_program) T.F_L_program sc_L_program len_L_program
    (fun cdv A outer s H hr => pds_cons (pds_set (i := 3) sc_L_program.nd rfl (.inl rfl) (pd_call G_L_names (hr.mono (by decide)) rfl T.g_L_names T.F_L_names.kp T.b_L_names_3 (pda_cons (pd_var 0) (pda_cons (pd_op op_addD opd_add (pd_int) (pd_call G_L_take (hr.mono (by decide)) rfl T.g_L_take T.F_L_take.kp T.b_L_take_2 (pda_cons (pd_var 0) (pda_cons (pd_int) (pda_nil))))) (pda_cons (pd_int) (pda_nil)))))) (pds_cons (pds_set (i := 4) sc_L_program.nd rfl (.inl rfl) (pd_call G_L_names (hr.mono (by decide)) rfl T.g_L_names T.F_L_names.kp T.b_L_names_3 (pda_cons (pd_var 0) (pda_cons (pd_op op_addD opd_add (pd_int) (pd_call G_L_take (hr.mono (by decide)) rfl T.g_L_take T.F_L_take.kp T.b_L_take_2 (pda_cons (pd_var 0) (pda_cons (pd_var 1) (pda_nil))))) (pda_cons (pd_int) (pda_nil)))))) (pds_cons (pds_set (i := 5) sc_L_program.nd rfl (.inl rfl) (pd_lstM (pda_nil))) (pds_cons (pds_for (vs := [6]) rfl (pdi_range1 rfl T.n_range (pda_cons (pd_call G_L_take (hr.mono (by decide)) rfl T.g_L_take T.F_L_take.kp T.b_L_take_2 (pda_cons (pd_var 0) (pda_cons (pd_op op_addD opd_add (pd_var 2) (pd_int)) (pda_nil)))) (pda_nil))) (pg_name (i := 6) sc_L_program.nd rfl (.inl rfl)) (tg_name (i := 6) (by decide)) (pds_cons (pds_set (i := 7) sc_L_program.nd rfl (.inl rfl) (pd_call G_L_take (hr.mono (by decide)) rfl T.g_L_take T.F_L_take.kp T.b_L_take_2 (pda_cons (pd_var 0) (pda_cons (pd_callB call_len cal_len rfl T.n_len (by decide +kernel) (pda_cons (pd_var 4) (pda_nil))) (pda_nil))))) (pds_cons (pds_set (i := 8) sc_L_program.nd rfl (.inl rfl) (pd_call G_L_take (hr.mono (by decide)) rfl T.g_L_take T.F_L_take.kp T.b_L_take_2 (pda_cons (pd_var 0) (pda_cons (pd_callB call_len cal_len rfl T.n_len (by decide +kernel) (pda_cons (pd_var 4) (pda_nil))) (pda_nil))))) (pds_one (pds_expr (pd_append (pd_var 5) (pda_cons (pd_tup (pda_cons (pd_var 7) (pda_cons (pd_var 8) (pda_cons (pd_call G_L_wishes (hr.mono (by decide)) rfl T.g_L_wishes T.F_L_wishes.kp T.b_L_wishes_3 (pda_cons (pd_var 0) (pda_cons (pd_op op_mulA opd_mul (pd_int) (pd_callB call_len cal_len rfl T.n_len (by decide +kernel) (pda_cons (pd_var 3) (pda_nil)))) (pda_cons (pd_ix ix_seq opd_ix (pd_lst (pda_cons (pd_int) (pda_cons (pd_int) (pda_cons (pd_int) (pda_cons (pd_int) (pda_nil)))))) (pd_call G_L_take (hr.mono (by decide)) rfl T.g_L_take T.F_L_take.kp T.b_L_take_2 (pda_cons (pd_var 0) (pda_cons (pd_int) (pda_nil))))) (pda_nil))))) (pda_nil))))) (pda_nil)))))))) (pds_one (pds_ret (pd_tup (pda_cons (pd_var 3) (pda_cons (pd_var 4) (pda_cons (pd_var 5) (pda_nil)))))))))))
    sem_L_program
def sp_L_line_text : FS := fun ds ms P => match ds with
  | [a, b] => ∃ (ns : List (List Nat)) (is : List Int), a = nsD ns ∧ b = isD is ∧ LnU 1000 ns is ∧ P (.str (S (txT (tms is ([] :: ns))))) ms
  | _ => False
theorem len_L_line_text : ∀ ds ms Q, sp_L_line_text ds ms Q → ds.length = 2 := fun ds ms Q h => by
  unfold sp_L_line_text at h
  split at h <;> first | rfl | exact h.elim
def t_L_line_text_c1 : DTS := dSeq (dAsg (dOp fIx (dLst (aCons (dC (.str " + ")) (aCons (dC (.str " - ")) (aNil)))) (dCB cInt1 (aCons (dOp fLt (dVar 4) (dC (.int 0))) (aNil)))) (sName 6)) (dSeq (dIfS (dTest (dOp fEq (dVar 2) (dC (.str "")))) (dAsg (dOp fIx (dLst (aCons (dC (.str "")) (aCons (dC (.str "-")) (aNil)))) (dCB cInt1 (aCons (dOp fLt (dVar 4) (dC (.int 0))) (aNil)))) (sName 6)) (dNext)) (dAsg (dOp fAdd (dOp fAdd (dVar 2) (dVar 6)) (dVar 5)) (sName 2)))
def t_L_line_text : DTS := dSeq (dAsg (dC (.str "")) (sName 2)) (dSeq (dFor (iZipD (aCons (dOp fAdd (dLst (aCons (dC (.str "")) (aNil))) (dVar 0)) (aCons (dVar 1) (aNil)))) (sTup 2 (sCons (sName 3) (sCons (sName 4) (sNil)))) (dIfS (dTest (dOp fNe (dVar 4) (dC (.int 0)))) (dSeq (dAsg (dOp fAdd (dOp fAdd (dCB cStr (aCons (dCB cAbs (aCons (dVar 4) (aNil))) (aNil))) (dC (.str "*"))) (dVar 3)) (sName 5)) (dSeq (dIfS (dTest (dOp fEq (dVar 3) (dC (.str "")))) (dAsg (dCB cStr (aCons (dCB cAbs (aCons (dVar 4) (aNil))) (aNil))) (sName 5)) (dIfS (dTest (dOp fEq (dCB cAbs (aCons (dVar 4) (aNil))) (dC (.int 1)))) (dAsg (dVar 3) (sName 5)) (dNext))) (t_L_line_text_c1))) (dNext))) (dRet (dOp fIx (dLst (aCons (dVar 2) (aCons (dC (.str "0")) (aNil)))) (dCB cInt1 (aCons (dOp fEq (dVar 2) (dC (.str ""))) (aNil))))))
theorem zipD_nmI : ∀ (is : List Int) (ns : List (List Nat)), zipD (ns.map nmD) (is.map D.int) = (is.zip ns).map fun p : Int × List Nat => D.tup [nmD p.2, .int p.1]
  | [], ns => by cases ns <;> rfl
  | _ :: _, [] => rfl
  | i :: is, n :: ns => by
    show D.tup [nmD n, .int i] :: zipD (ns.map nmD) (is.map D.int) = _
    rw [zipD_nmI is ns]; rfl
theorem sem_L_line_text : ∀ ds ms Q, sp_L_line_text ds ms Q → t_L_line_text { nx := fun _ m => Q .non m, rt := Q } (startD 7 ds) ms := by
  intro ds ms Q h
  unfold sp_L_line_text at h
  split at h
  · obtain ⟨ns, is, rfl, rfl, ok, h⟩ := h
    have L : ∀ {a : Nat}, a ≤ 30000 → a ≤ sizeLine := fun h => Nat.le_trans h (by decide)
    simp only [startD]
    unfold t_L_line_text nsD isD
    walk_at "st"
    have n8 := ok.n8
    have i9 := ok.ln
    refine ⟨L (by simp only [List.length_append, List.length_map, List.length_cons, List.length_nil]; omega), ?_⟩
    walk_at "st"
    rw [show [D.str (Str.ofString "")] ++ ns.map nmD = ([] :: ns).map nmD by rw [lit "" []]; rfl, zipD_nmI]
    have all6 : ∀ p ∈ is.zip ([] :: ns), Bd 1000 p.1 ∧ p.2.length ≤ 7 := fun p hp => by
      have := List.of_mem_zip hp
      refine ⟨ok.bd _ this.1, ?_⟩
      rcases List.mem_cons.mp this.2 with e | e
      · rw [e]; decide
      · exact (ok.nm _ e).l6
    have zl : (is.zip ([] :: ns)).length ≤ 9 := by rw [List.length_zip, List.length_cons]; omega
    refine loop_lU (fun p : Int × List Nat => D.tup [nmD p.2, .int p.1]) (is.zip ([] :: ns)) (fun pre ds m => m = ms ∧ ∃ x3 x4 x5 x6, ds = [some (nsD ns), some (isD is), some (.str (S (acT (pre.filter fun p => !(p.1 == 0))))), x3, x4, x5, x6]) _ [] _ _ rfl ⟨rfl, _, _, _, _, by rw [lit "" []]; rfl⟩ ?_ ?_
    · rintro pre ⟨c, n⟩ rest ds m split ⟨rfl, x3, x4, x5, x6, rfl⟩ N hN
      have pl : pre.length ≤ 8 := by have := congrArg List.length split; rw [List.length_append, List.length_cons] at this; omega
      have b0 := all6 (c, n) (by rw [← split]; simp)
      have al : (acT (pre.filter fun p => !(p.1 == 0))).length ≤ 10000 := by
        refine Nat.le_trans (acT_len _ fun p hp => ?_) (Nat.le_trans (Nat.mul_le_mul_left 1104 (show (pre.filter fun p => !(p.1 == 0)).length ≤ 8 from Nat.le_trans (List.length_filter_le ..) pl)) (by decide))
        have b := all6 p (by rw [← split]; exact List.mem_append_left _ (List.mem_filter.mp hp).1)
        exact pt_len b.1 b.2 (by decide)
      have pn := pt_len b0.1 b0.2 (by decide)
      dsimp only at pn b0
      unfold nmD
      walk_at "st"
      cases hc : (c == 0) with
      | true =>
        walk_at "st"
        rw [List.filter_append, List.filter_cons_of_neg (by simp [hc]), List.filter_nil, List.append_nil] at hN
        exact hN _ _ ⟨rfl, _, _, _, _, rfl⟩
      | false =>
        walk_at "st"
        have e1 : (pre ++ [(c, n)]).filter (fun p => !(p.1 == 0)) = pre.filter (fun p => !(p.1 == 0)) ++ [(c, n)] := by
          rw [List.filter_append, List.filter_cons_of_pos (by simp [hc]), List.filter_nil]
        rw [e1] at hN
        generalize pre.filter (fun p => !(p.1 == 0)) = t at al hN
        have ea : (if c < 0 then -c else c).natAbs = c.natAbs := by split <;> omega
        have nc : numI (if c < 0 then -c else c) = numL c.natAbs := by unfold numI; rw [if_neg (by split <;> omega), ea]
        have bn : Bd 1000 (if c < 0 then -c else c) := by
          have : c.natAbs < 2 ^ 1000 := b0.1
          unfold Bd
          rw [ea]
          exact this
        have lc : (numL c.natAbs).length ≤ 1001 := numL_len' (show c.natAbs < 2 ^ 1000 from b0.1)
        have fin : ∀ (E : EN) (y6 : Option D), t_L_line_text_c1 (EN.lp E N) [some (nsD ns), some (isD is), some (.str (S (acT t))), some (.str (S n)), some (.int c), some (.str (S (pt c n))), y6] m := fun E y6 => by
          unfold t_L_line_text_c1
          walk_at "st"
          by_cases hs : c < 0
          · rw [decide_eq_true hs, if_pos rfl]
            walk_at "st"
            rw [lit "" [], S_beq]
            cases t with
            | nil =>
              refine w_iteT rfl ?_
              walk_at "st"
              rw [decide_eq_true hs, if_pos rfl, lit "-" [45]]
              walk_at "st"
              rw [S_app (acT []) [45]]
              refine ⟨L (by rw [lenS, lenS, List.length_append]; have : (acT []).length = 0 := rfl; have : [45].length = 1 := rfl; omega), ?_⟩
              walk_at "st"
              rw [S_app (acT [] ++ [45]) (pt c n), show acT [] ++ [45] ++ pt c n = acT ([] ++ [(c, n)]) by show [] ++ [45] ++ pt c n = sgF c ++ pt c n ++ []; unfold sgF; rw [if_pos hs, List.append_nil, List.nil_append]]
              exact hN _ _ ⟨rfl, _, _, _, _, rfl⟩
            | cons q r =>
              have ne := acT_ne (t := q :: r) (by simp)
              refine w_iteF (by cases e : acT (q :: r) with | nil => exact absurd e ne | cons a b => rfl) ?_
              rw [lit " - " [32, 45, 32]]
              walk_at "st"
              refine ⟨L (by rw [lenS, lenS]; have : [32, 45, 32].length = 3 := rfl; omega), ?_⟩
              walk_at "st"
              rw [S_app]
              refine ⟨L (by rw [lenS, lenS, List.length_append]; have : [32, 45, 32].length = 3 := rfl; omega), ?_⟩
              walk_at "st"
              rw [S_app, show acT (q :: r) ++ [32, 45, 32] ++ pt c n = acT (q :: r ++ [(c, n)]) by rw [acT_snoc (by simp)]; show _ = acT (q :: r) ++ (sgM c ++ pt c n); unfold sgM; rw [if_pos hs, List.append_assoc]]
              exact hN _ _ ⟨rfl, _, _, _, _, rfl⟩
          · rw [decide_eq_false hs, if_neg (by decide)]
            walk_at "st"
            rw [lit "" [], S_beq]
            cases t with
            | nil =>
              refine w_iteT rfl ?_
              walk_at "st"
              rw [decide_eq_false hs, if_neg (by decide)]
              walk_at "st"
              rw [S_app (acT []) []]
              refine ⟨L (by rw [lenS, lenS, List.length_append]; have : (acT []).length = 0 := rfl; have : ([] : List Nat).length = 0 := rfl; omega), ?_⟩
              walk_at "st"
              rw [S_app (acT [] ++ []) (pt c n), show acT [] ++ [] ++ pt c n = acT ([] ++ [(c, n)]) by show [] ++ [] ++ pt c n = sgF c ++ pt c n ++ []; unfold sgF; rw [if_neg hs, List.append_nil]; simp]
              exact hN _ _ ⟨rfl, _, _, _, _, rfl⟩
            | cons q r =>
              have ne := acT_ne (t := q :: r) (by simp)
              refine w_iteF (by cases e : acT (q :: r) with | nil => exact absurd e ne | cons a b => rfl) ?_
              rw [lit " + " [32, 43, 32]]
              walk_at "st"
              refine ⟨L (by rw [lenS, lenS]; have : [32, 43, 32].length = 3 := rfl; omega), ?_⟩
              walk_at "st"
              rw [S_app]
              refine ⟨L (by rw [lenS, lenS, List.length_append]; have : [32, 43, 32].length = 3 := rfl; omega), ?_⟩
              walk_at "st"
              rw [S_app, show acT (q :: r) ++ [32, 43, 32] ++ pt c n = acT (q :: r ++ [(c, n)]) by rw [acT_snoc (by simp)]; show _ = acT (q :: r) ++ (sgM c ++ pt c n); unfold sgM; rw [if_neg hs, List.append_assoc]]
              exact hN _ _ ⟨rfl, _, _, _, _, rfl⟩
        refine ⟨(gd_int bn).sd.shw, ?_⟩
        rw [repS_int, nc]
        walk_at "st"
        rw [lit "*" [42]]
        refine ⟨L (by rw [lenS, lenS]; have : [42].length = 1 := rfl; omega), ?_⟩
        walk_at "st"
        rw [S_app]
        refine ⟨L (by rw [lenS, lenS, List.length_append]; have : [42].length = 1 := rfl; omega), ?_⟩
        walk_at "st"
        rw [S_app, lit "" [], S_beq]
        unfold pt at fin
        by_cases hn : n = []
        · rw [if_pos hn] at fin
          refine w_iteT (by rw [hn]; rfl) ?_
          walk_at "st"
          refine ⟨(gd_int bn).sd.shw, ?_⟩
          rw [repS_int, nc]
          walk_at "st"
          exact fin _ _
        · rw [if_neg hn] at fin
          refine w_iteF (by cases n with | nil => exact absurd rfl hn | cons a b => rfl) ?_
          walk_at "st"
          have e2 : ((if c < 0 then -c else c) == 1) = (c.natAbs == 1) := by rw [Bool.eq_iff_iff, beq_iff_eq, beq_iff_eq]; split <;> omega
          rw [e2]
          by_cases h1 : c.natAbs = 1
          · rw [if_pos h1] at fin
            rw [if_pos (beq_iff_eq.mpr h1)]
            walk_at "st"
            exact fin _ _
          · rw [if_neg h1] at fin
            rw [if_neg (fun e => h1 (beq_iff_eq.mp e)), show numL c.natAbs ++ [42] ++ n = numL c.natAbs ++ 42 :: n by simp]
            walk_at "st"
            exact fin _ _
    · rintro ds m ⟨rfl, x3, x4, x5, x6, rfl⟩
      walk_at "st"
      rw [lit "" [], lit "0" [48], S_beq]
      rw [show (is.zip ([] :: ns)).filter (fun p => !(p.1 == 0)) = tms is ([] :: ns) from rfl]
      unfold txT at h
      generalize tms is ([] :: ns) = t at h
      cases t with
      | nil =>
        rw [if_pos rfl] at h
        rw [show (acT [] == []) = true from rfl, if_pos rfl]
        walk_at "st"
        exact h
      | cons q r =>
        have ne := acT_ne (t := q :: r) (by simp)
        rw [if_neg (by simp)] at h
        rw [show (acT (q :: r) == []) = false by cases e : acT (q :: r) with | nil => exact absurd e ne | cons a b => rfl, if_neg (by decide)]
        walk_at "st"
        exact h
  · exact h.elim
theorem ok_L_line_text (T : Tx P K mg) : FnG P w K mg base 1 T.f_L_line_text T.d_L_line_text ["_law_names_here", "_law_line_here"] (spD K sp_L_line_text) := by
  exact fnG_of (k := 0) (t := t_L_line_text) T.F_L_line_text sc_L_line_text len_L_line_text
    (fun cdv A outer s H hr => pds_cons (pds_set (i := 2) sc_L_line_text.nd rfl (.inl rfl) (pd_str)) (pds_cons (pds_for (vs := [3, 4]) rfl (pdi_zip rfl T.n_zip (pda_cons (pd_op op_addD opd_add (pd_lst (pda_cons (pd_str) (pda_nil))) (pd_var 0)) (pda_cons (pd_var 1) (pda_nil)))) (pg_tup rfl (pgs_cons (pg_name (i := 3) sc_L_line_text.nd rfl (.inl rfl)) (pgs_cons (pg_name (i := 4) sc_L_line_text.nd rfl (.inl rfl)) (pgs_nil)))) (tg_tup (tgs_cons (tg_name (i := 3) (by decide)) (tgs_cons (tg_name (i := 4) (by decide)) (tgs_nil) (mon_name (i := 4))) (mon_name (i := 3)))) (pds_one (pds_if (pdt_cmp (op_neF hr.r.units) opd_ne (pd_var 4) (pd_int)) (pds_cons (pds_set (i := 5) sc_L_line_text.nd rfl (.inl rfl) (pd_op op_addD opd_add (pd_op op_addD opd_add (pd_callTy (call_strD hr) cal_str rfl T.n_str (by decide +kernel) (pda_cons (pd_callB call_abs cal_abs rfl T.n_abs (by decide +kernel) (pda_cons (pd_var 4) (pda_nil))) (pda_nil))) (pd_str)) (pd_var 3))) (pds_cons (pds_if (pdt_cmp (op_eqF hr.r.units) opd_eq (pd_var 3) (pd_str)) (pds_one (pds_set (i := 5) sc_L_line_text.nd rfl (.inl rfl) (pd_callTy (call_strD hr) cal_str rfl T.n_str (by decide +kernel) (pda_cons (pd_callB call_abs cal_abs rfl T.n_abs (by decide +kernel) (pda_cons (pd_var 4) (pda_nil))) (pda_nil))))) (pds_one (pds_if (pdt_cmp (op_eqF hr.r.units) opd_eq (pd_callB call_abs cal_abs rfl T.n_abs (by decide +kernel) (pda_cons (pd_var 4) (pda_nil))) (pd_int)) (pds_one (pds_set (i := 5) sc_L_line_text.nd rfl (.inl rfl) (pd_var 3))) (pds_nil)))) (pds_cons (pds_set (i := 6) sc_L_line_text.nd rfl (.inl rfl) (pd_ix ix_seq opd_ix (pd_lst (pda_cons (pd_str) (pda_cons (pd_str) (pda_nil)))) (pd_callTy call_int1 cal_int1 rfl T.n_int (by decide +kernel) (pda_cons (pd_cmp op_lt opd_lt (pd_var 4) (pd_int)) (pda_nil))))) (pds_cons (pds_if (pdt_cmp (op_eqF hr.r.units) opd_eq (pd_var 2) (pd_str)) (pds_one (pds_set (i := 6) sc_L_line_text.nd rfl (.inl rfl) (pd_ix ix_seq opd_ix (pd_lst (pda_cons (pd_str) (pda_cons (pd_str) (pda_nil)))) (pd_callTy call_int1 cal_int1 rfl T.n_int (by decide +kernel) (pda_cons (pd_cmp op_lt opd_lt (pd_var 4) (pd_int)) (pda_nil)))))) (pds_nil)) (pds_one (pds_set (i := 2) sc_L_line_text.nd rfl (.inl rfl) (pd_op op_addD opd_add (pd_op op_addD opd_add (pd_var 2) (pd_var 6)) (pd_var 5)))))))) (pds_nil)))) (pds_one (pds_ret (pd_ix ix_seq opd_ix (pd_lst (pda_cons (pd_var 2) (pda_cons (pd_str) (pda_nil)))) (pd_callTy call_int1 cal_int1 rfl T.n_int (by decide +kernel) (pda_cons (pd_cmp (op_eqF hr.r.units) opd_eq (pd_var 2) (pd_str)) (pda_nil))))))))
    sem_L_line_text
def sp_L_wish_text : FS := fun ds ms P => match ds with
  | [a, d] => ∃ (ns : List (List Nat)) (w : Wi), a = nsD ns ∧ d = wiD w ∧ LnU 1000 ns w.ls ∧ P (.str (S (wtx ns w))) ms
  | _ => False
theorem len_L_wish_text : ∀ ds ms Q, sp_L_wish_text ds ms Q → ds.length = 2 := fun ds ms Q h => by
  unfold sp_L_wish_text at h
  split at h <;> first | rfl | exact h.elim
def t_L_wish_text : DTS := dRet (dOp fAdd (dCall 2 0 [0, 1] sp_L_line_text (aCons (dVar 0) (aCons (dOp fIx (dVar 1) (dC (.int 1))) (aNil))) (aNil)) (dOp fIx (dLst (aCons (dC (.str " >= 0")) (aCons (dC (.str " = 0")) (aNil)))) (dCB cInt1 (aCons (dOp fEq (dOp fIx (dVar 1) (dC (.int 0))) (dC (.str "just"))) (aNil)))))
theorem sem_L_wish_text : ∀ ds ms Q, sp_L_wish_text ds ms Q → t_L_wish_text { nx := fun _ m => Q .non m, rt := Q } (startD 2 ds) ms := by
  intro ds ms Q h
  unfold sp_L_wish_text at h
  split at h
  · obtain ⟨ns, w, rfl, rfl, ok, h⟩ := h
    have tl := tms_len ok (by decide)
    simp only [startD]
    unfold t_L_wish_text
    rw [wiD_ls]
    walk_at "st"
    refine ⟨ns, w.ls, rfl, rfl, ok, ?_⟩
    unfold wtx at h
    unfold wdD
    cases hj : w.j with
    | true =>
      rw [hj] at h
      walk_at "st"
      rw [lit " = 0" [32, 61, 32, 48]]
      refine ⟨Nat.le_trans (show (S (txT (tms w.ls ([] :: ns)))).length + (S [32, 61, 32, 48]).length ≤ 20000 by rw [lenS, lenS]; have : [32, 61, 32, 48].length = 4 := rfl; omega) (by decide), ?_⟩
      walk_at "st"
      rw [S_app]
      exact h
    | false =>
      rw [hj] at h
      walk_at "st"
      rw [lit " >= 0" [32, 62, 61, 32, 48]]
      refine ⟨Nat.le_trans (show (S (txT (tms w.ls ([] :: ns)))).length + (S [32, 62, 61, 32, 48]).length ≤ 20000 by rw [lenS, lenS]; have : [32, 62, 61, 32, 48].length = 5 := rfl; omega) (by decide), ?_⟩
      walk_at "st"
      rw [S_app]
      exact h
  · exact h.elim
theorem ok_L_wish_text (T : Tx P K mg) : FnG P w K mg base 2 T.f_L_wish_text T.d_L_wish_text ["_law_names_here", "_law_wish"] (spD K sp_L_wish_text) := by
  have G_L_line_text := ok_L_line_text (P := P) (w := w) (base := base) T
  exact fnG_of (k := 1) (t := t_L_wish_text) T.F_L_wish_text sc_L_wish_text len_L_wish_text
    (fun cdv A outer s H hr => pds_one (pds_ret (pd_op op_addD opd_add (pd_call G_L_line_text (hr.mono (by decide)) rfl T.g_L_line_text T.F_L_line_text.kp T.b_L_line_text_2 (pda_cons (pd_var 0) (pda_cons (pd_ix ix_seq opd_ix (pd_var 1) (pd_int)) (pda_nil)))) (pd_ix ix_seq opd_ix (pd_lst (pda_cons (pd_str) (pda_cons (pd_str) (pda_nil)))) (pd_callTy call_int1 cal_int1 rfl T.n_int (by decide +kernel) (pda_cons (pd_cmp (op_eqF hr.r.units) opd_eq (pd_ix ix_seq opd_ix (pd_var 1) (pd_int)) (pd_str)) (pda_nil)))))))
    sem_L_wish_text
def sp_L_program_text : FS := fun ds ms P => match ds with
  | [d] => ∃ (g : Pg) (B : Nat), d = pgD g ∧ PgOk B g ∧ B ≤ 1000 ∧ ∀ M, flatM M → Frsh M ms → P (.str (S (textG g))) (M ++ ms)
  | _ => False
theorem len_L_program_text : ∀ ds ms Q, sp_L_program_text ds ms Q → ds.length = 1 := fun ds ms Q h => by
  unfold sp_L_program_text at h
  split at h <;> first | rfl | exact h.elim
def t_L_program_text : DTS := dSeq (dAsg (dVar 0) (sTup 3 (sCons (sName 1) (sCons (sName 2) (sCons (sName 3) (sNil)))))) (dSeq (dAsg (dOp fAdd (dVar 1) (dLc (iSeq (dVar 1)) (sName 9) (dYes) (dOp fAdd (dVar 9) (dC (.str "'"))) [9])) (sName 4)) (dSeq (dAsg (dLstM (aCons (dOp fAdd (dC (.str "numbers ")) (dM1 mJoin (dC (.str " ")) (dVar 1))) (aCons (dOp fAdd (dC (.str "places ")) (dM1 mJoin (dC (.str " ")) (dVar 2))) (aNil)))) (sName 5)) (dSeq (dFor (iSeq (dVar 3)) (sTup 3 (sCons (sName 6) (sCons (sName 7) (sCons (sName 8) (sNil))))) (dSeq (dDrop (dAppend (dVar 5) (aCons (dOp fAdd (dOp fAdd (dOp fAdd (dC (.str "row ")) (dOp fIx (dVar 2) (dVar 6))) (dC (.str " "))) (dOp fIx (dVar 2) (dVar 7))) (aNil)))) (dFrzS 5 (dAsg (dOp fAddM (dVar 5) (dLc (iSeq (dVar 8)) (sName 10) (dYes) (dCall 2 0 [0, 1] sp_L_wish_text (aCons (dVar 4) (aCons (dVar 10) (aNil))) (aNil)) [10])) (sName 5))))) (dRet (dM1 mJoin (dC (.str "\n")) (dVar 5))))))
theorem sem_L_program_text : ∀ ds ms Q, sp_L_program_text ds ms Q → t_L_program_text { nx := fun _ m => Q .non m, rt := Q } (startD 11 ds) ms := by
  intro ds ms Q h
  unfold sp_L_program_text at h
  split at h
  · obtain ⟨g, B, rfl, ok, hB, h⟩ := h
    have rl := ok.rl
    have nl := ok.nm.l2
    have pl := ok.pm.l2
    have un : (nsU g.nm).length = g.nm.length := List.length_map ..
    have up : (nsU g.pm).length = g.pm.length := List.length_map ..
    simp only [startD]
    unfold t_L_program_text
    unfold pgD
    walk_at "st"
    simp only [wipeD, List.set]
    rw [map_nsU g.nm]
    refine comp_e nmD (fun n => nmD (n ++ [39])) (nsU g.nm) [] _ (by rw [List.length_nil]; omega) (fun n hn P0 q => ?_) ?_
    · have := (nsU_mem ok.nm hn).2.1
      unfold nmD
      walk_at "st"
      rw [lit "'" [39], S_app]
      exact ⟨Nat.le_trans (show (S n).length + (S [39]).length ≤ 200 by rw [lenS, lenS, List.length_singleton]; omega) (by decide), q⟩
    rw [List.nil_append]
    walk_at "st"
    refine ⟨size_ok (by rw [List.length_map, List.length_map]; omega), ?_⟩
    have eb : (nsU g.nm).map nmD ++ (nsU g.nm).map (fun n => nmD (n ++ [39])) = (Bo (nsU g.nm)).map nmD := by unfold Bo; rw [List.map_append, List.map_map]; rfl
    rw [eb]
    walk_at "st"
    have jn : ∀ l ∈ nsU g.nm, l.length ≤ 10 := fun l hl => by have := (nsU_mem ok.nm hl).2.1; omega
    have jp : ∀ l ∈ nsU g.pm, l.length ≤ 10 := fun l hl => by have := (nsU_mem ok.pm hl).2.1; omega
    have nn := nms_len (wd := sgNum) ok.nm (by decide) (by decide)
    have np := nms_len (wd := sgPla) ok.pm (by decide) (by decide)
    have cons_ : ∀ (w : List Nat) (ls : List (List Nat)), 1 ≤ ls.length → w ++ [32] ++ TL.joinL [32] ls = TL.joinL [32] (w :: ls) := fun w ls h => by
      match ls, h with
      | a :: r, _ => show _ = w ++ ([32] ++ TL.joinL [32] (a :: r)); rw [List.append_assoc]
    rw [lit " " [32]]
    refine w_join (zs := (nsU g.nm).map S) (by show some _ = some _; rw [List.map_map]; rfl) ⟨join_ok jn (by omega), ?_⟩
    rw [join_S]
    walk_at "st"
    have en : sgNum ++ [32] ++ TL.joinL [32] (nsU g.nm) = TL.joinL [32] (sgNum :: nsU g.nm) := cons_ _ _ (by rw [un]; exact ok.nm.l1)
    have ep : sgPla ++ [32] ++ TL.joinL [32] (nsU g.pm) = TL.joinL [32] (sgPla :: nsU g.pm) := cons_ _ _ (by rw [up]; exact ok.pm.l1)
    rw [lit "numbers " (sgNum ++ [32]), S_app, en]
    refine ⟨Nat.le_trans (show (S (sgNum ++ [32])).length + (S (TL.joinL [32] (nsU g.nm))).length ≤ 200 by rw [lenS, lenS, ← List.length_append, en]; omega) (by decide), ?_⟩
    walk_at "st"
    rw [map_nsU g.pm]
    refine w_join (zs := (nsU g.pm).map S) (by show some _ = some _; rw [List.map_map]; rfl) ⟨join_ok jp (by omega), ?_⟩
    rw [join_S]
    walk_at "st"
    rw [lit "places " (sgPla ++ [32]), S_app, ep]
    refine ⟨Nat.le_trans (show (S (sgPla ++ [32])).length + (S (TL.joinL [32] (nsU g.pm))).length ≤ 200 by rw [lenS, lenS, ← List.length_append, ep]; omega) (by decide), ?_⟩
    walk_at "st"
    intro q hq
    walk_at "st"
    refine loop_lX rwD g.rs (fun pre ds m => ∃ (q : Addr) (M : MS) , m = (q, ((TL.joinL [32] (sgNum :: nsU g.nm) :: TL.joinL [32] (sgPla :: nsU g.pm) :: pre.flatMap (linesR (Bo (nsU g.nm)) (nsU g.pm)))).map nmD) :: (M ++ ms) ∧ flatM M ∧ Frsh M ms ∧ (∀ e ∈ M ++ ms, e.1 ≠ q) ∧ ∃ x6 x7 x8 x9 x10, ds = [some (pgD g), some (.lst (g.nm.map D.str)), some (.lst (g.pm.map D.str)), some (.lst (g.rs.map rwD)), some (.lst ((Bo (nsU g.nm)).map nmD)), some (.opq (.ref q)), x6, x7, x8, x9, x10]) g.rs [] _ _ rfl ⟨q, [], rfl, (fun _ h => by cases h), trivial, hq, _, _, _, _, _, by rw [← map_nsU, ← map_nsU]; rfl⟩ ?_ ?_
    · rintro pre r rest ds m hs ⟨q, M, rfl, fM, frM, hq, y6, y7, y8, y9, y10, rfl⟩ N hN
      have hr : r ∈ g.rs := by rw [← hs]; simp
      have o := ok.ro r hr
      have o1 := o.s0
      have o2 := o.s1
      have o3 := o.t0
      have o4 := o.t1
      have few : (TL.joinL [32] (sgNum :: nsU g.nm) :: TL.joinL [32] (sgPla :: nsU g.pm) :: pre.flatMap (linesR (Bo (nsU g.nm)) (nsU g.pm))).length ≤ 132 := by
        have h := flat_few (bo := Bo (nsU g.nm)) (ps := nsU g.pm) (rs := pre) fun z hz => (ok.ro z (by rw [← hs]; exact List.mem_append_left _ hz)).wl
        have := congrArg List.length hs
        rw [List.length_append, List.length_cons] at this
        rw [List.length_cons, List.length_cons]
        omega
      unfold rwD
      walk_at "st"
      refine w_ix_l (at_nsU o1 o2) ?_
      unfold nmD
      walk_at "st"
      have g6 : ∀ i : Nat, ((nsU g.pm).getD i []).length ≤ 10 := fun i => by
        rw [List.getD_eq_getElem?_getD]
        cases e : (nsU g.pm)[i]? with
        | none => decide
        | some p => exact jp p (List.mem_of_getElem? e)
      have h1 := g6 r.s.toNat
      have h2 := g6 r.t.toNat
      rw [lit "row " (sgRow ++ [32])]
      refine ⟨Nat.le_trans (show (S (sgRow ++ [32])).length + (S ((nsU g.pm).getD r.s.toNat [])).length ≤ 200 by rw [lenS, lenS]; have : (sgRow ++ [32]).length = 4 := rfl; omega) (by decide), ?_⟩
      walk_at "st"
      rw [S_app]
      refine ⟨Nat.le_trans (show (S (sgRow ++ [32] ++ (nsU g.pm).getD r.s.toNat [])).length + (S [32]).length ≤ 200 by rw [lenS, lenS, List.length_append]; have : (sgRow ++ [32]).length = 4 := rfl; have : [32].length = 1 := rfl; omega) (by decide), ?_⟩
      walk_at "st"
      rw [S_app]
      refine w_ix_l (at_nsU o3 o4) ?_
      unfold nmD
      walk_at "st"
      refine ⟨Nat.le_trans (show (S (sgRow ++ [32] ++ (nsU g.pm).getD r.s.toNat [] ++ [32])).length + (S ((nsU g.pm).getD r.t.toNat [])).length ≤ 200 by rw [lenS, lenS, List.length_append, List.length_append]; have : (sgRow ++ [32]).length = 4 := rfl; have : [32].length = 1 := rfl; omega) (by decide), ?_⟩
      walk_at "st"
      rw [S_app, show sgRow ++ [32] ++ (nsU g.pm).getD r.s.toNat [] ++ [32] ++ (nsU g.pm).getD r.t.toNat [] = rowT (nsU g.pm) r.s r.t by unfold rowT; show _ = sgRow ++ ([32] ++ ((nsU g.pm).getD r.s.toNat [] ++ ([32] ++ (nsU g.pm).getD r.t.toNat []))); simp only [List.append_assoc]]
      refine ⟨Nat.lt_of_lt_of_le (Nat.lt_succ_of_le (Nat.le_trans (Nat.le_of_eq (List.length_map ..)) few)) (by decide), ?_⟩
      walk_at "st"
      simp only [wipeD, List.set]
      refine comp_e wiD (fun w => nmD (wtx (Bo (nsU g.nm)) w)) r.ws [] _ (by rw [List.length_nil]; have := o.wl; omega) (fun w hw P0 q0 => ?_) ?_
      · walk_at "st"
        refine ⟨Bo (nsU g.nm), w, rfl, rfl, lnU_of ok.nm (o.wo w hw) hB, ?_⟩
        exact q0
      rw [List.nil_append]
      walk_at "st"
      refine ⟨size_ok (by rw [List.length_append, List.length_map, List.length_map, List.length_singleton]; have := o.wl; omega), fun q2 hq2 => ?_⟩
      walk_at "st"
      refine hN _ _ ⟨q2, M, ?_, fM, frM, hq2, _, _, _, _, _, rfl⟩
      rw [List.flatMap_append, List.flatMap_singleton]
      unfold linesR
      rw [List.map_cons, List.map_cons, List.map_cons, List.map_cons, List.map_append, List.map_cons, List.map_map]
      simp only [List.append_assoc, List.cons_append, List.nil_append]
      rfl
    · rintro ds m ⟨q, M, rfl, fM, frM, hq, y6, y7, y8, y9, y10, rfl⟩
      walk_at "st"
      rw [lit "\n" [10]]
      refine w_join (zs := (linesG g).map S) (by
        show asT (.opq (.ref q)) _ = _
        unfold asT
        show look ((q, _) :: (M ++ ms)) q = _
        rw [look_new, List.map_map]
        rfl) ⟨join_ok (lines_len ok hB) (by have := lines_few ok; omega), ?_⟩
      rw [join_S]
      exact h ((q, _) :: M) (fun e he => by
        rcases List.mem_cons.mp he with rfl | he
        · exact flats_all (fun _ => rfl) _
        · exact fM e he) ⟨hq, frM⟩
  · exact h.elim
theorem ok_L_program_text (T : Tx P K mg) : FnG P w K mg base 3 T.f_L_program_text T.d_L_program_text ["_law_own"] (spD K sp_L_program_text) := by
  have G_L_wish_text := ok_L_wish_text (P := P) (w := w) (base := base) T
  exact fnG_of (k := 2) (t := t_L_program_text) T.F_L_program_text sc_L_program_text len_L_program_text
    (fun cdv A outer s H hr => pds_cons (pds_asg (vs := [1, 2, 3]) (pd_var 0) (pg_tup rfl (pgs_cons (pg_name (i := 1) sc_L_program_text.nd rfl (.inl rfl)) (pgs_cons (pg_name (i := 2) sc_L_program_text.nd rfl (.inl rfl)) (pgs_cons (pg_name (i := 3) sc_L_program_text.nd rfl (.inl rfl)) (pgs_nil))))) (tg_tup (tgs_cons (tg_name (i := 1) (by decide)) (tgs_cons (tg_name (i := 2) (by decide)) (tgs_cons (tg_name (i := 3) (by decide)) (tgs_nil) (mon_name (i := 3))) (mon_name (i := 2))) (mon_name (i := 1))))) (pds_cons (pds_set (i := 4) sc_L_program_text.nd rfl (.inr rfl) (pd_op op_addD opd_add (pd_var 1) (pd_lc (own := [("_law_name", 9)]) rfl sc_L_program_text.nd (pdi_list (pd_var 1)) (blkOk_by (own := [("_law_name", 9)]) (by kernel_rfl)) (fun _ _ _ _ _ => pg_name (i := 9) sc_L_program_text.nd rfl (by first | exact .inl rfl | exact .inr rfl)) (tg_name (i := 9) (by decide)) (mon_name (i := 9)) (fun _ _ _ _ _ => pdts_nil) (fun _ _ _ _ _ => pd_op op_addD opd_add (pd_var 9) (pd_str))))) (pds_cons (pds_set (i := 5) sc_L_program_text.nd rfl (.inl rfl) (pd_lstM (pda_cons (pd_op op_addD opd_add (pd_str) (pd_m1 PySem.F.slot_str_join PySem.F.type_str_join mt_join mtd_join (pd_str) (pd_var 1))) (pda_cons (pd_op op_addD opd_add (pd_str) (pd_m1 PySem.F.slot_str_join PySem.F.type_str_join mt_join mtd_join (pd_str) (pd_var 2))) (pda_nil))))) (pds_cons (pds_for (vs := [6, 7, 8]) rfl (pdi_list (pd_var 3)) (pg_tup rfl (pgs_cons (pg_name (i := 6) sc_L_program_text.nd rfl (.inl rfl)) (pgs_cons (pg_name (i := 7) sc_L_program_text.nd rfl (.inl rfl)) (pgs_cons (pg_name (i := 8) sc_L_program_text.nd rfl (.inl rfl)) (pgs_nil))))) (tg_tup (tgs_cons (tg_name (i := 6) (by decide)) (tgs_cons (tg_name (i := 7) (by decide)) (tgs_cons (tg_name (i := 8) (by decide)) (tgs_nil) (mon_name (i := 8))) (mon_name (i := 7))) (mon_name (i := 6)))) (pds_cons (pds_expr (pd_append (pd_var 5) (pda_cons (pd_op op_addD opd_add (pd_op op_addD opd_add (pd_op op_addD opd_add (pd_str) (pd_ix ix_seq opd_ix (pd_var 2) (pd_var 6))) (pd_str)) (pd_ix ix_seq opd_ix (pd_var 2) (pd_var 7))) (pda_nil)))) (pds_one (pds_frz (i := 5) (pds_set (i := 5) sc_L_program_text.nd rfl (.inl rfl) (pd_op op_addD opd_addM (pd_var 5) (pd_lc (own := [("_law_wish", 10)]) rfl sc_L_program_text.nd (pdi_list (pd_var 8)) (blkOk_by (own := [("_law_wish", 10)]) (by kernel_rfl)) (fun _ _ _ _ _ => pg_name (i := 10) sc_L_program_text.nd rfl (by first | exact .inl rfl | exact .inr rfl)) (tg_name (i := 10) (by decide)) (mon_name (i := 10)) (fun _ _ _ _ _ => pdts_nil) (fun _ _ _ _ _ => pd_call G_L_wish_text (hr.mono (by decide)) rfl T.g_L_wish_text T.F_L_wish_text.kp T.b_L_wish_text_2 (pda_cons (pd_var 4) (pda_cons (pd_var 10) (pda_nil))))))))))) (pds_one (pds_ret (pd_m1 PySem.F.slot_str_join PySem.F.type_str_join mt_join mtd_join (pd_str) (pd_var 5))))))))
    sem_L_program_text
/-- each of these lists with one more -/
def appN : List Addr → MS → MS
  | [], m => m
  | a :: r, m => appN r (put m a ((look m a).getD [] ++ [.non]))
def sp_L_apart : FS := fun ds ms P => match ds with
  | [t] => ∃ (g : Pg) (L ms0 : MS) (n p q : Addr) (xs : List LR) (B : Nat), ms = L ++ ms0 ∧ PgL g t L n p q xs ∧ Frsh L ms0 ∧ PgOk B g ∧ ∀ M, flatM M → Frsh M ms0 → P (.bl true) (M ++ ms0)
  | _ => False
theorem len_L_apart : ∀ ds ms Q, sp_L_apart ds ms Q → ds.length = 1 := fun ds ms Q h => by
  unfold sp_L_apart at h
  split at h <;> first | rfl | exact h.elim
def t_L_apart_c1 : DTS := dSeq (dFrzS 1 (dAsg (dCB cSum (aCons (dLc (iSeq (dVar 1)) (sName 3) (dYes) (dCB cLen (aCons (dVar 3) (aNil))) [3]) (aNil))) (sName 4))) (dSeq (dFor (iEnumD (aCons (dVar 1) (aNil))) (sTup 2 (sCons (sName 5) (sCons (sName 3) (sNil)))) (dSeq (dDrop (dAppend (dVar 3) (aCons (dC .non) (aNil)))) (dIfS (dTest (dOp fNe (dCB cSum (aCons (dLc (iSeq (dVar 1)) (sName 8) (dYes) (dCB cLen (aCons (dVar 8) (aNil))) [8]) (aNil))) (dOp fAdd (dOp fAdd (dVar 4) (dVar 5)) (dC (.int 1))))) (dRet (dC (.bl false))) (dNext)))) (dRet (dC (.bl true))))
def t_L_apart : DTS := dSeq (dAsg (dCB cListM (aCons (dVar 0) (aNil))) (sName 1)) (dSeq (dForE (dOp fIx (dVar 0) (dC (.int 2))) (sName 2) (dSeq (dDrop (dAppend (dVar 1) (aCons (dOp fIx (dVar 2) (dC (.int 2))) (aNil)))) (dFrzS 1 (dAsg (dOp fAddM (dVar 1) (dLcE (dOp fIx (dVar 2) (dC (.int 2))) (sTup 2 (sCons (sName 6) (sCons (sName 7) (sNil)))) (dYes) (dVar 7) [6, 7])) (sName 1))))) (t_L_apart_c1))
theorem loop_lV {α : Type} {g : DG} {tb : DTS} {E : EN} (e : α → D) (all : List α) (I : List α → DS → MS → Prop) : ∀ (xs pre : List α) (ds : DS) (ms : MS), pre ++ xs = all → I pre ds ms →
    (∀ pre x rest ds ms, pre ++ x :: rest = all → I pre ds ms → ∀ N : DS → MS → Prop, (∀ ds' ms', I (pre ++ [x]) ds' ms' → N ds' ms') → g (e x) ds fun ds1 => tb (EN.lp E N) ds1 ms) →
    (∀ ds ms, I all ds ms → E.nx ds ms) → loopD g tb E (xs.map e) ds ms
  | [], pre, ds, ms, ha, h, _, q => q ds ms (by rw [List.append_nil] at ha; rw [← ha]; exact h)
  | x :: r, pre, ds, ms, ha, h, t, q => t pre x r ds ms ha h _ fun ds' ms' h' => loop_lV e all I r (pre ++ [x]) ds' ms' (by rw [List.append_assoc]; exact ha) h' t q
theorem frsh_iff : ∀ {L ms : MS}, Frsh L ms ↔ (L.map (·.1)).Nodup ∧ ∀ q ∈ L, ∀ e ∈ ms, e.1 ≠ q.1
  | [], ms => ⟨fun _ => ⟨List.nodup_nil, fun q h => by cases h⟩, fun _ => trivial⟩
  | q :: L, ms => by
    refine ⟨fun h => ⟨frsh_nd h, frsh_off h⟩, fun ⟨h1, h2⟩ => ?_⟩
    rw [List.map_cons, List.nodup_cons] at h1
    refine ⟨fun e he z => ?_, frsh_iff.mpr ⟨h1.2, fun r hr => h2 r (List.mem_cons_of_mem _ hr)⟩⟩
    rcases List.mem_append.mp he with he | he
    · exact h1.1 (by rw [← z]; exact List.mem_map_of_mem he)
    · exact h2 q List.mem_cons_self e he z
theorem frsh_perm {L M ms : MS} (p : L.Perm M) (h : Frsh L ms) : Frsh M ms := by
  obtain ⟨h1, h2⟩ := frsh_iff.mp h
  exact frsh_iff.mpr ⟨(p.map _).nodup_iff.mp h1, fun q hq => h2 q (p.mem_iff.mpr hq)⟩
theorem drp_in {a : Addr} {ys : List D} : ∀ {L ms : MS}, Frsh L ms → (a, ys) ∈ L → ∃ L', drp (L ++ ms) a = L' ++ ms ∧ ((a, ys) :: L').Perm L
  | [], _, _, h => by cases h
  | (b, zs) :: L, ms, ⟨h1, h2⟩, h => by
    by_cases e : b = a
    · subst e
      rcases List.mem_cons.mp h with z | h
      · cases z
        exact ⟨L, by show drp ((b, ys) :: (L ++ ms)) b = _; unfold drp; rw [if_pos rfl], .refl _⟩
      · exact absurd rfl (h1 (b, ys) (List.mem_append_left _ h))
    · rcases List.mem_cons.mp h with z | h
      · cases z; exact absurd rfl e
      · obtain ⟨L', e1, e2⟩ := drp_in h2 h
        refine ⟨(b, zs) :: L', ?_, (List.Perm.swap _ _ _).trans (e2.cons _)⟩
        show drp ((b, zs) :: (L ++ ms)) a = _
        conv => lhs; unfold drp
        rw [if_neg e, e1]; rfl
theorem app_part : ∀ {as : List Addr} {M ms : MS}, (∀ a ∈ as, a ∈ M.map (·.1)) → Frsh M ms → flatM M → ∃ M', appN as (M ++ ms) = M' ++ ms ∧ Frsh M' ms ∧ flatM M'
  | [], M, ms, _, h, k => ⟨M, rfl, h, k⟩
  | a :: r, M, ms, ha, h, k => by
    have hm := ha a List.mem_cons_self
    obtain ⟨e, he, ea⟩ := List.mem_map.mp hm
    have lk : look (M ++ ms) a = some e.2 := look_in h (by rw [← ea]; exact he)
    have fl : flats (e.2 ++ [.non]) = true := flats_app (k e he) rfl
    obtain ⟨M', e1, e2, e3⟩ := app_part (as := r) (M := put M a (e.2 ++ [.non])) (ms := ms) (fun b hb => by rw [put_adr]; exact ha b (List.mem_cons_of_mem _ hb)) (frsh_map (put_adr a _ M) h) (put_flat k fl)
    refine ⟨M', ?_, e2, e3⟩
    show appN r (put (M ++ ms) a ((look (M ++ ms) a).getD [] ++ [.non])) = _
    rw [lk]
    show appN r (put (M ++ ms) a (e.2 ++ [.non])) = _
    rw [put_app hm]
    exact e1
theorem appN_snoc (a : Addr) : ∀ (as : List Addr) (m : MS), appN (as ++ [a]) m = put (appN as m) a ((look (appN as m) a).getD [] ++ [.non])
  | [], _ => rfl
  | b :: r, m => appN_snoc a r _
theorem appN_off {b : Addr} : ∀ {as : List Addr} {m : MS}, b ∉ as → look (appN as m) b = look m b
  | [], _, _ => rfl
  | a :: r, m, h => by
    show look (appN r _) b = _
    rw [appN_off fun z => h (List.mem_cons_of_mem _ z), look_put_ne fun z => h (by rw [z]; exact List.mem_cons_self)]
theorem appN_in {b : Addr} {ys : List D} : ∀ {as : List Addr} {m : MS}, as.Nodup → b ∈ as → look m b = some ys → look (appN as m) b = some (ys ++ [.non])
  | [], _, _, h, _ => by cases h
  | a :: r, m, nd, h, e => by
    obtain ⟨n1, n2⟩ := List.nodup_cons.mp nd
    show look (appN r _) b = _
    by_cases z : a = b
    · subst z
      rw [appN_off n1, look_put_same e, e]; rfl
    · rcases List.mem_cons.mp h with y | h
      · exact absurd y.symm z
      · exact appN_in n2 h (by rw [look_put_ne z]; exact e)
def lenA (m : MS) (a : Addr) : Int := (((look m a).getD []).length : Nat)
theorem sum_more {m m' : MS} {as : List Addr} (f : Addr → Int) (h : ∀ a ∈ as, lenA m' a = lenA m a + f a) : ((as.map fun a => lenA m' a)).sum = ((as.map fun a => lenA m a)).sum + (as.map f).sum := by
  induction as with
  | nil => rfl
  | cons a r ih =>
    rw [List.map_cons, List.map_cons, List.map_cons, List.sum_cons, List.sum_cons, List.sum_cons, ih fun b hb => h b (List.mem_cons_of_mem _ hb), h a List.mem_cons_self]
    omega
theorem sum_pre {pre rest : List Addr} (nd : (pre ++ rest).Nodup) : (((pre ++ rest).map fun a => if a ∈ pre then (1 : Int) else 0)).sum = pre.length := by
  have h1 : ∀ a ∈ rest, a ∉ pre := fun a ha z => (List.nodup_append.mp nd).2.2 a z a ha rfl
  have e1 : (pre.map fun a => if a ∈ pre then (1 : Int) else 0) = pre.map fun _ => 1 := List.map_congr_left fun a ha => if_pos ha
  have e2 : (rest.map fun a => if a ∈ pre then (1 : Int) else 0) = rest.map fun _ => 0 := List.map_congr_left fun a ha => if_neg (h1 a ha)
  have s1 : ∀ xs : List Addr, ((xs.map fun _ => (1 : Int))).sum = xs.length := fun xs => by
    induction xs with
    | nil => rfl
    | cons x r ih => rw [List.map_cons, List.sum_cons, ih, List.length_cons]; omega
  have s2 : ∀ xs : List Addr, ((xs.map fun _ => (0 : Int))).sum = 0 := fun xs => by
    induction xs with
    | nil => rfl
    | cons x r ih => rw [List.map_cons, List.sum_cons, ih]; rfl
  rw [List.map_append, List.sum_append, e1, e2, s1, s2]; omega
theorem sum_app {m : MS} {pre rest : List Addr} (nd : (pre ++ rest).Nodup) (h : ∀ a ∈ pre ++ rest, ∃ ys, look m a = some ys) : ((pre ++ rest).map fun a => lenA (appN pre m) a).sum = ((pre ++ rest).map fun a => lenA m a).sum + pre.length := by
  rw [sum_more (m := m) (m' := appN pre m) (fun a => if a ∈ pre then 1 else 0) fun a ha => ?_, sum_pre nd]
  obtain ⟨ys, e⟩ := h a ha
  unfold lenA
  by_cases z : a ∈ pre
  · rw [appN_in (List.nodup_append.mp nd).1 z e, e, if_pos z, Option.getD_some, Option.getD_some, List.length_append, List.length_singleton]; omega
  · rw [appN_off z, e, if_neg z]; omega
theorem intsOf_map (is : List Int) : intsOf (is.map D.int) = some is := by
  induction is with
  | nil => rfl
  | cons i r ih => rw [List.map_cons]; show (intsOf (r.map D.int)).map (i :: ·) = _; rw [ih]; rfl
theorem enumD_at {α : Type} (e : α → D) (xs : List α) : enumD (xs.map e) = (xs.zipIdx).map fun p => .tup [.int (p.2 : Int), e p.1] := by
  unfold enumD rng
  refine List.ext_getElem? fun i => ?_
  rw [List.getElem?_zipWith, List.getElem?_map, List.getElem?_map, List.getElem?_map, List.getElem?_zipIdx, List.length_map]
  by_cases h : i < xs.length
  · rw [List.getElem?_range h, List.getElem?_eq_getElem h]
    show some (D.tup [.int (0 + (i : Int)), e xs[i]]) = some (.tup [.int ((0 + i : Nat) : Int), e xs[i]])
    rw [Int.zero_add, Nat.zero_add]
  · rw [List.getElem?_eq_none (by rw [List.length_range]; omega), List.getElem?_eq_none (by omega)]; rfl
theorem zipIdx_split {α : Type} {xs : List α} {pre rest : List (α × Nat)} {x : α × Nat} (h : pre ++ x :: rest = xs.zipIdx) : x.2 = pre.length ∧ xs = pre.map (·.1) ++ x.1 :: rest.map (·.1) := by
  have e1 : (xs.zipIdx).map (·.1) = xs := List.zipIdx_map_fst ..
  have e2 : (xs.zipIdx)[pre.length]? = some x := by rw [← h, List.getElem?_append_right (Nat.le_refl _), Nat.sub_self]; rfl
  refine ⟨?_, ?_⟩
  · rw [List.getElem?_zipIdx] at e2
    cases e3 : xs[pre.length]? with
    | none => rw [e3] at e2; cases e2
    | some y => rw [e3] at e2; cases e2; show 0 + pre.length = _; omega
  · rw [← e1, ← h, List.map_append, List.map_cons]
theorem ne_selfI (z : Int) : (!(z == z)) = false := by simp
/-- the second half of apart: each of these lists with one more -/
theorem apart_rest {Q : D → MS → Prop} {as : List Addr} {m : MS} {x0 x2 x3 x4 x5 x6 x7 x8 : Option D} (nd : as.Nodup) (hl : as.length ≤ 1000) (hy : ∀ a ∈ as, ∃ ys, look m a = some ys ∧ ys.length ≤ 1000) (h : Q (.bl true) (appN as m)) {s : Addr} {ms : MS} (lk : look ms s = some (as.map fun a => D.opq (.ref a))) (dr : drp ms s = m) :
    t_L_apart_c1 { nx := fun _ m => Q .non m, rt := Q } [x0, some (.opq (.ref s)), x2, x3, x4, x5, x6, x7, x8] ms := by
  unfold t_L_apart_c1
  refine w_seq ?_
  refine StG.out (w_frzS rfl lk rfl dr ?_)
  walk_at "st"
  simp only [wipeD, List.set]
  have le : ∀ a ∈ as, ∃ ys, look m a = some ys := fun a ha => (hy a ha).elim fun ys h => ⟨ys, h.1⟩
  refine comp_e (fun a => D.opq (.ref a)) (fun a => D.int (lenA m a)) as [] _ (by rw [List.length_nil]; omega) (fun a ha P0 q => ?_) ?_
  · obtain ⟨ys, e, _⟩ := hy a ha
    walk_at "st"
    refine CbG.out (w_len_o e ?_)
    have : lenA m a = (ys.length : Int) := by unfold lenA; rw [e]; rfl
    rw [this] at q
    exact q
  rw [List.nil_append, show (as.map fun a => D.int (lenA m a)) = (as.map fun a => lenA m a).map D.int by rw [List.map_map]; rfl]
  walk_at "st"
  refine w_sum (intsOf_map _) ?_
  walk_at "st"
  rw [enumD_at]
  refine loop_lV (fun p : Addr × Nat => D.tup [.int (p.2 : Int), .opq (.ref p.1)]) as.zipIdx (fun pre ds m' => m' = appN (pre.map (·.1)) m ∧ ∃ x2 x3 x5 x6 x7 x8, ds = [x0, some (.lst (as.map fun a => D.opq (.ref a))), x2, x3, some (.int (as.map fun a => lenA m a).sum), x5, x6, x7, x8]) as.zipIdx [] _ _ rfl ⟨rfl, _, _, _, _, _, _, rfl⟩ ?_ ?_
  · rintro pre ⟨a, i⟩ rest ds m' hsplit ⟨rfl, y2, y3, y5, y6, y7, y8, rfl⟩ N hN
    obtain ⟨rfl, ea⟩ := zipIdx_split hsplit
    dsimp only at ea ⊢
    have hin : a ∈ as := by rw [ea]; simp
    have ea2 : as = (pre ++ [(a, pre.length)]).map (·.1) ++ rest.map (·.1) := by rw [List.map_append, List.append_assoc]; exact ea
    have hn : a ∉ pre.map (·.1) := fun z => by
      rw [ea] at nd
      exact (List.nodup_append.mp nd).2.2 a z a List.mem_cons_self rfl
    obtain ⟨ys, e, l⟩ := hy a hin
    have e2 : look (appN (pre.map (·.1)) m) a = some ys := by rw [appN_off hn]; exact e
    walk_at "st"
    refine ⟨Nat.lt_of_lt_of_le (by omega : ys.length < 2000) (by decide), ?_⟩
    walk_at "st"
    have em : put (appN (pre.map (·.1)) m) a (ys ++ [.non]) = appN ((pre ++ [(a, pre.length)]).map (·.1)) m := by
      rw [List.map_append, List.map_singleton, appN_snoc, e2]; rfl
    rw [em]
    have lk3 : ∀ b ∈ as, ∃ zs, look (appN ((pre ++ [(a, pre.length)]).map (·.1)) m) b = some zs := fun b hb => by
      obtain ⟨zs, ez⟩ := le b hb
      by_cases hz : b ∈ (pre ++ [(a, pre.length)]).map (·.1)
      · exact ⟨_, appN_in (by rw [ea2] at nd; exact (List.nodup_append.mp nd).1) hz ez⟩
      · exact ⟨_, (appN_off hz).trans ez⟩
    simp only [wipeD, List.set]
    refine comp_e (fun a => D.opq (.ref a)) (fun b => D.int (lenA (appN ((pre ++ [(a, pre.length)]).map (·.1)) m) b)) as [] _ (by rw [List.length_nil]; omega) (fun b hb P0 q => ?_) ?_
    · obtain ⟨zs, ez⟩ := lk3 b hb
      walk_at "st"
      refine CbG.out (w_len_o ez ?_)
      have : lenA (appN ((pre ++ [(a, pre.length)]).map (·.1)) m) b = (zs.length : Int) := by unfold lenA; rw [ez]; rfl
      rw [this] at q
      exact q
    rw [List.nil_append, show (as.map fun b => D.int (lenA (appN ((pre ++ [(a, pre.length)]).map (·.1)) m) b)) = (as.map fun b => lenA (appN ((pre ++ [(a, pre.length)]).map (·.1)) m) b).map D.int by rw [List.map_map]; rfl]
    walk_at "st"
    refine w_sum (intsOf_map _) ?_
    walk_at "st"
    have es : (as.map fun b => lenA (appN ((pre ++ [(a, pre.length)]).map (·.1)) m) b).sum = (as.map fun a => lenA m a).sum + (pre.length : Int) + 1 := by
      have := sum_app (m := m) (pre := (pre ++ [(a, pre.length)]).map (·.1)) (rest := rest.map (·.1)) (by rw [← ea2]; exact nd) (by rw [← ea2]; exact le)
      rw [← ea2] at this
      rw [this, List.length_map, List.length_append, List.length_singleton]
      omega
    rw [es]
    rw [ne_selfI]
    walk_at "st"
    exact hN _ _ ⟨rfl, _, _, _, _, _, _, rfl⟩
  · rintro ds m' ⟨rfl, y2, y3, y5, y6, y7, y8, rfl⟩
    walk_at "st"
    rw [List.zipIdx_map_fst]
    exact h
theorem sem_L_apart : ∀ ds ms Q, sp_L_apart ds ms Q → t_L_apart { nx := fun _ m => Q .non m, rt := Q } (startD 9 ds) ms := by
  intro ds ms Q h
  unfold sp_L_apart at h
  split at h
  · obtain ⟨g, L, ms0, n, p, q, xs, B, rfl, pg, fr0, ok, h⟩ := h
    have xl : xs.length ≤ 10 := by have := congrArg List.length pg.rs; rw [List.length_map] at this; have := ok.rl; omega
    have bl : ∀ x ∈ xs, x.bs.length ≤ 12 := fun x hx => by
      have := (ok.ro x.rw (by rw [← pg.rs]; exact List.mem_map_of_mem hx)).wl
      unfold LR.rw at this
      rwa [List.length_map] at this
    obtain ⟨Lq, eq1, pq⟩ := drp_in fr0 pg.mq
    simp only [startD]
    rw [pg.is]
    unfold t_L_apart
    walk_at "st"
    intro s hs
    walk_at "st"
    refine (show dForE _ _ _ _ _ _ from w_forE ?_)
    walk_at "st"
    have qs : q ≠ s := fun z => hs (q, xs.map lrD) (List.mem_append_left _ pg.mq) z
    refine w_mForE (xs := xs.map lrD) (m' := (s, [D.opq (.ref n), .opq (.ref p), .opq (.ref q)]) :: (Lq ++ ms0)) ?_ ?_ ?_
    · show (if s = q then _ else look (L ++ ms0) q) = _
      rw [if_neg qs.symm]; exact look_in fr0 pg.mq
    · conv => lhs; unfold drp
      rw [if_neg qs.symm, eq1]
    have frq : Frsh Lq ms0 := (frsh_perm pq.symm fr0).2
    have inq : ∀ e ∈ L, e.1 ≠ q → e ∈ Lq := fun e he hne => by
      rcases List.mem_cons.mp (pq.mem_iff.mpr he) with z | z
      · rw [z] at hne; exact absurd rfl hne
      · exact z
    have nd := pg.nd
    have rowIn : ∀ x ∈ xs, (x.a, x.bs.map lwD) ∈ Lq := fun x hx => inq _ (pg.mr x hx _ List.mem_cons_self) fun z => by
      have z : x.a = q := z
      have nd2 := (List.nodup_cons.mp (List.nodup_cons.mp (List.nodup_cons.mp nd).2).2).1
      exact nd2 (by rw [← z]; exact List.mem_flatMap.mpr ⟨x, hx, List.mem_cons_self⟩)
    refine loop_lV lrD xs (fun pre ds m => ∃ (s' : Addr) (M : MS), m = (s', (n :: p :: q :: pre.flatMap adrs).map fun a => D.opq (.ref a)) :: (M ++ ms0) ∧ M.Perm Lq ∧ (∀ e ∈ M ++ ms0, e.1 ≠ s') ∧ ∃ x2 x3 x4 x5 x6 x7 x8, ds = [some (.tup [.opq (.ref n), .opq (.ref p), .opq (.ref q)]), some (.opq (.ref s')), x2, x3, x4, x5, x6, x7, x8]) xs [] _ _ rfl
      ⟨s, Lq, rfl, .refl _, fun e he => hs e (by
        rcases List.mem_append.mp he with he | he
        · exact List.mem_append_left _ (pq.mem_iff.mp (List.mem_cons_of_mem _ he))
        · exact List.mem_append_right _ he), _, _, _, _, _, _, _, rfl⟩ ?_ ?_
    · rintro pre x rest ds m hsplit ⟨s1, M, rfl, pM, off, y2, y3, y4, y5, y6, y7, y8, rfl⟩ N hN
      have hx : x ∈ xs := by rw [← hsplit]; simp
      have hb := bl x hx
      have frM : Frsh M ms0 := frsh_perm pM.symm frq
      have inM : (x.a, x.bs.map lwD) ∈ M := pM.mem_iff.mpr (rowIn x hx)
      obtain ⟨Mx, eM, pMx⟩ := drp_in frM inM
      have bound : (pre.flatMap adrs).length ≤ 200 := by
        have : ∀ ys : List LR, (∀ y ∈ ys, y.bs.length ≤ 12) → (ys.flatMap adrs).length ≤ 13 * ys.length := fun ys => by
          induction ys with
          | nil => exact fun _ => Nat.le_refl _
          | cons y r ih =>
            intro hy
            rw [List.flatMap_cons, List.length_append, List.length_cons]
            have := ih fun z hz => hy z (List.mem_cons_of_mem _ hz)
            have := hy y List.mem_cons_self
            have : (adrs y).length = y.bs.length + 1 := by unfold adrs; rw [List.length_cons, List.length_map]
            omega
        have h1 := this pre fun y hy => bl y (by rw [← hsplit]; exact List.mem_append_left _ hy)
        have := congrArg List.length hsplit
        rw [List.length_append] at this
        omega
      unfold lrD
      walk_at "st"
      refine ⟨Nat.lt_of_lt_of_le (show ((n :: p :: q :: pre.flatMap adrs).map fun a => D.opq (.ref a)).length < 1000 by rw [List.length_map, List.length_cons, List.length_cons, List.length_cons]; omega) (by decide), ?_⟩
      walk_at "st"
      refine (show dLcE _ _ _ _ _ _ _ _ from w_lcE ?_)
      walk_at "st"
      refine w_mLcE (look_in frM inM) eM ?_
      simp only [wipeD, List.set]
      refine comp_e lwD (fun b => D.opq (.ref b.a)) x.bs [] _ (by rw [List.length_nil]; omega) (fun b hb P0 q0 => ?_) ?_
      · unfold lwD
        walk_at "st"
        exact q0
      rw [List.nil_append]
      intro _
      walk_at "st"
      refine ⟨size_ok (by rw [List.length_append, List.length_map, List.length_map, List.length_cons, List.length_cons, List.length_cons, List.length_singleton]; omega), fun s2 hs2 => ?_⟩
      walk_at "st"
      refine hN _ _ ⟨s2, (x.a, x.bs.map lwD) :: Mx, ?_, pMx.trans pM, fun e he => hs2 e he, _, _, _, _, _, _, _, rfl⟩
      rw [List.flatMap_append, List.flatMap_singleton]
      show (s2, _) :: _ = (s2, _) :: _
      rw [show (n :: p :: q :: (pre.flatMap adrs ++ adrs x)) = (n :: p :: q :: pre.flatMap adrs) ++ [x.a] ++ x.bs.map LW.a by unfold adrs; simp, List.map_append, List.map_append, List.map_map]
      rfl
    · rintro ds m ⟨s1, M, rfl, pM, off, y2, y3, y4, y5, y6, y7, y8, rfl⟩
      change (∀ e ∈ ((s1, (n :: p :: q :: xs.flatMap adrs).map fun a => D.opq (.ref a)) :: (M ++ ms0) : MS), e.1 ≠ q) → NxG (EN.wn { nx := fun _ m => Q .non m, rt := Q } (StG t_L_apart_c1 { nx := fun _ m => Q .non m, rt := Q })) _ ((q, xs.map lrD) :: (s1, _) :: (M ++ ms0))
      intro off2
      have sq : s1 ≠ q := off2 _ List.mem_cons_self
      have pL : ((q, xs.map lrD) :: M).Perm L := (pM.cons _).trans pq
      have frL : Frsh ((q, xs.map lrD) :: M) ms0 := frsh_perm pL.symm fr0
      have flL : flatM ((q, xs.map lrD) :: M) := fun e he => pg.fl e (pL.mem_iff.mp he)
      have memL : ∀ a ∈ n :: p :: q :: xs.flatMap adrs, ∃ ys, (a, ys) ∈ L ∧ ys.length ≤ 1000 := fun a ha => by
        simp only [List.mem_cons] at ha
        rcases ha with rfl | rfl | rfl | ha
        · exact ⟨_, pg.mn, by rw [List.length_map]; have := ok.nm.l2; omega⟩
        · exact ⟨_, pg.mp, by rw [List.length_map]; have := ok.pm.l2; omega⟩
        · exact ⟨_, pg.mq, by rw [List.length_map]; omega⟩
        · obtain ⟨x, hx, ha⟩ := List.mem_flatMap.mp ha
          have hb := bl x hx
          unfold adrs at ha
          rcases List.mem_cons.mp ha with rfl | ha
          · exact ⟨_, pg.mr x hx _ List.mem_cons_self, by rw [List.length_map]; omega⟩
          · obtain ⟨w, hw, rfl⟩ := List.mem_map.mp ha
            refine ⟨_, pg.mr x hx (lwM w) (List.mem_cons_of_mem _ (List.mem_reverse.mpr (List.mem_map_of_mem hw))), ?_⟩
            have := ((ok.ro x.rw (by rw [← pg.rs]; exact List.mem_map_of_mem hx)).wo w.w (List.mem_map_of_mem hw)).ln
            have := ok.nm.l2
            rw [List.length_map]
            show w.w.fs.length + 1 ≤ 1000
            omega
      obtain ⟨M', e1, f1, fl1⟩ := app_part (as := n :: p :: q :: xs.flatMap adrs) (M := (q, xs.map lrD) :: M) (ms := ms0) (fun a ha => by
        obtain ⟨ys, h, _⟩ := memL a ha
        exact List.mem_map_of_mem (f := (·.1)) (pL.mem_iff.mpr h)) frL flL
      have bound : (xs.flatMap adrs).length ≤ 200 := by
        have : ∀ ys : List LR, (∀ y ∈ ys, y.bs.length ≤ 12) → (ys.flatMap adrs).length ≤ 13 * ys.length := fun ys => by
          induction ys with
          | nil => exact fun _ => Nat.le_refl _
          | cons y r ih =>
            intro hy
            rw [List.flatMap_cons, List.length_append, List.length_cons]
            have := ih fun z hz => hy z (List.mem_cons_of_mem _ hz)
            have := hy y List.mem_cons_self
            have : (adrs y).length = y.bs.length + 1 := by unfold adrs; rw [List.length_cons, List.length_map]
            omega
        have := this xs bl
        omega
      walk_at "s1"
      refine apart_rest (as := n :: p :: q :: xs.flatMap adrs) (m := ((q, xs.map lrD) :: M) ++ ms0) (s := s1) pg.nd (by rw [List.length_cons, List.length_cons, List.length_cons]; omega) (fun a ha => ?_) ?_ ?_ ?_
      · obtain ⟨ys, h, l⟩ := memL a ha
        exact ⟨ys, look_in frL (pL.mem_iff.mpr h), l⟩
      · rw [e1]; exact h M' fl1 f1
      · show (if q = s1 then _ else (if s1 = s1 then _ else _)) = _
        rw [if_neg sq.symm, if_pos rfl]
      · conv => lhs; unfold drp; unfold drp
        rw [if_neg sq.symm, if_pos rfl]
        rfl
  · exact h.elim
theorem ok_L_apart (T : Tx P K mg) : FnG P w K mg base 1 T.f_L_apart T.d_L_apart ["_law_told"] (spD K sp_L_apart) := by
  exact fnG_of (k := 0) (t := t_L_apart) T.F_L_apart sc_L_apart len_L_apart
    (fun cdv A outer s H hr => pds_cons (pds_set (i := 1) sc_L_apart.nd rfl (.inl rfl) (pd_callTy call_list_of cal_listM rfl T.n_list (by decide +kernel) (pda_cons (pd_var 0) (pda_nil)))) (pds_cons (pds_forE (us := [2]) rfl (pd_ix ix_seq opd_ix (pd_var 0) (pd_int)) (pg_name (i := 2) sc_L_apart.nd rfl (.inl rfl)) (tg_name (i := 2) (by decide)) (pds_cons (pds_expr (pd_append (pd_var 1) (pda_cons (pd_ix ix_seq opd_ix (pd_var 2) (pd_int)) (pda_nil)))) (pds_one (pds_frz (i := 1) (pds_set (i := 1) sc_L_apart.nd rfl (.inl rfl) (pd_op op_addD opd_addM (pd_var 1) (pd_lcE (own := [("_law_word", 6), ("_law_line_here", 7)]) rfl sc_L_apart.nd (pd_ix ix_seq opd_ix (pd_var 2) (pd_int)) (blkOk_by (own := [("_law_word", 6), ("_law_line_here", 7)]) (by kernel_rfl)) (fun _ _ _ _ _ => pg_tup rfl (pgs_cons (pg_name (i := 6) sc_L_apart.nd rfl (by first | exact .inl rfl | exact .inr rfl)) (pgs_cons (pg_name (i := 7) sc_L_apart.nd rfl (by first | exact .inl rfl | exact .inr rfl)) (pgs_nil)))) (tg_tup (tgs_cons (tg_name (i := 6) (by decide)) (tgs_cons (tg_name (i := 7) (by decide)) (tgs_nil) (mon_name (i := 7))) (mon_name (i := 6)))) (mon_tup (mon_cons (mon_name (i := 6)) (mon_cons (mon_name (i := 7)) (mon_nil)))) (fun _ _ _ _ _ => pdts_nil) (fun _ _ _ _ _ => pd_var 7)))))))) (pds_cons (pds_frz (i := 1) (pds_set (i := 4) sc_L_apart.nd rfl (.inl rfl) (pd_callB (cr_sum rfl) cal_sum rfl T.n_sum (by decide +kernel) (pda_cons (pd_lc (own := [("_law_one", 3)]) rfl sc_L_apart.nd (pdi_list (pd_var 1)) (blkOk_by (own := [("_law_one", 3)]) (by kernel_rfl)) (fun _ _ _ _ _ => pg_name (i := 3) sc_L_apart.nd rfl (by first | exact .inl rfl | exact .inr rfl)) (tg_name (i := 3) (by decide)) (mon_name (i := 3)) (fun _ _ _ _ _ => pdts_nil) (fun _ _ _ _ _ => pd_callB call_len cal_len rfl T.n_len (by decide +kernel) (pda_cons (pd_var 3) (pda_nil)))) (pda_nil))))) (pds_cons (pds_for (vs := [5, 3]) rfl (pdi_enum rfl T.n_enumerate (pda_cons (pd_var 1) (pda_nil))) (pg_tup rfl (pgs_cons (pg_name (i := 5) sc_L_apart.nd rfl (.inl rfl)) (pgs_cons (pg_name (i := 3) sc_L_apart.nd rfl (.inl rfl)) (pgs_nil)))) (tg_tup (tgs_cons (tg_name (i := 5) (by decide)) (tgs_cons (tg_name (i := 3) (by decide)) (tgs_nil) (mon_name (i := 3))) (mon_name (i := 5)))) (pds_cons (pds_expr (pd_append (pd_var 3) (pda_cons (pd_non) (pda_nil)))) (pds_one (pds_if (pdt_cmp (op_neF hr.r.units) opd_ne (pd_callB (cr_sum rfl) cal_sum rfl T.n_sum (by decide +kernel) (pda_cons (pd_lc (own := [("_law_each", 8)]) rfl sc_L_apart.nd (pdi_list (pd_var 1)) (blkOk_by (own := [("_law_each", 8)]) (by kernel_rfl)) (fun _ _ _ _ _ => pg_name (i := 8) sc_L_apart.nd rfl (by first | exact .inl rfl | exact .inr rfl)) (tg_name (i := 8) (by decide)) (mon_name (i := 8)) (fun _ _ _ _ _ => pdts_nil) (fun _ _ _ _ _ => pd_callB call_len cal_len rfl T.n_len (by decide +kernel) (pda_cons (pd_var 8) (pda_nil)))) (pda_nil))) (pd_op op_addD opd_add (pd_op op_addD opd_add (pd_var 4) (pd_var 5)) (pd_int))) (pds_one (pds_ret (pd_bl))) (pds_nil))))) (pds_one (pds_ret (pd_bl)))))))
    sem_L_apart
/-- a program told anew, seen as it is -/
theorem vw_pg {g : Pg} {t : D} {L : MS} {n p q : Addr} {xs : List LR} (h : PgL g t L n p q xs) : Vw L t (pgD g) := by
  have wl : ∀ bs : List LW, (∀ b ∈ bs, lwM b ∈ L) → VwS L (bs.map lwD) ((bs.map LW.w).map wiD) := fun bs => by
    induction bs with
    | nil => exact fun _ => .nil
    | cons b r ih =>
      intro hb
      exact .cons (.tup (.cons .same (.cons (.lst (hb b List.mem_cons_self) (VwS.same _)) .nil))) (ih fun c hc => hb c (List.mem_cons_of_mem _ hc))
  have rl : ∀ ys : List LR, (∀ x ∈ ys, ∀ e ∈ wsM x.a x.bs, e ∈ L) → VwS L (ys.map lrD) ((ys.map LR.rw).map rwD) := fun ys => by
    induction ys with
    | nil => exact fun _ => .nil
    | cons y r ih =>
      intro hy
      refine .cons (.tup (.cons .same (.cons .same (.cons (.lst (hy y List.mem_cons_self _ List.mem_cons_self) (wl y.bs fun b hb => hy y List.mem_cons_self _ (List.mem_cons_of_mem _ (List.mem_reverse.mpr (List.mem_map_of_mem hb))))) .nil)))) (ih fun c hc => hy c (List.mem_cons_of_mem _ hc))
  rw [h.is]
  refine .tup (.cons (.lst h.mn (VwS.same _)) (.cons (.lst h.mp (VwS.same _)) (.cons (.lst h.mq ?_) .nil)))
  rw [← h.rs]
  exact rl xs h.mr
theorem shw_pg {B : Nat} {g : Pg} (h : PgOk B g) (hB : B ≤ 1900 := by decide) : Shw (pgD g) := (gd_pg h hB).sd.shw
def sp_L_right : FS := fun ds ms P => match ds with
  | [d] => ∃ (g : Pg) (B : Nat), d = pgD g ∧ PgOk B g ∧ B ≤ 900 ∧ flatM ms ∧ ∀ M, flatM M → Frsh M ms → P (.bl true) (M ++ ms)
  | _ => False
theorem len_L_right : ∀ ds ms Q, sp_L_right ds ms Q → ds.length = 1 := fun ds ms Q h => by
  unfold sp_L_right at h
  split at h <;> first | rfl | exact h.elim
def t_L_right : DTS := dSeq (dAsg (dCall 1 0 [0] sp_L_program_text (aCons (dVar 0) (aNil)) (aNil)) (sName 1)) (dSeq (dAsg (dCB cRepr (aCons (dVar 0) (aNil))) (sName 2)) (dSeq (dAsg (dCall 1 0 [0] sp_p_shown_program (aCons (dVar 0) (aNil)) (aNil)) (sName 3)) (dSeq (dIfS (dOr (dNot (dTest (dIsi .str (dVar 3)))) (dOr (dTest (dOp fNe (dVar 3) (dVar 1))) (dTest (dOp fNe (dCB cRepr (aCons (dVar 0) (aNil))) (dVar 2))))) (dRet (dC (.bl false))) (dNext)) (dSeq (dFor (iRange1 (aCons (dC (.int 2)) (aNil))) (sName 4) (dSeq (dAsg (dCall 1 0 [0] sp_p_read_program (aCons (dVar 1) (aNil)) (aNil)) (sName 5)) (dSeq (dIfS (dTest (dView 5 (dOp fNe (dCB cRepr (aCons (dVar 5) (aNil))) (dVar 2)))) (dRet (dC (.bl false))) (dNext)) (dIfS (dNot (dTest (dCall 1 0 [0] sp_L_apart (aCons (dVar 5) (aNil)) (aNil)))) (dRet (dC (.bl false))) (dNext))))) (dRet (dAndV (dOp fEq (dCB cRepr (aCons (dViewE (dCall 0 1 [0] sp_p_read_program (aNil) (aCons (dVar 1) (aNil)))) (aNil))) (dVar 2)) (dOp fEq (dCall 0 1 [0] sp_p_shown_program (aNil) (aCons (dVar 0) (aNil))) (dVar 1))))))))
theorem sem_L_right : ∀ ds ms Q, sp_L_right ds ms Q → t_L_right { nx := fun _ m => Q .non m, rt := Q } (startD 6 ds) ms := by
  intro ds ms Q h
  unfold sp_L_right at h
  split at h
  · rename_i d
    obtain ⟨g, B, rfl, ok, hB, fm, h⟩ := h
    have sh : Shw (pgD g) := shw_pg ok (by omega)
    simp only [startD]
    unfold t_L_right
    walk_at "st"
    refine ⟨g, B, rfl, ok, by omega, fun M1 f1 r1 => ?_⟩
    walk_at "st"
    refine ⟨sh, ?_⟩
    walk_at "st"
    refine ⟨g, B, rfl, ok, by omega, fun M2 f2 r2 => ?_⟩
    walk_at "st"
    rw [if_neg (by simp)]
    refine (show TsG _ _ _ _ from ?_)
    walk_at "st"
    refine ⟨sh, ?_⟩
    walk_at "st"
    rw [if_neg (by simp)]
    have f3 : flatM (M2 ++ M1) := flatM_app f2 f1
    have r3 : Frsh (M2 ++ M1) ms := frsh_app r2 r1
    rw [show M2 ++ (M1 ++ ms) = (M2 ++ M1) ++ ms from (List.append_assoc ..).symm]
    generalize M2 ++ M1 = M at f3 r3
    walk_at "st"
    refine loop_inv (fun ds m => (∃ M, m = M ++ ms ∧ flatM M ∧ Frsh M ms) ∧ ∃ x4 x5, ds = [some (pgD g), some (.str (S (textG g))), some (.str (repS (pgD g))), some (.str (S (textG g))), x4, x5]) _ _ _ ⟨⟨M, rfl, f3, r3⟩, _, _, rfl⟩ ?_ ?_
    · rintro x hx ds m ⟨⟨M, rfl, fM, rM⟩, y4, y5, rfl⟩ G hG
      walk_at "st"
      refine ⟨g, B, rfl, ok, hB, flatM_app fM fm, fun t L n p q xs pg fr0 => ?_⟩
      walk_at "st"
      refine ExG.out (w_view L (M ++ ms) rfl rfl (vw_pg pg) rfl ?_)
      walk_at "st"
      refine ⟨sh, ?_⟩
      walk_at "st"
      refine ⟨by rfl, flatM_app fM fm, ?_⟩
      (first | rw [ne_selfS] | rw [ne_selfT] | skip)
      walk_at "st"
      refine ⟨g, L, M ++ ms, n, p, q, xs, B, rfl, pg, fr0, ok, fun M2 f2 r2 => ?_⟩
      walk_at "st"
      exact hG _ _ ⟨⟨M2 ++ M, (List.append_assoc ..).symm, flatM_app f2 fM, frsh_app r2 rM⟩, _, _, rfl⟩
    · rintro ds m ⟨⟨M, rfl, fM, rM⟩, y4, y5, rfl⟩
      walk_at "st"
      refine ExG.out (w_viewE ?_)
      walk_at "st"
      refine ⟨g, B, rfl, ok, hB, flatM_app fM fm, fun t L n p q xs pg fr0 => ?_⟩
      refine ⟨L, M ++ ms, _, rfl, vw_pg pg, ?_⟩
      walk_at "st"
      refine ⟨sh, ?_⟩
      walk_at "st"
      rw [show (repS (pgD g) == repS (pgD g)) = true from beq_self_eq_true _]
      walk_at "st"
      refine ⟨g, B, rfl, ok, by omega, fun M2 f2 r2 => ?_⟩
      walk_at "st"
      rw [show (S (textG g) == S (textG g)) = true from beq_self_eq_true _, show M2 ++ (M ++ ms) = (M2 ++ M) ++ ms from (List.append_assoc ..).symm]
      exact h _ (flatM_app f2 fM) (frsh_app r2 rM)
  · exact h.elim
theorem ok_L_right (T : Tx P K mg) : FnG P w K mg base 10 T.f_L_right T.d_L_right ["_law_own"] (spD K sp_L_right) := by
  have G_L_program_text := ok_L_program_text (P := P) (w := w) (base := base) T
  have G_p_shown_program := ok_p_shown_program (P := P) (w := w) (base := base) T
  have G_p_read_program := ok_p_read_program (P := P) (w := w) (base := base) T
  have G_L_apart := ok_L_apart (P := P) (w := w) (base := base) T
  exact fnG_of (k := 9) (t := t_L_right) T.F_L_right sc_L_right len_L_right
    (fun cdv A outer s H hr => pds_cons (pds_set (i := 1) sc_L_right.nd rfl (.inl rfl) (pd_call G_L_program_text (hr.mono (by decide)) rfl T.g_L_program_text T.F_L_program_text.kp T.b_L_program_text_1 (pda_cons (pd_var 0) (pda_nil)))) (pds_cons (pds_set (i := 2) sc_L_right.nd rfl (.inl rfl) (pd_callB (call_reprD hr) cal_repr rfl T.n_repr (by decide +kernel) (pda_cons (pd_var 0) (pda_nil)))) (pds_cons (pds_set (i := 3) sc_L_right.nd rfl (.inl rfl) (pd_call G_p_shown_program (hr.mono (by decide)) rfl T.g_p_shown_program T.F_p_shown_program.kp T.b_p_shown_program_1 (pda_cons (pd_var 0) (pda_nil)))) (pds_cons (pds_if (pdt_w (pdw_or (pdt_not (pdt_val (pd_isi .str (by decide) rfl T.n_isinstance rfl T.n_str (by decide +kernel) (by decide) (by decide) (pd_var 3)))) (pdw_or (pdt_cmp (op_neF hr.r.units) opd_ne (pd_var 3) (pd_var 1)) (pdw_or1 (pdt_cmp (op_neF hr.r.units) opd_ne (pd_callB (call_reprD hr) cal_repr rfl T.n_repr (by decide +kernel) (pda_cons (pd_var 0) (pda_nil))) (pd_var 2)))))) (pds_one (pds_ret (pd_bl))) (pds_nil)) (pds_cons (pds_for (vs := [4]) rfl (pdi_range1 rfl T.n_range (pda_cons (pd_int) (pda_nil))) (pg_name (i := 4) sc_L_right.nd rfl (.inl rfl)) (tg_name (i := 4) (by decide)) (pds_cons (pds_set (i := 5) sc_L_right.nd rfl (.inl rfl) (pd_call G_p_read_program (hr.mono (by decide)) rfl T.g_p_read_program T.F_p_read_program.kp T.b_p_read_program_1 (pda_cons (pd_var 1) (pda_nil)))) (pds_cons (pds_if (pdt_cmpV (i := 5) (op_neF hr.r.units) opd_ne (pd_callB (call_reprD hr) cal_repr rfl T.n_repr (by decide +kernel) (pda_cons (pd_var 5) (pda_nil))) (pd_var 2)) (pds_one (pds_ret (pd_bl))) (pds_nil)) (pds_one (pds_if (pdt_not (pdt_val (pd_call G_L_apart (hr.mono (by decide)) rfl T.g_L_apart T.F_L_apart.kp T.b_L_apart_1 (pda_cons (pd_var 5) (pda_nil))))) (pds_one (pds_ret (pd_bl))) (pds_nil)))))) (pds_one (pds_ret (pd_and (pd_cmp (op_eqF hr.r.units) opd_eq (pd_callB (call_reprD hr) cal_repr rfl T.n_repr (by decide +kernel) (pda_cons (pd_viewE (pd_callK0 G_p_read_program (hr.mono (by decide)) rfl T.g_p_read_program T.F_p_read_program.kp T.b_p_read_program_0_text (pdk_cons (pd_var 1) (pdk_nil)))) (pda_nil))) (pd_var 2)) (pd_one (pd_cmp (op_eqF hr.r.units) opd_eq (pd_callK0 G_p_shown_program (hr.mono (by decide)) rfl T.g_p_shown_program T.F_p_shown_program.kp T.b_p_shown_program_0_program (pdk_cons (pd_var 0) (pdk_nil))) (pd_var 1)))))))))))
    sem_L_right
def nearG : Pg := ⟨["x", "xx", "yx"], ["a", "aa", "ba", "ab"], [⟨0, 1, [⟨true, 1, [-1, 0, 2, 1, 0, -3]⟩]⟩, ⟨2, 3, [⟨false, 0, [0, 1, 0, 0, -1, 1]⟩]⟩, ⟨3, 0, []⟩, ⟨3, 0, [⟨false, 10000000000000000000000000000000000000000000000000000000000, [1, 1, 1, 1, 1, -10000000000000000000000000000000000000000000000000000000000]⟩, ⟨false, 10000000000000000000000000000000000000000000000000000000000, [1, 1, 1, 1, 1, -10000000000000000000000000000000000000000000000000000000000]⟩]⟩, ⟨3, 0, [⟨false, 10000000000000000000000000000000000000000000000000000000000, [1, 1, 1, 1, 1, -10000000000000000000000000000000000000000000000000000000000]⟩, ⟨false, 10000000000000000000000000000000000000000000000000000000000, [1, 1, 1, 1, 1, -10000000000000000000000000000000000000000000000000000000000]⟩]⟩]⟩
theorem near_ok : PgOk 200 nearG := by
  refine ⟨⟨by decide, by decide, by decide +kernel, by decide +kernel⟩, ⟨by decide, by decide, by decide +kernel, by decide +kernel⟩, by decide, ?_⟩
  have wi : ∀ w ∈ ([⟨true, 1, [-1, 0, 2, 1, 0, -3]⟩, ⟨false, 0, [0, 1, 0, 0, -1, 1]⟩, ⟨false, 10000000000000000000000000000000000000000000000000000000000, [1, 1, 1, 1, 1, -10000000000000000000000000000000000000000000000000000000000]⟩] : List Wi), WiOk 200 6 w := fun w hw => by
    simp only [List.mem_cons, List.not_mem_nil, or_false] at hw
    rcases hw with rfl | rfl | rfl
    · exact ⟨by unfold Bd; decide +kernel, rfl⟩
    · exact ⟨by unfold Bd; decide +kernel, rfl⟩
    · exact ⟨by unfold Bd; decide +kernel, rfl⟩
  intro r hr
  unfold nearG at hr
  simp only [List.mem_cons, List.not_mem_nil, or_false] at hr
  rcases hr with rfl | rfl | rfl | rfl | rfl
  · exact ⟨by decide, by decide, by decide, by decide, by decide, fun w hw => wi w (by rw [List.mem_singleton.mp hw]; simp)⟩
  · exact ⟨by decide, by decide, by decide, by decide, by decide, fun w hw => wi w (by rw [List.mem_singleton.mp hw]; simp)⟩
  · exact ⟨by decide, by decide, by decide, by decide, by decide, fun w hw => by cases hw⟩
  · exact ⟨by decide, by decide, by decide, by decide, by decide, fun w hw => wi w (by simp only [List.mem_cons, List.not_mem_nil, or_false] at hw; rcases hw with rfl | rfl <;> simp)⟩
  · exact ⟨by decide, by decide, by decide, by decide, by decide, fun w hw => wi w (by simp only [List.mem_cons, List.not_mem_nil, or_false] at hw; rcases hw with rfl | rfl <;> simp)⟩
def sp_L_near_names : FS := fun ds ms P => match ds with
  | [] => P (pgD nearG) ms
  | _ => False
theorem len_L_near_names : ∀ ds ms Q, sp_L_near_names ds ms Q → ds.length = 0 := fun ds ms Q h => by
  unfold sp_L_near_names at h
  split at h <;> first | rfl | exact h.elim
def t_L_near_names : DTS := dSeq (dAsg (dTup (aCons (dC (.str "least")) (aCons (dLst (aCons (dOp fPow (dC (.int 10)) (dC (.int 58))) (aCons (dC (.int 1)) (aCons (dC (.int 1)) (aCons (dC (.int 1)) (aCons (dC (.int 1)) (aCons (dC (.int 1)) (aCons (dNeg (dOp fPow (dC (.int 10)) (dC (.int 58)))) (aNil))))))))) (aNil)))) (sName 0)) (dSeq (dAsg (dLst (aCons (dTup (aCons (dC (.int 0)) (aCons (dC (.int 1)) (aCons (dLst (aCons (dTup (aCons (dC (.str "just")) (aCons (dLst (aCons (dC (.int 1)) (aCons (dNeg (dC (.int 1))) (aCons (dC (.int 0)) (aCons (dC (.int 2)) (aCons (dC (.int 1)) (aCons (dC (.int 0)) (aCons (dNeg (dC (.int 3))) (aNil))))))))) (aNil)))) (aNil))) (aNil))))) (aCons (dTup (aCons (dC (.int 2)) (aCons (dC (.int 3)) (aCons (dLst (aCons (dTup (aCons (dC (.str "least")) (aCons (dLst (aCons (dC (.int 0)) (aCons (dC (.int 0)) (aCons (dC (.int 1)) (aCons (dC (.int 0)) (aCons (dC (.int 0)) (aCons (dNeg (dC (.int 1))) (aCons (dC (.int 1)) (aNil))))))))) (aNil)))) (aNil))) (aNil))))) (aNil)))) (sName 1)) (dRet (dTup (aCons (dLst (aCons (dC (.str "x")) (aCons (dC (.str "xx")) (aCons (dC (.str "yx")) (aNil))))) (aCons (dLst (aCons (dC (.str "a")) (aCons (dC (.str "aa")) (aCons (dC (.str "ba")) (aCons (dC (.str "ab")) (aNil)))))) (aCons (dOp fAdd (dOp fAdd (dVar 1) (dLst (aCons (dTup (aCons (dC (.int 3)) (aCons (dC (.int 0)) (aCons (dLst (aNil)) (aNil))))) (aNil)))) (dOp fMul (dLst (aCons (dTup (aCons (dC (.int 3)) (aCons (dC (.int 0)) (aCons (dLst (aCons (dVar 0) (aCons (dVar 0) (aNil)))) (aNil))))) (aNil))) (dC (.int 2)))) (aNil)))))))
theorem sem_L_near_names : ∀ ds ms Q, sp_L_near_names ds ms Q → t_L_near_names { nx := fun _ m => Q .non m, rt := Q } (startD 2 ds) ms := by
  intro ds ms Q h
  unfold sp_L_near_names at h
  split at h
  · simp only [startD]
    unfold t_L_near_names
    walk_at "st"
    refine ⟨⟨by decide, by decide, by decide⟩, ?_⟩
    walk_at "st"
    exact h
  · exact h.elim
theorem ok_L_near_names (T : Tx P K mg) : FnG P w K mg base 1 T.f_L_near_names T.d_L_near_names [] (spD K sp_L_near_names) := by
  exact fnG_of (k := 0) (t := t_L_near_names) T.F_L_near_names sc_L_near_names len_L_near_names
    (fun cdv A outer s H hr => pds_cons (pds_set (i := 0) sc_L_near_names.nd rfl (.inl rfl) (pd_tup (pda_cons (pd_str) (pda_cons (pd_lst (pda_cons (pd_op op_pow opd_pow (pd_int) (pd_int)) (pda_cons (pd_int) (pda_cons (pd_int) (pda_cons (pd_int) (pda_cons (pd_int) (pda_cons (pd_int) (pda_cons (pd_neg (pd_op op_pow opd_pow (pd_int) (pd_int))) (pda_nil))))))))) (pda_nil))))) (pds_cons (pds_set (i := 1) sc_L_near_names.nd rfl (.inl rfl) (pd_lst (pda_cons (pd_tup (pda_cons (pd_int) (pda_cons (pd_int) (pda_cons (pd_lst (pda_cons (pd_tup (pda_cons (pd_str) (pda_cons (pd_lst (pda_cons (pd_int) (pda_cons (pd_neg (pd_int)) (pda_cons (pd_int) (pda_cons (pd_int) (pda_cons (pd_int) (pda_cons (pd_int) (pda_cons (pd_neg (pd_int)) (pda_nil))))))))) (pda_nil)))) (pda_nil))) (pda_nil))))) (pda_cons (pd_tup (pda_cons (pd_int) (pda_cons (pd_int) (pda_cons (pd_lst (pda_cons (pd_tup (pda_cons (pd_str) (pda_cons (pd_lst (pda_cons (pd_int) (pda_cons (pd_int) (pda_cons (pd_int) (pda_cons (pd_int) (pda_cons (pd_int) (pda_cons (pd_neg (pd_int)) (pda_cons (pd_int) (pda_nil))))))))) (pda_nil)))) (pda_nil))) (pda_nil))))) (pda_nil))))) (pds_one (pds_ret (pd_tup (pda_cons (pd_lst (pda_cons (pd_str) (pda_cons (pd_str) (pda_cons (pd_str) (pda_nil))))) (pda_cons (pd_lst (pda_cons (pd_str) (pda_cons (pd_str) (pda_cons (pd_str) (pda_cons (pd_str) (pda_nil)))))) (pda_cons (pd_op op_addD opd_add (pd_op op_addD opd_add (pd_var 1) (pd_lst (pda_cons (pd_tup (pda_cons (pd_int) (pda_cons (pd_int) (pda_cons (pd_lst (pda_nil)) (pda_nil))))) (pda_nil)))) (pd_op op_mulA opd_mul (pd_lst (pda_cons (pd_tup (pda_cons (pd_int) (pda_cons (pd_int) (pda_cons (pd_lst (pda_cons (pd_var 0) (pda_cons (pd_var 0) (pda_nil)))) (pda_nil))))) (pda_nil))) (pd_int))) (pda_nil)))))))))
    sem_L_near_names
def aheadG : Pg := ⟨["x"], ["a"], []⟩
theorem ahead_ok : PgOk 41 aheadG := ⟨⟨by decide, by decide, by decide, by decide +kernel⟩, ⟨by decide, by decide, by decide, by decide +kernel⟩, by decide, fun r hr => by cases hr⟩
def sp_L_law : FS := fun ds ms P => match ds with
  | [.fro xs] => ∃ ns : List Int, xs = ns.map D.int ∧ flatM ms ∧ ∀ ms', P (.bl true) ms'
  | _ => False
theorem len_L_law : ∀ ds ms Q, sp_L_law ds ms Q → ds.length = 1 := fun ds ms Q h => by
  unfold sp_L_law at h
  split at h <;> first | rfl | exact h.elim
def t_L_law_c1 : DTS := dSeq (dWhile (dTest (dView 4 (dOp fGt (dCB cLen (aCons (dCall 1 0 [0] sp_L_program_text (aCons (dVar 4) (aNil)) (aNil)) (aNil))) (dC (.int 3900))))) (dDrop (dPop (dOp fIx (dVar 4) (dC (.int 2)))))) (dSeq (dViewS 4 (dIfS (dOr (dNot (dTest (dCall 1 0 [0] sp_L_right (aCons (dVar 4) (aNil)) (aNil)))) (dOr (dNot (dTest (dCall 1 0 [0] sp_L_right (aCons (dVar 1) (aNil)) (aNil)))) (dNot (dTest (dCall 1 0 [0] sp_L_right (aCons (dVar 4) (aNil)) (aNil)))))) (dRet (dC (.bl false))) (dNext))) (dAsg (dVar 4) (sName 1)))
def t_L_law : DTS := dSeq (dAsg (dTup (aCons (dLst (aCons (dC (.str "x")) (aNil))) (aCons (dLst (aCons (dC (.str "a")) (aNil))) (aCons (dLst (aNil)) (aNil))))) (sName 1)) (dSeq (dIfS (dNot (dTest (dCall 1 0 [0] sp_L_right (aCons (dCall 0 0 [] sp_L_near_names (aNil) (aNil)) (aNil)) (aNil)))) (dRet (dC (.bl false))) (dNext)) (dSeq (dFor (iRange1 (aCons (dCB cMax2 (aCons (dC (.int 1)) (aCons (dCB cMin2 (aCons (dCB cLen (aCons (dVar 0) (aNil))) (aCons (dC (.int 16)) (aNil)))) (aNil)))) (aNil))) (sName 2) (dSeq (dAsg (dCall 2 0 [0, 1] sp_L_pool (aCons (dVar 0) (aCons (dVar 2) (aNil))) (aNil)) (sName 3)) (dSeq (dAsg (dCall 3 0 [0, 1, 2] sp_L_program (aCons (dVar 3) (aCons (dC (.int 6)) (aCons (dC (.int 10)) (aNil)))) (aNil)) (sName 4)) (t_L_law_c1)))) (dRet (dC (.bl true)))))
theorem text_small {g : Pg} {B : Nat} (ok : PgOk B g) (h : g.rs = []) : (textG g).length ≤ 3900 := by
  have hn := nms_len (wd := sgNum) ok.nm (by decide) (by decide)
  have hp := nms_len (wd := sgPla) ok.pm (by decide) (by decide)
  unfold textG linesG
  rw [h]
  show (TL.joinL [32] (sgNum :: nsU g.nm) ++ ([10] ++ TL.joinL [32] (sgPla :: nsU g.pm))).length ≤ 3900
  rw [List.length_append, List.length_append, List.length_singleton]
  omega
section
variable {E : EN} {N : DS → MS → Prop} {x0 x2 x3 : Option D} {g2 : Pg} {q : Addr}
theorem text_len {g : Pg} {B : Nat} (ok : PgOk B g) (hB : B ≤ 1000) : (S (textG g)).length ≤ sizeLine := by
  have few := lines_few ok
  have : (textG g).length ≤ 2000000 := Nat.le_trans (joinL_len _ _) (Nat.le_trans (sum_le (lines_len ok hB)) (by omega))
  rw [lenS]
  exact Nat.le_trans this (by decide)
theorem law_e {g : Pg} {m : MS} (ok2 : PgOk 41 g2) (ok : PgOk 41 g) (fm : flatM m) (hN : ∀ (g : Pg) m' y4, PgOk 41 g → flatM m' → N [x0, some (pgD g), x2, x3, y4] m') :
    NxG (EN.wn (EN.lp E N) (StG (dSeq (dViewS 4 (dIfS (dOr (dNot (dTest (dCall 1 0 [0] sp_L_right (aCons (dVar 4) (aNil)) (aNil)))) (dOr (dNot (dTest (dCall 1 0 [0] sp_L_right (aCons (dVar 1) (aNil)) (aNil)))) (dNot (dTest (dCall 1 0 [0] sp_L_right (aCons (dVar 4) (aNil)) (aNil)))))) (dRet (dC (.bl false))) (dNext))) (dAsg (dVar 4) (sName 1))) (EN.lp E N))) [x0, some (pgD g2), x2, x3, some (.tup [.lst (g.nm.map D.str), .lst (g.pm.map D.str), .opq (.ref q)])] ((q, g.rs.map rwD) :: m) := by
  have vw : Vw [(q, g.rs.map rwD)] (.tup [.lst (g.nm.map D.str), .lst (g.pm.map D.str), .opq (.ref q)]) (pgD g) := .tup (.cons .same (.cons .same (.cons (.lst List.mem_cons_self (VwS.same _)) .nil)))
  walk_at "st"
  refine StG.out (w_viewS [(q, g.rs.map rwD)] m rfl rfl vw rfl ?_)
  walk_at "st"
  refine ⟨g, 41, rfl, ok, by decide, fm, fun M fM frM => ?_⟩
  have fm1 := flatM_app fM fm
  generalize M ++ m = m1 at fm1
  walk_at "st"
  refine ⟨g2, 41, rfl, ok2, by decide, fm1, fun M fM frM => ?_⟩
  have fm2 := flatM_app fM fm1
  generalize M ++ m1 = m2 at fm2
  walk_at "st"
  refine ⟨g, 41, rfl, ok, by decide, fm2, fun M fM frM => ?_⟩
  have fm3 := flatM_app fM fm2
  generalize M ++ m2 = m3 at fm3
  walk_at "st"
  exact hN g _ _ ok fm3
theorem law_c1 (ok2 : PgOk 41 g2) (hN : ∀ (g : Pg) m' y4, PgOk 41 g → flatM m' → N [x0, some (pgD g), x2, x3, y4] m') : ∀ (n : Nat) (g : Pg) (m : MS), g.rs.length = n → PgOk 41 g → flatM m →
    whileD (dTest (dView 4 (dOp fGt (dCB cLen (aCons (dCall 1 0 [0] sp_L_program_text (aCons (dVar 4) (aNil)) (aNil)) (aNil))) (dC (.int 3900))))) (dDrop (dPop (dOp fIx (dVar 4) (dC (.int 2)))))
      (EN.wn (EN.lp E N) (StG (dSeq (dViewS 4 (dIfS (dOr (dNot (dTest (dCall 1 0 [0] sp_L_right (aCons (dVar 4) (aNil)) (aNil)))) (dOr (dNot (dTest (dCall 1 0 [0] sp_L_right (aCons (dVar 1) (aNil)) (aNil)))) (dNot (dTest (dCall 1 0 [0] sp_L_right (aCons (dVar 4) (aNil)) (aNil)))))) (dRet (dC (.bl false))) (dNext))) (dAsg (dVar 4) (sName 1))) (EN.lp E N)))
      (n + 1) [x0, some (pgD g2), x2, x3, some (.tup [.lst (g.nm.map D.str), .lst (g.pm.map D.str), .opq (.ref q)])] ((q, g.rs.map rwD) :: m) := by
  intro n
  induction n with
  | zero =>
    intro g m hg ok fm
    have vw : Vw [(q, g.rs.map rwD)] (.tup [.lst (g.nm.map D.str), .lst (g.pm.map D.str), .opq (.ref q)]) (pgD g) := .tup (.cons .same (.cons .same (.cons (.lst List.mem_cons_self (VwS.same _)) .nil)))
    have sm := text_small ok (List.eq_nil_of_length_eq_zero hg)
    refine w_whS ?_
    walk_at "st"
    refine ExG.out (w_view [(q, g.rs.map rwD)] m rfl rfl vw rfl ?_)
    walk_at "st"
    refine ⟨g, 41, rfl, ok, by decide, fun M fM frM => ?_⟩
    have fm1 := flatM_app fM fm
    generalize M ++ m = m1 at fm1
    walk_at "st"
    refine ⟨text_len ok (by decide), ?_⟩
    rw [lenS]
    walk_at "st"
    rw [decide_eq_false (by omega)]
    refine ⟨rfl, fm1, ?_⟩
    walk_at "st"
    exact law_e ok2 ok fm1 hN
  | succ n ih =>
    intro g m hg ok fm
    have vw : Vw [(q, g.rs.map rwD)] (.tup [.lst (g.nm.map D.str), .lst (g.pm.map D.str), .opq (.ref q)]) (pgD g) := .tup (.cons .same (.cons .same (.cons (.lst List.mem_cons_self (VwS.same _)) .nil)))
    refine w_whS ?_
    walk_at "st"
    refine ExG.out (w_view [(q, g.rs.map rwD)] m rfl rfl vw rfl ?_)
    walk_at "st"
    refine ⟨g, 41, rfl, ok, by decide, fun M fM frM => ?_⟩
    have fm1 := flatM_app fM fm
    generalize M ++ m = m1 at fm1
    walk_at "st"
    refine ⟨text_len ok (by decide), ?_⟩
    rw [lenS]
    walk_at "st"
    cases hd : decide ((3900 : Int) < ((textG g).length : Int)) with
    | false =>
      refine ⟨rfl, fm1, ?_⟩
      walk_at "st"
      exact law_e ok2 ok fm1 hN
    | true =>
      refine ⟨rfl, fm1, ?_⟩
      walk_at "st"
      refine ExG.out (w_pop ?_)
      walk_at "st"
      have hr : g.rs ≠ [] := fun z => by rw [z] at hg; cases hg
      have hl : (g.rs.map rwD)[(g.rs.map rwD).length - 1]? = some (rwD (g.rs.getLast hr)) := by
        rw [List.getElem?_map, List.length_map, List.getLast_eq_getElem, List.getElem?_eq_getElem (by omega)]; rfl
      refine w_mPop look_new hl put_new ?_
      walk_at "st"
      rw [← List.map_dropLast]
      exact ih ⟨g.nm, g.pm, g.rs.dropLast⟩ m1 (by show g.rs.dropLast.length = n; rw [List.length_dropLast]; omega) ⟨ok.nm, ok.pm, by show g.rs.dropLast.length ≤ 10; rw [List.length_dropLast]; have := ok.rl; omega, fun r hr => ok.ro r (List.dropLast_subset _ hr)⟩ fm1
end
theorem sem_L_law : ∀ ds ms Q, sp_L_law ds ms Q → t_L_law { nx := fun _ m => Q .non m, rt := Q } (startD 5 ds) ms := by
  intro ds ms Q h
  unfold sp_L_law at h
  split at h
  · obtain ⟨ns, rfl, fm, h⟩ := h
    simp only [startD]
    unfold t_L_law
    walk_at "st"
    unfold sp_L_near_names
    dsimp only
    walk_at "st"
    refine ⟨nearG, 200, rfl, near_ok, by decide, fm, fun M fM frM => ?_⟩
    have fm2 := flatM_app fM fm
    generalize M ++ ms = m2 at fm2
    walk_at "st"
    have hy := cells_le 16 (by decide) (ns.map D.int).length
    generalize (if (if 16 < ((ns.map D.int).length : Int) then 16 else ((ns.map D.int).length : Int)) > 1 then if 16 < ((ns.map D.int).length : Int) then 16 else ((ns.map D.int).length : Int) else 1) = y at hy
    refine w_mRng ⟨by omega, by omega⟩ ?_
    refine loop_inv (fun ds ms => flatM ms ∧ ∃ (g2 : Pg) (x2 x3 x4 : Option D), PgOk 41 g2 ∧ ds = [some (.fro (ns.map D.int)), some (pgD g2), x2, x3, x4]) _ _ _ ⟨fm2, aheadG, _, _, _, ahead_ok, rfl⟩ ?_ ?_
    · rintro x hx ds ms ⟨fm, g2, x2, x3, x4, ok2, rfl⟩ N hN
      obtain ⟨i, hi, rfl⟩ := rng_mem hx
      walk_at "st"
      refine ⟨ns, rfl, by omega, by omega, fun p hp a b o => ?_⟩
      have p0 : PoolAt ((p, [.int a, .int b]) :: ms) p := .new o
      have fm0 : flatM ((p, [D.int a, D.int b]) :: ms) := flatM_cons fm (flats_ints [a, b])
      generalize ((p, [D.int a, D.int b]) :: ms) = m0 at p0 fm0
      walk_at "st"
      refine ⟨p0, by decide, by decide, by decide, by decide, fun g q m1 ok l1 l2 hne hq p1 c1 => ?_⟩
      have fm1 := flatM_chg fm0 c1
      walk_at "st"
      unfold t_L_law_c1
      refine w_seq ?_
      refine w_whileN (n := g.rs.length + 1) ?_
      exact law_c1 ok2 (fun g m' y4 ok' fm' => hN _ _ ⟨fm', g, _, _, _, ok', rfl⟩) _ g m1 rfl ok fm1
    · rintro ds m ⟨fm, g2, x2, x3, x4, ok2, rfl⟩
      walk_at "st"
      exact h m
  · exact h.elim
theorem ok_L_law (T : Tx P K mg) : FnG P w K mg base 11 T.f_L_law T.d_L_law ["_law_script"] (spD K sp_L_law) := by
  have G_L_right := ok_L_right (P := P) (w := w) (base := base) T
  have G_L_pool := ok_L_pool (P := P) (w := w) (base := base) T
  have G_L_program := ok_L_program (P := P) (w := w) (base := base) T
  have G_L_near_names := ok_L_near_names (P := P) (w := w) (base := base) T
  have G_L_program_text := ok_L_program_text (P := P) (w := w) (base := base) T
  exact fnG_of (k := 10) (t := t_L_law) T.F_L_law sc_L_law len_L_law
    (fun cdv A outer s H hr => pds_cons (pds_set (i := 1) sc_L_law.nd rfl (.inl rfl) (pd_tup (pda_cons (pd_lst (pda_cons (pd_str) (pda_nil))) (pda_cons (pd_lst (pda_cons (pd_str) (pda_nil))) (pda_cons (pd_lst (pda_nil)) (pda_nil)))))) (pds_cons (pds_if (pdt_not (pdt_val (pd_call G_L_right (hr.mono (by decide)) rfl T.g_L_right T.F_L_right.kp T.b_L_right_1 (pda_cons (pd_call0 G_L_near_names (hr.mono (by decide)) rfl T.g_L_near_names T.F_L_near_names.kp T.b_L_near_names_0) (pda_nil))))) (pds_one (pds_ret (pd_bl))) (pds_nil)) (pds_cons (pds_for (vs := [2]) rfl (pdi_range1 rfl T.n_range (pda_cons (pd_callB (call_max2 rfl) cal_max2 rfl T.n_max (by decide +kernel) (pda_cons (pd_int) (pda_cons (pd_callB (call_min2 rfl) cal_min2 rfl T.n_min (by decide +kernel) (pda_cons (pd_callB call_len cal_len rfl T.n_len (by decide +kernel) (pda_cons (pd_var 0) (pda_nil))) (pda_cons (pd_int) (pda_nil)))) (pda_nil)))) (pda_nil))) (pg_name (i := 2) sc_L_law.nd rfl (.inl rfl)) (tg_name (i := 2) (by decide)) (pds_cons (pds_set (i := 3) sc_L_law.nd rfl (.inl rfl) (pd_call G_L_pool (hr.mono (by decide)) rfl T.g_L_pool T.F_L_pool.kp T.b_L_pool_2 (pda_cons (pd_var 0) (pda_cons (pd_var 2) (pda_nil))))) (pds_cons (pds_set (i := 4) sc_L_law.nd rfl (.inl rfl) (pd_call G_L_program (hr.mono (by decide)) rfl T.g_L_program T.F_L_program.kp T.b_L_program_3 (pda_cons (pd_var 3) (pda_cons (pd_int) (pda_cons (pd_int) (pda_nil)))))) (pds_cons (pds_while (pdt_cmpV (i := 4) op_gt opd_gt (pd_callB call_len cal_len rfl T.n_len (by decide +kernel) (pda_cons (pd_call G_L_program_text (hr.mono (by decide)) rfl T.g_L_program_text T.F_L_program_text.kp T.b_L_program_text_1 (pda_cons (pd_var 4) (pda_nil))) (pda_nil))) (pd_int)) (pds_one (pds_expr (pd_pop (pd_ix ix_seq opd_ix (pd_var 4) (pd_int)))))) (pds_cons (pds_view (i := 4) (pds_if (pdt_w (pdw_or (pdt_not (pdt_val (pd_call G_L_right (hr.mono (by decide)) rfl T.g_L_right T.F_L_right.kp T.b_L_right_1 (pda_cons (pd_var 4) (pda_nil))))) (pdw_or (pdt_not (pdt_val (pd_call G_L_right (hr.mono (by decide)) rfl T.g_L_right T.F_L_right.kp T.b_L_right_1 (pda_cons (pd_var 1) (pda_nil))))) (pdw_or1 (pdt_not (pdt_val (pd_call G_L_right (hr.mono (by decide)) rfl T.g_L_right T.F_L_right.kp T.b_L_right_1 (pda_cons (pd_var 4) (pda_nil))))))))) (pds_one (pds_ret (pd_bl))) (pds_nil))) (pds_one (pds_set (i := 1) sc_L_law.nd rfl (.inl rfl) (pd_var 4)))))))) (pds_one (pds_ret (pd_bl))))))
    sem_L_law
end
theorem all_mk {l : PySem.W.OpenLaw} {w : World} {K : PySem.W.Frag} {h : Heap} {mg : Str → Option Value} {fa : Addr} (X : K.In h) (G : h.Ns mainGlobals mg) (hfa : mg "law" = some (.ref fa))
    {f0 : Addr} {od0 an0 : Option Addr} {sl0 : Array (Option Value)} {oc0 kV0 dc0 pm0 cd0 ct0 : Value}
    {f1 : Addr} {od1 an1 : Option Addr} {sl1 : Array (Option Value)} {oc1 kV1 dc1 pm1 cd1 ct1 : Value}
    {f2 : Addr} {od2 an2 : Option Addr} {sl2 : Array (Option Value)} {oc2 kV2 dc2 pm2 cd2 ct2 : Value}
    {f3 : Addr} {od3 an3 : Option Addr} {sl3 : Array (Option Value)} {oc3 kV3 dc3 pm3 cd3 ct3 : Value}
    {f4 : Addr} {od4 an4 : Option Addr} {sl4 : Array (Option Value)} {oc4 kV4 dc4 pm4 cd4 ct4 : Value}
    {f5 : Addr} {od5 an5 : Option Addr} {sl5 : Array (Option Value)} {oc5 kV5 dc5 pm5 cd5 ct5 : Value}
    {f6 : Addr} {od6 an6 : Option Addr} {sl6 : Array (Option Value)} {oc6 kV6 dc6 pm6 cd6 ct6 : Value}
    {f7 : Addr} {od7 an7 : Option Addr} {sl7 : Array (Option Value)} {oc7 kV7 dc7 pm7 cd7 ct7 : Value}
    {f8 : Addr} {od8 an8 : Option Addr} {sl8 : Array (Option Value)} {oc8 kV8 dc8 pm8 cd8 ct8 : Value}
    {f9 : Addr} {od9 an9 : Option Addr} {sl9 : Array (Option Value)} {oc9 kV9 dc9 pm9 cd9 ct9 : Value}
    {f10 : Addr} {od10 an10 : Option Addr} {sl10 : Array (Option Value)} {oc10 kV10 dc10 pm10 cd10 ct10 : Value}
    {f11 : Addr} {od11 an11 : Option Addr} {sl11 : Array (Option Value)} {oc11 kV11 dc11 pm11 cd11 ct11 : Value}
    {f12 : Addr} {od12 an12 : Option Addr} {sl12 : Array (Option Value)} {oc12 kV12 dc12 pm12 cd12 ct12 : Value}
    {f13 : Addr} {od13 an13 : Option Addr} {sl13 : Array (Option Value)} {oc13 kV13 dc13 pm13 cd13 ct13 : Value}
    {f14 : Addr} {od14 an14 : Option Addr} {sl14 : Array (Option Value)} {oc14 kV14 dc14 pm14 cd14 ct14 : Value}
    {f15 : Addr} {od15 an15 : Option Addr} {sl15 : Array (Option Value)} {oc15 kV15 dc15 pm15 cd15 ct15 : Value}
    {f16 : Addr} {od16 an16 : Option Addr} {sl16 : Array (Option Value)} {oc16 kV16 dc16 pm16 cd16 ct16 : Value}
    {f17 : Addr} {od17 an17 : Option Addr} {sl17 : Array (Option Value)} {oc17 kV17 dc17 pm17 cd17 ct17 : Value}
    {f18 : Addr} {od18 an18 : Option Addr} {sl18 : Array (Option Value)} {oc18 kV18 dc18 pm18 cd18 ct18 : Value}
    {f19 : Addr} {od19 an19 : Option Addr} {sl19 : Array (Option Value)} {oc19 kV19 dc19 pm19 cd19 ct19 : Value}
    {f20 : Addr} {od20 an20 : Option Addr} {sl20 : Array (Option Value)} {oc20 kV20 dc20 pm20 cd20 ct20 : Value}
    {f21 : Addr} {od21 an21 : Option Addr} {sl21 : Array (Option Value)} {oc21 kV21 dc21 pm21 cd21 ct21 : Value}
    {f22 : Addr} {od22 an22 : Option Addr} {sl22 : Array (Option Value)} {oc22 kV22 dc22 pm22 cd22 ct22 : Value}
    {f23 : Addr} {od23 an23 : Option Addr} {sl23 : Array (Option Value)} {oc23 kV23 dc23 pm23 cd23 ct23 : Value}
    {f24 : Addr} {od24 an24 : Option Addr} {sl24 : Array (Option Value)} {oc24 kV24 dc24 pm24 cd24 ct24 : Value}
    {f25 : Addr} {od25 an25 : Option Addr} {sl25 : Array (Option Value)} {oc25 kV25 dc25 pm25 cd25 ct25 : Value}
    {f26 : Addr} {od26 an26 : Option Addr} {sl26 : Array (Option Value)} {oc26 kV26 dc26 pm26 cd26 ct26 : Value}
    {f27 : Addr} {od27 an27 : Option Addr} {sl27 : Array (Option Value)} {oc27 kV27 dc27 pm27 cd27 ct27 : Value}
    {f28 : Addr} {od28 an28 : Option Addr} {sl28 : Array (Option Value)} {oc28 kV28 dc28 pm28 cd28 ct28 : Value}
    {f29 : Addr} {od29 an29 : Option Addr} {sl29 : Array (Option Value)} {oc29 kV29 dc29 pm29 cd29 ct29 : Value}
    {f30 : Addr} {od30 an30 : Option Addr} {sl30 : Array (Option Value)} {oc30 kV30 dc30 pm30 cd30 ct30 : Value}
    {f31 : Addr} {od31 an31 : Option Addr} {sl31 : Array (Option Value)} {oc31 kV31 dc31 pm31 cd31 ct31 : Value}
    {f32 : Addr} {od32 an32 : Option Addr} {sl32 : Array (Option Value)} {oc32 kV32 dc32 pm32 cd32 ct32 : Value}
    {f33 : Addr} {od33 an33 : Option Addr} {sl33 : Array (Option Value)} {oc33 kV33 dc33 pm33 cd33 ct33 : Value}
    {f34 : Addr} {od34 an34 : Option Addr} {sl34 : Array (Option Value)} {oc34 kV34 dc34 pm34 cd34 ct34 : Value}
    {f35 : Addr} {od35 an35 : Option Addr} {sl35 : Array (Option Value)} {oc35 kV35 dc35 pm35 cd35 ct35 : Value}
    {f36 : Addr} {od36 an36 : Option Addr} {sl36 : Array (Option Value)} {oc36 kV36 dc36 pm36 cd36 ct36 : Value}
    {f37 : Addr} {od37 an37 : Option Addr} {sl37 : Array (Option Value)} {oc37 kV37 dc37 pm37 cd37 ct37 : Value}
    {f38 : Addr} {od38 an38 : Option Addr} {sl38 : Array (Option Value)} {oc38 kV38 dc38 pm38 cd38 ct38 : Value}
    {f39 : Addr} {od39 an39 : Option Addr} {sl39 : Array (Option Value)} {oc39 kV39 dc39 pm39 cd39 ct39 : Value}
    {f40 : Addr} {od40 an40 : Option Addr} {sl40 : Array (Option Value)} {oc40 kV40 dc40 pm40 cd40 ct40 : Value}
    {f41 : Addr} {od41 an41 : Option Addr} {sl41 : Array (Option Value)} {oc41 kV41 dc41 pm41 cd41 ct41 : Value}
    {f42 : Addr} {od42 an42 : Option Addr} {sl42 : Array (Option Value)} {oc42 kV42 dc42 pm42 cd42 ct42 : Value}
    {tk_ABOVE_PIECE : Tok}
    {tk_AT_LEAST : Tok}
    {tk_BEHIND : Tok}
    {tk_FIGURES : Tok}
    {tk_JUST : Tok}
    {tk_JUST_SO : Tok}
    {tk_LEAST : Tok}
    {tk_LETTERS : Tok}
    {tk_LONGEST_NAME : Tok}
    {tk_MOST_NAMES : Tok}
    {tk_MOST_NUMBERS : Tok}
    {tk_MOST_PLACES : Tok}
    {tk_MOST_ROWS : Tok}
    {tk_MOST_WISHES : Tok}
    {tk_NUMBERS : Tok}
    {tk_PIECE : Tok}
    {tk_PLACES : Tok}
    {tk_ROW : Tok}
    {ec_NoProgram : Addr}
    {ec_NoText : Addr}
    {fi_NoText icc_NoText icd_NoText : Addr} {iod_NoText ian_NoText jcd_NoText kcd_NoText : Option Addr} {ioc_NoText ikV_NoText idc_NoText ipm_NoText ict_NoText jcl_NoText kcl_NoText : Value} {isl_NoText jcs_NoText kcs_NoText : Array (Option Value)} {kvs_NoText : Array Value} {kfl_NoText : Str} {kft_NoText : Tok}
    (a0 : PySem.W.nsIn K mainGlobals "in_figures" = some (some (.ref f0)))
    (l0 : K.lookup f0 = some ⟨oc0, od0, .func (PySem.W.fnOf "in_figures" "in_figures" (defArgs s_p_in_figures) (defBody s_p_in_figures) (defScope s_p_in_figures) .none kV0 dc0 pm0 an0 cd0 ct0), sl0⟩)
    (c0 : PySem.W.codeIn K cd0 "in_figures" = true) (k0 : PySem.W.keepIn K (.ref f0) = true)
    (a1 : PySem.W.nsIn K mainGlobals "is_figures" = some (some (.ref f1)))
    (l1 : K.lookup f1 = some ⟨oc1, od1, .func (PySem.W.fnOf "is_figures" "is_figures" (defArgs s_p_is_figures) (defBody s_p_is_figures) (defScope s_p_is_figures) .none kV1 dc1 pm1 an1 cd1 ct1), sl1⟩)
    (c1 : PySem.W.codeIn K cd1 "is_figures" = true) (k1 : PySem.W.keepIn K (.ref f1) = true)
    (a2 : PySem.W.nsIn K mainGlobals "of_figures" = some (some (.ref f2)))
    (l2 : K.lookup f2 = some ⟨oc2, od2, .func (PySem.W.fnOf "of_figures" "of_figures" (defArgs s_p_of_figures) (defBody s_p_of_figures) (defScope s_p_of_figures) .none kV2 dc2 pm2 an2 cd2 ct2), sl2⟩)
    (c2 : PySem.W.codeIn K cd2 "of_figures" = true) (k2 : PySem.W.keepIn K (.ref f2) = true)
    (a3 : PySem.W.nsIn K mainGlobals "is_whole" = some (some (.ref f3)))
    (l3 : K.lookup f3 = some ⟨oc3, od3, .func (PySem.W.fnOf "is_whole" "is_whole" (defArgs s_p_is_whole) (defBody s_p_is_whole) (defScope s_p_is_whole) .none kV3 dc3 pm3 an3 cd3 ct3), sl3⟩)
    (c3 : PySem.W.codeIn K cd3 "is_whole" = true) (k3 : PySem.W.keepIn K (.ref f3) = true)
    (a4 : PySem.W.nsIn K mainGlobals "look_at_many" = some (some (.ref f4)))
    (l4 : K.lookup f4 = some ⟨oc4, od4, .func (PySem.W.fnOf "look_at_many" "look_at_many" (defArgs s_p_look_at_many) (defBody s_p_look_at_many) (defScope s_p_look_at_many) .none kV4 dc4 pm4 an4 cd4 ct4), sl4⟩)
    (c4 : PySem.W.codeIn K cd4 "look_at_many" = true) (k4 : PySem.W.keepIn K (.ref f4) = true)
    (a5 : PySem.W.nsIn K mainGlobals "is_line" = some (some (.ref f5)))
    (l5 : K.lookup f5 = some ⟨oc5, od5, .func (PySem.W.fnOf "is_line" "is_line" (defArgs s_p_is_line) (defBody s_p_is_line) (defScope s_p_is_line) .none kV5 dc5 pm5 an5 cd5 ct5), sl5⟩)
    (c5 : PySem.W.codeIn K cd5 "is_line" = true) (k5 : PySem.W.keepIn K (.ref f5) = true)
    (a6 : PySem.W.nsIn K mainGlobals "is_wish" = some (some (.ref f6)))
    (l6 : K.lookup f6 = some ⟨oc6, od6, .func (PySem.W.fnOf "is_wish" "is_wish" (defArgs s_p_is_wish) (defBody s_p_is_wish) (defScope s_p_is_wish) .none kV6 dc6 pm6 an6 cd6 ct6), sl6⟩)
    (c6 : PySem.W.codeIn K cd6 "is_wish" = true) (k6 : PySem.W.keepIn K (.ref f6) = true)
    (a7 : PySem.W.nsIn K mainGlobals "shown_size" = some (some (.ref f7)))
    (l7 : K.lookup f7 = some ⟨oc7, od7, .func (PySem.W.fnOf "shown_size" "shown_size" (defArgs s_p_shown_size) (defBody s_p_shown_size) (defScope s_p_shown_size) .none kV7 dc7 pm7 an7 cd7 ct7), sl7⟩)
    (c7 : PySem.W.codeIn K cd7 "shown_size" = true) (k7 : PySem.W.keepIn K (.ref f7) = true)
    (a8 : PySem.W.nsIn K mainGlobals "shown_line" = some (some (.ref f8)))
    (l8 : K.lookup f8 = some ⟨oc8, od8, .func (PySem.W.fnOf "shown_line" "shown_line" (defArgs s_p_shown_line) (defBody s_p_shown_line) (defScope s_p_shown_line) .none kV8 dc8 pm8 an8 cd8 ct8), sl8⟩)
    (c8 : PySem.W.codeIn K cd8 "shown_line" = true) (k8 : PySem.W.keepIn K (.ref f8) = true)
    (a9 : PySem.W.nsIn K mainGlobals "shown_wish" = some (some (.ref f9)))
    (l9 : K.lookup f9 = some ⟨oc9, od9, .func (PySem.W.fnOf "shown_wish" "shown_wish" (defArgs s_p_shown_wish) (defBody s_p_shown_wish) (defScope s_p_shown_wish) .none kV9 dc9 pm9 an9 cd9 ct9), sl9⟩)
    (c9 : PySem.W.codeIn K cd9 "shown_wish" = true) (k9 : PySem.W.keepIn K (.ref f9) = true)
    (a10 : PySem.W.nsIn K mainGlobals "read_size" = some (some (.ref f10)))
    (l10 : K.lookup f10 = some ⟨oc10, od10, .func (PySem.W.fnOf "read_size" "read_size" (defArgs s_p_read_size) (defBody s_p_read_size) (defScope s_p_read_size) .none kV10 dc10 pm10 an10 cd10 ct10), sl10⟩)
    (c10 : PySem.W.codeIn K cd10 "read_size" = true) (k10 : PySem.W.keepIn K (.ref f10) = true)
    (a11 : PySem.W.nsIn K mainGlobals "read_signs" = some (some (.ref f11)))
    (l11 : K.lookup f11 = some ⟨oc11, od11, .func (PySem.W.fnOf "read_signs" "read_signs" (defArgs s_p_read_signs) (defBody s_p_read_signs) (defScope s_p_read_signs) .none kV11 dc11 pm11 an11 cd11 ct11), sl11⟩)
    (c11 : PySem.W.codeIn K cd11 "read_signs" = true) (k11 : PySem.W.keepIn K (.ref f11) = true)
    (a12 : PySem.W.nsIn K mainGlobals "read_line" = some (some (.ref f12)))
    (l12 : K.lookup f12 = some ⟨oc12, od12, .func (PySem.W.fnOf "read_line" "read_line" (defArgs s_p_read_line) (defBody s_p_read_line) (defScope s_p_read_line) .none kV12 dc12 pm12 an12 cd12 ct12), sl12⟩)
    (c12 : PySem.W.codeIn K cd12 "read_line" = true) (k12 : PySem.W.keepIn K (.ref f12) = true)
    (a13 : PySem.W.nsIn K mainGlobals "read_wish" = some (some (.ref f13)))
    (l13 : K.lookup f13 = some ⟨oc13, od13, .func (PySem.W.fnOf "read_wish" "read_wish" (defArgs s_p_read_wish) (defBody s_p_read_wish) (defScope s_p_read_wish) .none kV13 dc13 pm13 an13 cd13 ct13), sl13⟩)
    (c13 : PySem.W.codeIn K cd13 "read_wish" = true) (k13 : PySem.W.keepIn K (.ref f13) = true)
    (a14 : PySem.W.nsIn K mainGlobals "is_one_of" = some (some (.ref f14)))
    (l14 : K.lookup f14 = some ⟨oc14, od14, .func (PySem.W.fnOf "is_one_of" "is_one_of" (defArgs s_p_is_one_of) (defBody s_p_is_one_of) (defScope s_p_is_one_of) .none kV14 dc14 pm14 an14 cd14 ct14), sl14⟩)
    (c14 : PySem.W.codeIn K cd14 "is_one_of" = true) (k14 : PySem.W.keepIn K (.ref f14) = true)
    (a15 : PySem.W.nsIn K mainGlobals "is_letters" = some (some (.ref f15)))
    (l15 : K.lookup f15 = some ⟨oc15, od15, .func (PySem.W.fnOf "is_letters" "is_letters" (defArgs s_p_is_letters) (defBody s_p_is_letters) (defScope s_p_is_letters) .none kV15 dc15 pm15 an15 cd15 ct15), sl15⟩)
    (c15 : PySem.W.codeIn K cd15 "is_letters" = true) (k15 : PySem.W.keepIn K (.ref f15) = true)
    (a16 : PySem.W.nsIn K mainGlobals "is_name" = some (some (.ref f16)))
    (l16 : K.lookup f16 = some ⟨oc16, od16, .func (PySem.W.fnOf "is_name" "is_name" (defArgs s_p_is_name) (defBody s_p_is_name) (defScope s_p_is_name) .none kV16 dc16 pm16 an16 cd16 ct16), sl16⟩)
    (c16 : PySem.W.codeIn K cd16 "is_name" = true) (k16 : PySem.W.keepIn K (.ref f16) = true)
    (a17 : PySem.W.nsIn K mainGlobals "look_at_names" = some (some (.ref f17)))
    (l17 : K.lookup f17 = some ⟨oc17, od17, .func (PySem.W.fnOf "look_at_names" "look_at_names" (defArgs s_p_look_at_names) (defBody s_p_look_at_names) (defScope s_p_look_at_names) .none kV17 dc17 pm17 an17 cd17 ct17), sl17⟩)
    (c17 : PySem.W.codeIn K cd17 "look_at_names" = true) (k17 : PySem.W.keepIn K (.ref f17) = true)
    (a18 : PySem.W.nsIn K mainGlobals "is_wishes" = some (some (.ref f18)))
    (l18 : K.lookup f18 = some ⟨oc18, od18, .func (PySem.W.fnOf "is_wishes" "is_wishes" (defArgs s_p_is_wishes) (defBody s_p_is_wishes) (defScope s_p_is_wishes) .none kV18 dc18 pm18 an18 cd18 ct18), sl18⟩)
    (c18 : PySem.W.codeIn K cd18 "is_wishes" = true) (k18 : PySem.W.keepIn K (.ref f18) = true)
    (a19 : PySem.W.nsIn K mainGlobals "is_row" = some (some (.ref f19)))
    (l19 : K.lookup f19 = some ⟨oc19, od19, .func (PySem.W.fnOf "is_row" "is_row" (defArgs s_p_is_row) (defBody s_p_is_row) (defScope s_p_is_row) .none kV19 dc19 pm19 an19 cd19 ct19), sl19⟩)
    (c19 : PySem.W.codeIn K cd19 "is_row" = true) (k19 : PySem.W.keepIn K (.ref f19) = true)
    (a20 : PySem.W.nsIn K mainGlobals "look_at_rows" = some (some (.ref f20)))
    (l20 : K.lookup f20 = some ⟨oc20, od20, .func (PySem.W.fnOf "look_at_rows" "look_at_rows" (defArgs s_p_look_at_rows) (defBody s_p_look_at_rows) (defScope s_p_look_at_rows) .none kV20 dc20 pm20 an20 cd20 ct20), sl20⟩)
    (c20 : PySem.W.codeIn K cd20 "look_at_rows" = true) (k20 : PySem.W.keepIn K (.ref f20) = true)
    (a21 : PySem.W.nsIn K mainGlobals "look_at" = some (some (.ref f21)))
    (l21 : K.lookup f21 = some ⟨oc21, od21, .func (PySem.W.fnOf "look_at" "look_at" (defArgs s_p_look_at) (defBody s_p_look_at) (defScope s_p_look_at) .none kV21 dc21 pm21 an21 cd21 ct21), sl21⟩)
    (c21 : PySem.W.codeIn K cd21 "look_at" = true) (k21 : PySem.W.keepIn K (.ref f21) = true)
    (a22 : PySem.W.nsIn K mainGlobals "both_sides" = some (some (.ref f22)))
    (l22 : K.lookup f22 = some ⟨oc22, od22, .func (PySem.W.fnOf "both_sides" "both_sides" (defArgs s_p_both_sides) (defBody s_p_both_sides) (defScope s_p_both_sides) .none kV22 dc22 pm22 an22 cd22 ct22), sl22⟩)
    (c22 : PySem.W.codeIn K cd22 "both_sides" = true) (k22 : PySem.W.keepIn K (.ref f22) = true)
    (a23 : PySem.W.nsIn K mainGlobals "shown_program" = some (some (.ref f23)))
    (l23 : K.lookup f23 = some ⟨oc23, od23, .func (PySem.W.fnOf "shown_program" "shown_program" (defArgs s_p_shown_program) (defBody s_p_shown_program) (defScope s_p_shown_program) .none kV23 dc23 pm23 an23 cd23 ct23), sl23⟩)
    (c23 : PySem.W.codeIn K cd23 "shown_program" = true) (k23 : PySem.W.keepIn K (.ref f23) = true)
    (a24 : PySem.W.nsIn K mainGlobals "read_names" = some (some (.ref f24)))
    (l24 : K.lookup f24 = some ⟨oc24, od24, .func (PySem.W.fnOf "read_names" "read_names" (defArgs s_p_read_names) (defBody s_p_read_names) (defScope s_p_read_names) .none kV24 dc24 pm24 an24 cd24 ct24), sl24⟩)
    (c24 : PySem.W.codeIn K cd24 "read_names" = true) (k24 : PySem.W.keepIn K (.ref f24) = true)
    (a25 : PySem.W.nsIn K mainGlobals "read_way" = some (some (.ref f25)))
    (l25 : K.lookup f25 = some ⟨oc25, od25, .func (PySem.W.fnOf "read_way" "read_way" (defArgs s_p_read_way) (defBody s_p_read_way) (defScope s_p_read_way) .none kV25 dc25 pm25 an25 cd25 ct25), sl25⟩)
    (c25 : PySem.W.codeIn K cd25 "read_way" = true) (k25 : PySem.W.keepIn K (.ref f25) = true)
    (a26 : PySem.W.nsIn K mainGlobals "read_wish_at" = some (some (.ref f26)))
    (l26 : K.lookup f26 = some ⟨oc26, od26, .func (PySem.W.fnOf "read_wish_at" "read_wish_at" (defArgs s_p_read_wish_at) (defBody s_p_read_wish_at) (defScope s_p_read_wish_at) .none kV26 dc26 pm26 an26 cd26 ct26), sl26⟩)
    (c26 : PySem.W.codeIn K cd26 "read_wish_at" = true) (k26 : PySem.W.keepIn K (.ref f26) = true)
    (a27 : PySem.W.nsIn K mainGlobals "read_rows" = some (some (.ref f27)))
    (l27 : K.lookup f27 = some ⟨oc27, od27, .func (PySem.W.fnOf "read_rows" "read_rows" (defArgs s_p_read_rows) (defBody s_p_read_rows) (defScope s_p_read_rows) .none kV27 dc27 pm27 an27 cd27 ct27), sl27⟩)
    (c27 : PySem.W.codeIn K cd27 "read_rows" = true) (k27 : PySem.W.keepIn K (.ref f27) = true)
    (a28 : PySem.W.nsIn K mainGlobals "read_program" = some (some (.ref f28)))
    (l28 : K.lookup f28 = some ⟨oc28, od28, .func (PySem.W.fnOf "read_program" "read_program" (defArgs s_p_read_program) (defBody s_p_read_program) (defScope s_p_read_program) .none kV28 dc28 pm28 an28 cd28 ct28), sl28⟩)
    (c28 : PySem.W.codeIn K cd28 "read_program" = true) (k28 : PySem.W.keepIn K (.ref f28) = true)
    (a29 : PySem.W.nsIn K mainGlobals "_law_pool" = some (some (.ref f29)))
    (l29 : K.lookup f29 = some ⟨oc29, od29, .func (PySem.W.fnOf "_law_pool" "_law_pool" (defArgs s_L_pool) (defBody s_L_pool) (defScope s_L_pool) .none kV29 dc29 pm29 an29 cd29 ct29), sl29⟩)
    (c29 : PySem.W.codeIn K cd29 "_law_pool" = true) (k29 : PySem.W.keepIn K (.ref f29) = true)
    (a30 : PySem.W.nsIn K mainGlobals "_law_take" = some (some (.ref f30)))
    (l30 : K.lookup f30 = some ⟨oc30, od30, .func (PySem.W.fnOf "_law_take" "_law_take" (defArgs s_L_take) (defBody s_L_take) (defScope s_L_take) .none kV30 dc30 pm30 an30 cd30 ct30), sl30⟩)
    (c30 : PySem.W.codeIn K cd30 "_law_take" = true) (k30 : PySem.W.keepIn K (.ref f30) = true)
    (a31 : PySem.W.nsIn K mainGlobals "_law_names" = some (some (.ref f31)))
    (l31 : K.lookup f31 = some ⟨oc31, od31, .func (PySem.W.fnOf "_law_names" "_law_names" (defArgs s_L_names) (defBody s_L_names) (defScope s_L_names) .none kV31 dc31 pm31 an31 cd31 ct31), sl31⟩)
    (c31 : PySem.W.codeIn K cd31 "_law_names" = true) (k31 : PySem.W.keepIn K (.ref f31) = true)
    (a32 : PySem.W.nsIn K mainGlobals "_law_factor" = some (some (.ref f32)))
    (l32 : K.lookup f32 = some ⟨oc32, od32, .func (PySem.W.fnOf "_law_factor" "_law_factor" (defArgs s_L_factor) (defBody s_L_factor) (defScope s_L_factor) .none kV32 dc32 pm32 an32 cd32 ct32), sl32⟩)
    (c32 : PySem.W.codeIn K cd32 "_law_factor" = true) (k32 : PySem.W.keepIn K (.ref f32) = true)
    (a33 : PySem.W.nsIn K mainGlobals "_law_line" = some (some (.ref f33)))
    (l33 : K.lookup f33 = some ⟨oc33, od33, .func (PySem.W.fnOf "_law_line" "_law_line" (defArgs s_L_line) (defBody s_L_line) (defScope s_L_line) .none kV33 dc33 pm33 an33 cd33 ct33), sl33⟩)
    (c33 : PySem.W.codeIn K cd33 "_law_line" = true) (k33 : PySem.W.keepIn K (.ref f33) = true)
    (a34 : PySem.W.nsIn K mainGlobals "_law_wishes" = some (some (.ref f34)))
    (l34 : K.lookup f34 = some ⟨oc34, od34, .func (PySem.W.fnOf "_law_wishes" "_law_wishes" (defArgs s_L_wishes) (defBody s_L_wishes) (defScope s_L_wishes) .none kV34 dc34 pm34 an34 cd34 ct34), sl34⟩)
    (c34 : PySem.W.codeIn K cd34 "_law_wishes" = true) (k34 : PySem.W.keepIn K (.ref f34) = true)
    (a35 : PySem.W.nsIn K mainGlobals "_law_program" = some (some (.ref f35)))
    (l35 : K.lookup f35 = some ⟨oc35, od35, .func (PySem.W.fnOf "_law_program" "_law_program" (defArgs s_L_program) (defBody s_L_program) (defScope s_L_program) .none kV35 dc35 pm35 an35 cd35 ct35), sl35⟩)
    (c35 : PySem.W.codeIn K cd35 "_law_program" = true) (k35 : PySem.W.keepIn K (.ref f35) = true)
    (a36 : PySem.W.nsIn K mainGlobals "_law_line_text" = some (some (.ref f36)))
    (l36 : K.lookup f36 = some ⟨oc36, od36, .func (PySem.W.fnOf "_law_line_text" "_law_line_text" (defArgs s_L_line_text) (defBody s_L_line_text) (defScope s_L_line_text) .none kV36 dc36 pm36 an36 cd36 ct36), sl36⟩)
    (c36 : PySem.W.codeIn K cd36 "_law_line_text" = true) (k36 : PySem.W.keepIn K (.ref f36) = true)
    (a37 : PySem.W.nsIn K mainGlobals "_law_wish_text" = some (some (.ref f37)))
    (l37 : K.lookup f37 = some ⟨oc37, od37, .func (PySem.W.fnOf "_law_wish_text" "_law_wish_text" (defArgs s_L_wish_text) (defBody s_L_wish_text) (defScope s_L_wish_text) .none kV37 dc37 pm37 an37 cd37 ct37), sl37⟩)
    (c37 : PySem.W.codeIn K cd37 "_law_wish_text" = true) (k37 : PySem.W.keepIn K (.ref f37) = true)
    (a38 : PySem.W.nsIn K mainGlobals "_law_program_text" = some (some (.ref f38)))
    (l38 : K.lookup f38 = some ⟨oc38, od38, .func (PySem.W.fnOf "_law_program_text" "_law_program_text" (defArgs s_L_program_text) (defBody s_L_program_text) (defScope s_L_program_text) .none kV38 dc38 pm38 an38 cd38 ct38), sl38⟩)
    (c38 : PySem.W.codeIn K cd38 "_law_program_text" = true) (k38 : PySem.W.keepIn K (.ref f38) = true)
    (a39 : PySem.W.nsIn K mainGlobals "_law_apart" = some (some (.ref f39)))
    (l39 : K.lookup f39 = some ⟨oc39, od39, .func (PySem.W.fnOf "_law_apart" "_law_apart" (defArgs s_L_apart) (defBody s_L_apart) (defScope s_L_apart) .none kV39 dc39 pm39 an39 cd39 ct39), sl39⟩)
    (c39 : PySem.W.codeIn K cd39 "_law_apart" = true) (k39 : PySem.W.keepIn K (.ref f39) = true)
    (a40 : PySem.W.nsIn K mainGlobals "_law_right" = some (some (.ref f40)))
    (l40 : K.lookup f40 = some ⟨oc40, od40, .func (PySem.W.fnOf "_law_right" "_law_right" (defArgs s_L_right) (defBody s_L_right) (defScope s_L_right) .none kV40 dc40 pm40 an40 cd40 ct40), sl40⟩)
    (c40 : PySem.W.codeIn K cd40 "_law_right" = true) (k40 : PySem.W.keepIn K (.ref f40) = true)
    (a41 : PySem.W.nsIn K mainGlobals "_law_near_names" = some (some (.ref f41)))
    (l41 : K.lookup f41 = some ⟨oc41, od41, .func (PySem.W.fnOf "_law_near_names" "_law_near_names" (defArgs s_L_near_names) (defBody s_L_near_names) (defScope s_L_near_names) .none kV41 dc41 pm41 an41 cd41 ct41), sl41⟩)
    (c41 : PySem.W.codeIn K cd41 "_law_near_names" = true) (k41 : PySem.W.keepIn K (.ref f41) = true)
    (a42 : PySem.W.nsIn K mainGlobals "law" = some (some (.ref f42)))
    (l42 : K.lookup f42 = some ⟨oc42, od42, .func (PySem.W.fnOf "law" "law" (defArgs s_L_law) (defBody s_L_law) (defScope s_L_law) .none kV42 dc42 pm42 an42 cd42 ct42), sl42⟩)
    (c42 : PySem.W.codeIn K cd42 "law" = true) (k42 : PySem.W.keepIn K (.ref f42) = true)
    (z_abs : PySem.W.nsIn K mainGlobals "abs" = some none)
    (z_all : PySem.W.nsIn K mainGlobals "all" = some none)
    (z_bool : PySem.W.nsIn K mainGlobals "bool" = some none)
    (z_divmod : PySem.W.nsIn K mainGlobals "divmod" = some none)
    (z_enumerate : PySem.W.nsIn K mainGlobals "enumerate" = some none)
    (z_int : PySem.W.nsIn K mainGlobals "int" = some none)
    (z_isinstance : PySem.W.nsIn K mainGlobals "isinstance" = some none)
    (z_len : PySem.W.nsIn K mainGlobals "len" = some none)
    (z_list : PySem.W.nsIn K mainGlobals "list" = some none)
    (z_max : PySem.W.nsIn K mainGlobals "max" = some none)
    (z_min : PySem.W.nsIn K mainGlobals "min" = some none)
    (z_range : PySem.W.nsIn K mainGlobals "range" = some none)
    (z_repr : PySem.W.nsIn K mainGlobals "repr" = some none)
    (z_reversed : PySem.W.nsIn K mainGlobals "reversed" = some none)
    (z_str : PySem.W.nsIn K mainGlobals "str" = some none)
    (z_sum : PySem.W.nsIn K mainGlobals "sum" = some none)
    (z_tuple : PySem.W.nsIn K mainGlobals "tuple" = some none)
    (z_zip : PySem.W.nsIn K mainGlobals "zip" = some none)
    (x_ABOVE_PIECE : PySem.W.nsIn K mainGlobals "ABOVE_PIECE" = some (some (.int (1000000000000000000000000000000000000000000000000000000000000) tk_ABOVE_PIECE)))
    (x_AT_LEAST : PySem.W.nsIn K mainGlobals "AT_LEAST" = some (some (.str " >= 0" tk_AT_LEAST)))
    (x_BEHIND : PySem.W.nsIn K mainGlobals "BEHIND" = some (some (.str "'" tk_BEHIND)))
    (x_FIGURES : PySem.W.nsIn K mainGlobals "FIGURES" = some (some (.str "0123456789" tk_FIGURES)))
    (x_JUST : PySem.W.nsIn K mainGlobals "JUST" = some (some (.str "just" tk_JUST)))
    (x_JUST_SO : PySem.W.nsIn K mainGlobals "JUST_SO" = some (some (.str " = 0" tk_JUST_SO)))
    (x_LEAST : PySem.W.nsIn K mainGlobals "LEAST" = some (some (.str "least" tk_LEAST)))
    (x_LETTERS : PySem.W.nsIn K mainGlobals "LETTERS" = some (some (.str "abcdefghijklmnopqrstuvwxyz" tk_LETTERS)))
    (x_LONGEST_NAME : PySem.W.nsIn K mainGlobals "LONGEST_NAME" = some (some (.int (6) tk_LONGEST_NAME)))
    (x_MOST_NAMES : PySem.W.nsIn K mainGlobals "MOST_NAMES" = some (some (.int (3) tk_MOST_NAMES)))
    (x_MOST_NUMBERS : PySem.W.nsIn K mainGlobals "MOST_NUMBERS" = some (some (.int (8) tk_MOST_NUMBERS)))
    (x_MOST_PLACES : PySem.W.nsIn K mainGlobals "MOST_PLACES" = some (some (.int (6) tk_MOST_PLACES)))
    (x_MOST_ROWS : PySem.W.nsIn K mainGlobals "MOST_ROWS" = some (some (.int (10) tk_MOST_ROWS)))
    (x_MOST_WISHES : PySem.W.nsIn K mainGlobals "MOST_WISHES" = some (some (.int (12) tk_MOST_WISHES)))
    (x_NUMBERS : PySem.W.nsIn K mainGlobals "NUMBERS" = some (some (.str "numbers" tk_NUMBERS)))
    (x_PIECE : PySem.W.nsIn K mainGlobals "PIECE" = some (some (.int (60) tk_PIECE)))
    (x_PLACES : PySem.W.nsIn K mainGlobals "PLACES" = some (some (.str "places" tk_PLACES)))
    (x_ROW : PySem.W.nsIn K mainGlobals "ROW" = some (some (.str "row" tk_ROW)))
    (hx_NoProgram : PySem.W.nsIn K mainGlobals "NoProgram" = some (some (.ref ec_NoProgram)))
    (hk_NoProgram : PySem.W.keepIn K (.ref ec_NoProgram) = true)
    (hs_NoProgram : PySem.W.subIn K (.ref ec_NoProgram) (.type "BaseException") = some true)
    (ht_NoProgram : PySem.W.typeIn K (.ref ec_NoProgram) = some (.type "type"))
    (y0_NoProgram : PySem.W.findIn K (.ref ec_NoProgram) "__getattribute__" = some (some (.builtin "BaseException.__getattribute__")))
    (y1_NoProgram : PySem.W.findIn K (.ref ec_NoProgram) "__getattr__" = some none)
    (y2_NoProgram : PySem.W.hasDictIn K ec_NoProgram = true)
    (y3_NoProgram : PySem.W.findIn K (.ref ec_NoProgram) "__class__" = some (some (.builtin "object.__class__")))
    (y4_NoProgram : PySem.W.specialIn K (.builtin "object.__class__") "__get__" = some (some (.builtin "getset_descriptor.__get__")))
    (y5_NoProgram : PySem.W.takesIn K (.builtin "object.__class__") = some true)
    (y6_NoProgram : PySem.W.mroIn K ec_NoProgram (.type "object") = some true)
    (hx_NoText : PySem.W.nsIn K mainGlobals "NoText" = some (some (.ref ec_NoText)))
    (hk_NoText : PySem.W.keepIn K (.ref ec_NoText) = true)
    (hs_NoText : PySem.W.subIn K (.ref ec_NoText) (.type "BaseException") = some true)
    (ht_NoText : PySem.W.typeIn K (.ref ec_NoText) = some (.type "type"))
    (y0_NoText : PySem.W.findIn K (.ref ec_NoText) "__getattribute__" = some (some (.builtin "BaseException.__getattribute__")))
    (y1_NoText : PySem.W.findIn K (.ref ec_NoText) "__getattr__" = some none)
    (y2_NoText : PySem.W.hasDictIn K ec_NoText = true)
    (y3_NoText : PySem.W.findIn K (.ref ec_NoText) "__class__" = some (some (.builtin "object.__class__")))
    (y4_NoText : PySem.W.specialIn K (.builtin "object.__class__") "__get__" = some (some (.builtin "getset_descriptor.__get__")))
    (y5_NoText : PySem.W.takesIn K (.builtin "object.__class__") = some true)
    (y6_NoText : PySem.W.mroIn K ec_NoText (.type "object") = some true)
    (i0_NoText : PySem.W.findIn K (.ref ec_NoText) "__init__" = some (some (.ref fi_NoText)))
    (i1_NoText : K.lookup fi_NoText = some ⟨ioc_NoText, iod_NoText, .func (PySem.W.ksFn "__init__" "NoText.__init__" (defArgs (clsInit s_NoText)) (defBody (clsInit s_NoText)) (defScope (clsInit s_NoText)) .none ikV_NoText idc_NoText ipm_NoText ian_NoText (.ref icd_NoText) ict_NoText icc_NoText), isl_NoText⟩)
    (i2_NoText : PySem.W.codeIn K (.ref icd_NoText) "NoText.__init__" = true)
    (i3_NoText : PySem.W.isFn K (.ref fi_NoText) = true)
    (i4_NoText : PySem.W.excInitIn K ec_NoText bm_ValueError "ValueError.__new__" = true)
    (i5_NoText : PySem.W.excOver K ec_NoText bm_ValueError = true)
    (i6_NoText : PySem.W.findIn K (.ref ec_NoText) "__setattr__" = some (some (.builtin "object.__setattr__")))
    (i7_NoText : PySem.W.ks_superIn K ec_NoText ec_NoText "__init__" = some (some (.builtin "ValueError.__init__")))
    (i8_NoText : PySem.W.mroIn K ec_NoText (.ref ec_NoText) = some true)
    (i9_NoText : PySem.W.subIn K (.ref ec_NoText) (.type "ValueError") = some true)
    (ia_NoText : K.lookup icc_NoText = some ⟨jcl_NoText, jcd_NoText, .cell (some (.ref ec_NoText)), jcs_NoText⟩)
    (ib_NoText : K.lookup icd_NoText = some ⟨kcl_NoText, kcd_NoText, .fields kvs_NoText, kcs_NoText⟩)
    (ic_NoText : kvs_NoText[2]? = some (.str kfl_NoText kft_NoText))
    (id_NoText : ((l.prog.main.file : Str) == kfl_NoText) = true)
    (ie_NoText_row : PySem.W.takerIn K ec_NoText "row" = some none)
    (z_super : PySem.W.nsIn K mainGlobals "super" = some none)
    (zz_any : PySem.W.nsIn K cStatics "thirdparty.any" = some none)
    (z_top : (l.prog.main.scope.names.lookup ("super" : Str)).isSome = false)
    : ∃ fd : FuncData, (∀ (s : Shared) (v : Value), BindsTo s fd ⟨[v], []⟩ [("_law_script", v)]) ∧
      ∀ base : Heap, K.In base → base.Ns mainGlobals mg → FnG l.prog w K mg base 11 fa fd ["_law_script"] (spD K sp_L_law) := by
  have e := hfa.symm.trans (PySem.W.mg_of X G a42)
  cases e
  have F0 := fun_mk (st := s_p_in_figures) l0 c0 k0
  have F1 := fun_mk (st := s_p_is_figures) l1 c1 k1
  have F2 := fun_mk (st := s_p_of_figures) l2 c2 k2
  have F3 := fun_mk (st := s_p_is_whole) l3 c3 k3
  have F4 := fun_mk (st := s_p_look_at_many) l4 c4 k4
  have F5 := fun_mk (st := s_p_is_line) l5 c5 k5
  have F6 := fun_mk (st := s_p_is_wish) l6 c6 k6
  have F7 := fun_mk (st := s_p_shown_size) l7 c7 k7
  have F8 := fun_mk (st := s_p_shown_line) l8 c8 k8
  have F9 := fun_mk (st := s_p_shown_wish) l9 c9 k9
  have F10 := fun_mk (st := s_p_read_size) l10 c10 k10
  have F11 := fun_mk (st := s_p_read_signs) l11 c11 k11
  have F12 := fun_mk (st := s_p_read_line) l12 c12 k12
  have F13 := fun_mk (st := s_p_read_wish) l13 c13 k13
  have F14 := fun_mk (st := s_p_is_one_of) l14 c14 k14
  have F15 := fun_mk (st := s_p_is_letters) l15 c15 k15
  have F16 := fun_mk (st := s_p_is_name) l16 c16 k16
  have F17 := fun_mk (st := s_p_look_at_names) l17 c17 k17
  have F18 := fun_mk (st := s_p_is_wishes) l18 c18 k18
  have F19 := fun_mk (st := s_p_is_row) l19 c19 k19
  have F20 := fun_mk (st := s_p_look_at_rows) l20 c20 k20
  have F21 := fun_mk (st := s_p_look_at) l21 c21 k21
  have F22 := fun_mk (st := s_p_both_sides) l22 c22 k22
  have F23 := fun_mk (st := s_p_shown_program) l23 c23 k23
  have F24 := fun_mk (st := s_p_read_names) l24 c24 k24
  have F25 := fun_mk (st := s_p_read_way) l25 c25 k25
  have F26 := fun_mk (st := s_p_read_wish_at) l26 c26 k26
  have F27 := fun_mk (st := s_p_read_rows) l27 c27 k27
  have F28 := fun_mk (st := s_p_read_program) l28 c28 k28
  have F29 := fun_mk (st := s_L_pool) l29 c29 k29
  have F30 := fun_mk (st := s_L_take) l30 c30 k30
  have F31 := fun_mk (st := s_L_names) l31 c31 k31
  have F32 := fun_mk (st := s_L_factor) l32 c32 k32
  have F33 := fun_mk (st := s_L_line) l33 c33 k33
  have F34 := fun_mk (st := s_L_wishes) l34 c34 k34
  have F35 := fun_mk (st := s_L_program) l35 c35 k35
  have F36 := fun_mk (st := s_L_line_text) l36 c36 k36
  have F37 := fun_mk (st := s_L_wish_text) l37 c37 k37
  have F38 := fun_mk (st := s_L_program_text) l38 c38 k38
  have F39 := fun_mk (st := s_L_apart) l39 c39 k39
  have F40 := fun_mk (st := s_L_right) l40 c40 k40
  have F41 := fun_mk (st := s_L_near_names) l41 c41 k41
  have F42 := fun_mk (st := s_L_law) l42 c42 k42
  have xb_NoProgram : ExB K "NoProgram" ec_NoProgram := ⟨hx_NoProgram, hk_NoProgram, hs_NoProgram, ht_NoProgram, ⟨y0_NoProgram, y1_NoProgram, hs_NoProgram, y2_NoProgram, y3_NoProgram, y4_NoProgram, y5_NoProgram, y6_NoProgram⟩⟩
  have xb_NoText : ExB K "NoText" ec_NoText := ⟨hx_NoText, hk_NoText, hs_NoText, ht_NoText, ⟨y0_NoText, y1_NoText, hs_NoText, y2_NoText, y3_NoText, y4_NoText, y5_NoText, y6_NoText⟩⟩
  let T : Tx l.prog K mg := {
    n_abs := PySem.W.mg_none_of X G z_abs
    n_all := PySem.W.mg_none_of X G z_all
    n_bool := PySem.W.mg_none_of X G z_bool
    n_divmod := PySem.W.mg_none_of X G z_divmod
    n_enumerate := PySem.W.mg_none_of X G z_enumerate
    n_int := PySem.W.mg_none_of X G z_int
    n_isinstance := PySem.W.mg_none_of X G z_isinstance
    n_len := PySem.W.mg_none_of X G z_len
    n_list := PySem.W.mg_none_of X G z_list
    n_max := PySem.W.mg_none_of X G z_max
    n_min := PySem.W.mg_none_of X G z_min
    n_range := PySem.W.mg_none_of X G z_range
    n_repr := PySem.W.mg_none_of X G z_repr
    n_reversed := PySem.W.mg_none_of X G z_reversed
    n_str := PySem.W.mg_none_of X G z_str
    n_sum := PySem.W.mg_none_of X G z_sum
    n_tuple := PySem.W.mg_none_of X G z_tuple
    n_zip := PySem.W.mg_none_of X G z_zip
    u_ABOVE_PIECE := tk_ABOVE_PIECE
    c_ABOVE_PIECE := PySem.W.mg_of X G x_ABOVE_PIECE
    u_AT_LEAST := tk_AT_LEAST
    c_AT_LEAST := PySem.W.mg_of X G x_AT_LEAST
    u_BEHIND := tk_BEHIND
    c_BEHIND := PySem.W.mg_of X G x_BEHIND
    u_FIGURES := tk_FIGURES
    c_FIGURES := PySem.W.mg_of X G x_FIGURES
    u_JUST := tk_JUST
    c_JUST := PySem.W.mg_of X G x_JUST
    u_JUST_SO := tk_JUST_SO
    c_JUST_SO := PySem.W.mg_of X G x_JUST_SO
    u_LEAST := tk_LEAST
    c_LEAST := PySem.W.mg_of X G x_LEAST
    u_LETTERS := tk_LETTERS
    c_LETTERS := PySem.W.mg_of X G x_LETTERS
    u_LONGEST_NAME := tk_LONGEST_NAME
    c_LONGEST_NAME := PySem.W.mg_of X G x_LONGEST_NAME
    u_MOST_NAMES := tk_MOST_NAMES
    c_MOST_NAMES := PySem.W.mg_of X G x_MOST_NAMES
    u_MOST_NUMBERS := tk_MOST_NUMBERS
    c_MOST_NUMBERS := PySem.W.mg_of X G x_MOST_NUMBERS
    u_MOST_PLACES := tk_MOST_PLACES
    c_MOST_PLACES := PySem.W.mg_of X G x_MOST_PLACES
    u_MOST_ROWS := tk_MOST_ROWS
    c_MOST_ROWS := PySem.W.mg_of X G x_MOST_ROWS
    u_MOST_WISHES := tk_MOST_WISHES
    c_MOST_WISHES := PySem.W.mg_of X G x_MOST_WISHES
    u_NUMBERS := tk_NUMBERS
    c_NUMBERS := PySem.W.mg_of X G x_NUMBERS
    u_PIECE := tk_PIECE
    c_PIECE := PySem.W.mg_of X G x_PIECE
    u_PLACES := tk_PLACES
    c_PLACES := PySem.W.mg_of X G x_PLACES
    u_ROW := tk_ROW
    c_ROW := PySem.W.mg_of X G x_ROW
    e_NoProgram := ec_NoProgram
    gx_NoProgram := PySem.W.mg_of X G hx_NoProgram
    x_NoProgram := xb_NoProgram
    e_NoText := ec_NoText
    gx_NoText := PySem.W.mg_of X G hx_NoText
    x_NoText := xb_NoText
    fi_NoText := fi_NoText
    cc_NoText := icc_NoText
    cd_NoText := icd_NoText
    fd_NoText := _
    i_NoText := ⟨hx_NoText, hk_NoText, hs_NoText, i9_NoText, ht_NoText, i0_NoText, i3_NoText, i4_NoText, i5_NoText, i6_NoText, y2_NoText, i7_NoText, i8_NoText, fun f hf => by simp only [List.mem_cons, List.not_mem_nil, or_false] at hf; subst hf; exact ie_NoText_row, ⟨_, _, _, ia_NoText⟩, ⟨_, _, _, _, _, _, ib_NoText, ic_NoText, id_NoText⟩, z_super, zz_any, z_top⟩
    j_NoText := initF_mk it_NoText i1_NoText i2_NoText
    f_p_in_figures := f0
    d_p_in_figures := _
    F_p_in_figures := F0
    g_p_in_figures := PySem.W.mg_of X G a0
    f_p_is_figures := f1
    d_p_is_figures := _
    F_p_is_figures := F1
    g_p_is_figures := PySem.W.mg_of X G a1
    f_p_of_figures := f2
    d_p_of_figures := _
    F_p_of_figures := F2
    g_p_of_figures := PySem.W.mg_of X G a2
    f_p_is_whole := f3
    d_p_is_whole := _
    F_p_is_whole := F3
    g_p_is_whole := PySem.W.mg_of X G a3
    f_p_look_at_many := f4
    d_p_look_at_many := _
    F_p_look_at_many := F4
    g_p_look_at_many := PySem.W.mg_of X G a4
    f_p_is_line := f5
    d_p_is_line := _
    F_p_is_line := F5
    g_p_is_line := PySem.W.mg_of X G a5
    f_p_is_wish := f6
    d_p_is_wish := _
    F_p_is_wish := F6
    g_p_is_wish := PySem.W.mg_of X G a6
    f_p_shown_size := f7
    d_p_shown_size := _
    F_p_shown_size := F7
    g_p_shown_size := PySem.W.mg_of X G a7
    f_p_shown_line := f8
    d_p_shown_line := _
    F_p_shown_line := F8
    g_p_shown_line := PySem.W.mg_of X G a8
    f_p_shown_wish := f9
    d_p_shown_wish := _
    F_p_shown_wish := F9
    g_p_shown_wish := PySem.W.mg_of X G a9
    f_p_read_size := f10
    d_p_read_size := _
    F_p_read_size := F10
    g_p_read_size := PySem.W.mg_of X G a10
    f_p_read_signs := f11
    d_p_read_signs := _
    F_p_read_signs := F11
    g_p_read_signs := PySem.W.mg_of X G a11
    f_p_read_line := f12
    d_p_read_line := _
    F_p_read_line := F12
    g_p_read_line := PySem.W.mg_of X G a12
    f_p_read_wish := f13
    d_p_read_wish := _
    F_p_read_wish := F13
    g_p_read_wish := PySem.W.mg_of X G a13
    f_p_is_one_of := f14
    d_p_is_one_of := _
    F_p_is_one_of := F14
    g_p_is_one_of := PySem.W.mg_of X G a14
    f_p_is_letters := f15
    d_p_is_letters := _
    F_p_is_letters := F15
    g_p_is_letters := PySem.W.mg_of X G a15
    f_p_is_name := f16
    d_p_is_name := _
    F_p_is_name := F16
    g_p_is_name := PySem.W.mg_of X G a16
    f_p_look_at_names := f17
    d_p_look_at_names := _
    F_p_look_at_names := F17
    g_p_look_at_names := PySem.W.mg_of X G a17
    f_p_is_wishes := f18
    d_p_is_wishes := _
    F_p_is_wishes := F18
    g_p_is_wishes := PySem.W.mg_of X G a18
    f_p_is_row := f19
    d_p_is_row := _
    F_p_is_row := F19
    g_p_is_row := PySem.W.mg_of X G a19
    f_p_look_at_rows := f20
    d_p_look_at_rows := _
    F_p_look_at_rows := F20
    g_p_look_at_rows := PySem.W.mg_of X G a20
    f_p_look_at := f21
    d_p_look_at := _
    F_p_look_at := F21
    g_p_look_at := PySem.W.mg_of X G a21
    f_p_both_sides := f22
    d_p_both_sides := _
    F_p_both_sides := F22
    g_p_both_sides := PySem.W.mg_of X G a22
    f_p_shown_program := f23
    d_p_shown_program := _
    F_p_shown_program := F23
    g_p_shown_program := PySem.W.mg_of X G a23
    f_p_read_names := f24
    d_p_read_names := _
    F_p_read_names := F24
    g_p_read_names := PySem.W.mg_of X G a24
    f_p_read_way := f25
    d_p_read_way := _
    F_p_read_way := F25
    g_p_read_way := PySem.W.mg_of X G a25
    f_p_read_wish_at := f26
    d_p_read_wish_at := _
    F_p_read_wish_at := F26
    g_p_read_wish_at := PySem.W.mg_of X G a26
    f_p_read_rows := f27
    d_p_read_rows := _
    F_p_read_rows := F27
    g_p_read_rows := PySem.W.mg_of X G a27
    f_p_read_program := f28
    d_p_read_program := _
    F_p_read_program := F28
    g_p_read_program := PySem.W.mg_of X G a28
    f_L_pool := f29
    d_L_pool := _
    F_L_pool := F29
    g_L_pool := PySem.W.mg_of X G a29
    f_L_take := f30
    d_L_take := _
    F_L_take := F30
    g_L_take := PySem.W.mg_of X G a30
    f_L_names := f31
    d_L_names := _
    F_L_names := F31
    g_L_names := PySem.W.mg_of X G a31
    f_L_factor := f32
    d_L_factor := _
    F_L_factor := F32
    g_L_factor := PySem.W.mg_of X G a32
    f_L_line := f33
    d_L_line := _
    F_L_line := F33
    g_L_line := PySem.W.mg_of X G a33
    f_L_wishes := f34
    d_L_wishes := _
    F_L_wishes := F34
    g_L_wishes := PySem.W.mg_of X G a34
    f_L_program := f35
    d_L_program := _
    F_L_program := F35
    g_L_program := PySem.W.mg_of X G a35
    f_L_line_text := f36
    d_L_line_text := _
    F_L_line_text := F36
    g_L_line_text := PySem.W.mg_of X G a36
    f_L_wish_text := f37
    d_L_wish_text := _
    F_L_wish_text := F37
    g_L_wish_text := PySem.W.mg_of X G a37
    f_L_program_text := f38
    d_L_program_text := _
    F_L_program_text := F38
    g_L_program_text := PySem.W.mg_of X G a38
    f_L_apart := f39
    d_L_apart := _
    F_L_apart := F39
    g_L_apart := PySem.W.mg_of X G a39
    f_L_right := f40
    d_L_right := _
    F_L_right := F40
    g_L_right := PySem.W.mg_of X G a40
    f_L_near_names := f41
    d_L_near_names := _
    F_L_near_names := F41
    g_L_near_names := PySem.W.mg_of X G a41
    f_L_law := fa
    d_L_law := _
    F_L_law := F42
    g_L_law := PySem.W.mg_of X G a42
    b_L_apart_1 := bnd_of F39 fun _ _ _ _ _ _ us ws h1 h2 => match us, ws, h1, h2 with | [_], [], _, _ => rfl
    b_L_factor_1 := bnd_of F32 fun _ _ _ _ _ _ us ws h1 h2 => match us, ws, h1, h2 with | [_], [], _, _ => rfl
    b_L_line_2 := bnd_of F33 fun _ _ _ _ _ _ us ws h1 h2 => match us, ws, h1, h2 with | [_, _], [], _, _ => rfl
    b_L_line_text_2 := bnd_of F36 fun _ _ _ _ _ _ us ws h1 h2 => match us, ws, h1, h2 with | [_, _], [], _, _ => rfl
    b_L_names_3 := bnd_of F31 fun _ _ _ _ _ _ us ws h1 h2 => match us, ws, h1, h2 with | [_, _, _], [], _, _ => rfl
    b_L_near_names_0 := bnd_of F41 fun _ _ _ _ _ _ us ws h1 h2 => match us, ws, h1, h2 with | [], [], _, _ => rfl
    b_L_pool_2 := bnd_of F29 fun _ _ _ _ _ _ us ws h1 h2 => match us, ws, h1, h2 with | [_, _], [], _, _ => rfl
    b_L_program_3 := bnd_of F35 fun _ _ _ _ _ _ us ws h1 h2 => match us, ws, h1, h2 with | [_, _, _], [], _, _ => rfl
    b_L_program_text_1 := bnd_of F38 fun _ _ _ _ _ _ us ws h1 h2 => match us, ws, h1, h2 with | [_], [], _, _ => rfl
    b_L_right_1 := bnd_of F40 fun _ _ _ _ _ _ us ws h1 h2 => match us, ws, h1, h2 with | [_], [], _, _ => rfl
    b_L_take_2 := bnd_of F30 fun _ _ _ _ _ _ us ws h1 h2 => match us, ws, h1, h2 with | [_, _], [], _, _ => rfl
    b_L_wish_text_2 := bnd_of F37 fun _ _ _ _ _ _ us ws h1 h2 => match us, ws, h1, h2 with | [_, _], [], _, _ => rfl
    b_L_wishes_3 := bnd_of F34 fun _ _ _ _ _ _ us ws h1 h2 => match us, ws, h1, h2 with | [_, _, _], [], _, _ => rfl
    b_p_both_sides_1 := bnd_of F22 fun _ _ _ _ _ _ us ws h1 h2 => match us, ws, h1, h2 with | [_], [], _, _ => rfl
    b_p_in_figures_1 := bnd_of F0 fun _ _ _ _ _ _ us ws h1 h2 => match us, ws, h1, h2 with | [_], [], _, _ => rfl
    b_p_is_figures_1 := bnd_of F1 fun _ _ _ _ _ _ us ws h1 h2 => match us, ws, h1, h2 with | [_], [], _, _ => rfl
    b_p_is_letters_2 := bnd_of F15 fun _ _ _ _ _ _ us ws h1 h2 => match us, ws, h1, h2 with | [_, _], [], _, _ => rfl
    b_p_is_line_2 := bnd_of F5 fun _ _ _ _ _ _ us ws h1 h2 => match us, ws, h1, h2 with | [_, _], [], _, _ => rfl
    b_p_is_name_1 := bnd_of F16 fun _ _ _ _ _ _ us ws h1 h2 => match us, ws, h1, h2 with | [_], [], _, _ => rfl
    b_p_is_one_of_2 := bnd_of F14 fun _ _ _ _ _ _ us ws h1 h2 => match us, ws, h1, h2 with | [_, _], [], _, _ => rfl
    b_p_is_row_3 := bnd_of F19 fun _ _ _ _ _ _ us ws h1 h2 => match us, ws, h1, h2 with | [_, _, _], [], _, _ => rfl
    b_p_is_whole_1 := bnd_of F3 fun _ _ _ _ _ _ us ws h1 h2 => match us, ws, h1, h2 with | [_], [], _, _ => rfl
    b_p_is_wish_2 := bnd_of F6 fun _ _ _ _ _ _ us ws h1 h2 => match us, ws, h1, h2 with | [_, _], [], _, _ => rfl
    b_p_is_wishes_2 := bnd_of F18 fun _ _ _ _ _ _ us ws h1 h2 => match us, ws, h1, h2 with | [_, _], [], _, _ => rfl
    b_p_look_at_1 := bnd_of F21 fun _ _ _ _ _ _ us ws h1 h2 => match us, ws, h1, h2 with | [_], [], _, _ => rfl
    b_p_look_at_many_1 := bnd_of F4 fun _ _ _ _ _ _ us ws h1 h2 => match us, ws, h1, h2 with | [_], [], _, _ => rfl
    b_p_look_at_names_3 := bnd_of F17 fun _ _ _ _ _ _ us ws h1 h2 => match us, ws, h1, h2 with | [_, _, _], [], _, _ => rfl
    b_p_look_at_rows_3 := bnd_of F20 fun _ _ _ _ _ _ us ws h1 h2 => match us, ws, h1, h2 with | [_, _, _], [], _, _ => rfl
    b_p_of_figures_1 := bnd_of F2 fun _ _ _ _ _ _ us ws h1 h2 => match us, ws, h1, h2 with | [_], [], _, _ => rfl
    b_p_read_line_2 := bnd_of F12 fun _ _ _ _ _ _ us ws h1 h2 => match us, ws, h1, h2 with | [_, _], [], _, _ => rfl
    b_p_read_names_4 := bnd_of F24 fun _ _ _ _ _ _ us ws h1 h2 => match us, ws, h1, h2 with | [_, _, _, _], [], _, _ => rfl
    b_p_read_program_0_text := bnd_of F28 fun _ _ _ _ _ _ us ws h1 h2 => match us, ws, h1, h2 with | [], [_], _, _ => rfl
    b_p_read_program_1 := bnd_of F28 fun _ _ _ _ _ _ us ws h1 h2 => match us, ws, h1, h2 with | [_], [], _, _ => rfl
    b_p_read_rows_3 := bnd_of F27 fun _ _ _ _ _ _ us ws h1 h2 => match us, ws, h1, h2 with | [_, _, _], [], _, _ => rfl
    b_p_read_signs_1 := bnd_of F11 fun _ _ _ _ _ _ us ws h1 h2 => match us, ws, h1, h2 with | [_], [], _, _ => rfl
    b_p_read_size_2 := bnd_of F10 fun _ _ _ _ _ _ us ws h1 h2 => match us, ws, h1, h2 with | [_, _], [], _, _ => rfl
    b_p_read_way_2 := bnd_of F25 fun _ _ _ _ _ _ us ws h1 h2 => match us, ws, h1, h2 with | [_, _], [], _, _ => rfl
    b_p_read_wish_2 := bnd_of F13 fun _ _ _ _ _ _ us ws h1 h2 => match us, ws, h1, h2 with | [_, _], [], _, _ => rfl
    b_p_read_wish_at_3 := bnd_of F26 fun _ _ _ _ _ _ us ws h1 h2 => match us, ws, h1, h2 with | [_, _, _], [], _, _ => rfl
    b_p_shown_line_2 := bnd_of F8 fun _ _ _ _ _ _ us ws h1 h2 => match us, ws, h1, h2 with | [_, _], [], _, _ => rfl
    b_p_shown_program_0_program := bnd_of F23 fun _ _ _ _ _ _ us ws h1 h2 => match us, ws, h1, h2 with | [], [_], _, _ => rfl
    b_p_shown_program_1 := bnd_of F23 fun _ _ _ _ _ _ us ws h1 h2 => match us, ws, h1, h2 with | [_], [], _, _ => rfl
    b_p_shown_size_2 := bnd_of F7 fun _ _ _ _ _ _ us ws h1 h2 => match us, ws, h1, h2 with | [_, _], [], _, _ => rfl
    b_p_shown_wish_2 := bnd_of F9 fun _ _ _ _ _ _ us ws h1 h2 => match us, ws, h1, h2 with | [_, _], [], _, _ => rfl }
  exact ⟨_, fun s v => .of_eq rfl, fun base _ _ => ok_L_law (base := base) T⟩
end Pf
open PySem PySem.W PyProof.Rows
set_option maxHeartbeats 0 in
theorem PySem.Challenge.cw_downweigh_k22_programs_written_holds : PySem.Challenge.rw_downweigh_k22_programs_written.Holds := by
  w_on; o_law; k_head; (case hw => w_witness2)
  k_fill
  refine DL.walkG (l := PySem.Challenge.rw_downweigh_k22_programs_written) (n := 63) (k := 11) (x := "_law_script") (fs := Pf.sp_L_law) rfl (by decide) rfl ⟨rfl, by decide, by decide⟩ (by rfl) (fun _ => by kernel_rfl) (fun w h Y => PySem.W.kIn_of Y) ?F (fun ns _ => ⟨ns, rfl, (fun _ h => by cases h), fun _ => rfl⟩)
  case F =>
    intro w mg fa h KX G hmg
    refine' Pf.all_mk KX G hmg ?a0 ?l0 ?c0 ?k0 ?a1 ?l1 ?c1 ?k1 ?a2 ?l2 ?c2 ?k2 ?a3 ?l3 ?c3 ?k3 ?a4 ?l4 ?c4 ?k4 ?a5 ?l5 ?c5 ?k5 ?a6 ?l6 ?c6 ?k6 ?a7 ?l7 ?c7 ?k7 ?a8 ?l8 ?c8 ?k8 ?a9 ?l9 ?c9 ?k9 ?a10 ?l10 ?c10 ?k10 ?a11 ?l11 ?c11 ?k11 ?a12 ?l12 ?c12 ?k12 ?a13 ?l13 ?c13 ?k13 ?a14 ?l14 ?c14 ?k14 ?a15 ?l15 ?c15 ?k15 ?a16 ?l16 ?c16 ?k16 ?a17 ?l17 ?c17 ?k17 ?a18 ?l18 ?c18 ?k18 ?a19 ?l19 ?c19 ?k19 ?a20 ?l20 ?c20 ?k20 ?a21 ?l21 ?c21 ?k21 ?a22 ?l22 ?c22 ?k22 ?a23 ?l23 ?c23 ?k23 ?a24 ?l24 ?c24 ?k24 ?a25 ?l25 ?c25 ?k25 ?a26 ?l26 ?c26 ?k26 ?a27 ?l27 ?c27 ?k27 ?a28 ?l28 ?c28 ?k28 ?a29 ?l29 ?c29 ?k29 ?a30 ?l30 ?c30 ?k30 ?a31 ?l31 ?c31 ?k31 ?a32 ?l32 ?c32 ?k32 ?a33 ?l33 ?c33 ?k33 ?a34 ?l34 ?c34 ?k34 ?a35 ?l35 ?c35 ?k35 ?a36 ?l36 ?c36 ?k36 ?a37 ?l37 ?c37 ?k37 ?a38 ?l38 ?c38 ?k38 ?a39 ?l39 ?c39 ?k39 ?a40 ?l40 ?c40 ?k40 ?a41 ?l41 ?c41 ?k41 ?a42 ?l42 ?c42 ?k42 ?z_abs ?z_all ?z_bool ?z_divmod ?z_enumerate ?z_int ?z_isinstance ?z_len ?z_list ?z_max ?z_min ?z_range ?z_repr ?z_reversed ?z_str ?z_sum ?z_tuple ?z_zip ?x_ABOVE_PIECE ?x_AT_LEAST ?x_BEHIND ?x_FIGURES ?x_JUST ?x_JUST_SO ?x_LEAST ?x_LETTERS ?x_LONGEST_NAME ?x_MOST_NAMES ?x_MOST_NUMBERS ?x_MOST_PLACES ?x_MOST_ROWS ?x_MOST_WISHES ?x_NUMBERS ?x_PIECE ?x_PLACES ?x_ROW ?hx_NoProgram ?hk_NoProgram ?hs_NoProgram ?ht_NoProgram ?y0_NoProgram ?y1_NoProgram ?y2_NoProgram ?y3_NoProgram ?y4_NoProgram ?y5_NoProgram ?y6_NoProgram ?hx_NoText ?hk_NoText ?hs_NoText ?ht_NoText ?y0_NoText ?y1_NoText ?y2_NoText ?y3_NoText ?y4_NoText ?y5_NoText ?y6_NoText ?i0_NoText ?i1_NoText ?i2_NoText ?i3_NoText ?i4_NoText ?i5_NoText ?i6_NoText ?i7_NoText ?i8_NoText ?i9_NoText ?ia_NoText ?ib_NoText ?ic_NoText ?id_NoText ?ie_NoText_row ?z_super ?zz_any ?z_top
    (case a0 => k_is); (case l0 => k_is); (case c0 => k_is); (case k0 => k_is); (case a1 => k_is); (case l1 => k_is); (case c1 => k_is); (case k1 => k_is); (case a2 => k_is); (case l2 => k_is); (case c2 => k_is); (case k2 => k_is); (case a3 => k_is); (case l3 => k_is); (case c3 => k_is); (case k3 => k_is); (case a4 => k_is); (case l4 => k_is); (case c4 => k_is); (case k4 => k_is); (case a5 => k_is); (case l5 => k_is); (case c5 => k_is); (case k5 => k_is); (case a6 => k_is); (case l6 => k_is); (case c6 => k_is); (case k6 => k_is); (case a7 => k_is); (case l7 => k_is); (case c7 => k_is); (case k7 => k_is); (case a8 => k_is); (case l8 => k_is); (case c8 => k_is); (case k8 => k_is); (case a9 => k_is); (case l9 => k_is); (case c9 => k_is); (case k9 => k_is); (case a10 => k_is); (case l10 => k_is); (case c10 => k_is); (case k10 => k_is); (case a11 => k_is); (case l11 => k_is); (case c11 => k_is); (case k11 => k_is); (case a12 => k_is); (case l12 => k_is); (case c12 => k_is); (case k12 => k_is); (case a13 => k_is); (case l13 => k_is); (case c13 => k_is); (case k13 => k_is); (case a14 => k_is); (case l14 => k_is); (case c14 => k_is); (case k14 => k_is); (case a15 => k_is); (case l15 => k_is); (case c15 => k_is); (case k15 => k_is); (case a16 => k_is); (case l16 => k_is); (case c16 => k_is); (case k16 => k_is); (case a17 => k_is); (case l17 => k_is); (case c17 => k_is); (case k17 => k_is); (case a18 => k_is); (case l18 => k_is); (case c18 => k_is); (case k18 => k_is); (case a19 => k_is); (case l19 => k_is); (case c19 => k_is); (case k19 => k_is); (case a20 => k_is); (case l20 => k_is); (case c20 => k_is); (case k20 => k_is); (case a21 => k_is); (case l21 => k_is); (case c21 => k_is); (case k21 => k_is); (case a22 => k_is); (case l22 => k_is); (case c22 => k_is); (case k22 => k_is); (case a23 => k_is); (case l23 => k_is); (case c23 => k_is); (case k23 => k_is); (case a24 => k_is); (case l24 => k_is); (case c24 => k_is); (case k24 => k_is); (case a25 => k_is); (case l25 => k_is); (case c25 => k_is); (case k25 => k_is); (case a26 => k_is); (case l26 => k_is); (case c26 => k_is); (case k26 => k_is); (case a27 => k_is); (case l27 => k_is); (case c27 => k_is); (case k27 => k_is); (case a28 => k_is); (case l28 => k_is); (case c28 => k_is); (case k28 => k_is); (case a29 => k_is); (case l29 => k_is); (case c29 => k_is); (case k29 => k_is); (case a30 => k_is); (case l30 => k_is); (case c30 => k_is); (case k30 => k_is); (case a31 => k_is); (case l31 => k_is); (case c31 => k_is); (case k31 => k_is); (case a32 => k_is); (case l32 => k_is); (case c32 => k_is); (case k32 => k_is); (case a33 => k_is); (case l33 => k_is); (case c33 => k_is); (case k33 => k_is); (case a34 => k_is); (case l34 => k_is); (case c34 => k_is); (case k34 => k_is); (case a35 => k_is); (case l35 => k_is); (case c35 => k_is); (case k35 => k_is); (case a36 => k_is); (case l36 => k_is); (case c36 => k_is); (case k36 => k_is); (case a37 => k_is); (case l37 => k_is); (case c37 => k_is); (case k37 => k_is); (case a38 => k_is); (case l38 => k_is); (case c38 => k_is); (case k38 => k_is); (case a39 => k_is); (case l39 => k_is); (case c39 => k_is); (case k39 => k_is); (case a40 => k_is); (case l40 => k_is); (case c40 => k_is); (case k40 => k_is); (case a41 => k_is); (case l41 => k_is); (case c41 => k_is); (case k41 => k_is); (case a42 => k_is); (case l42 => k_is); (case c42 => k_is); (case k42 => k_is); (case z_abs => k_is); (case z_all => k_is); (case z_bool => k_is); (case z_divmod => k_is); (case z_enumerate => k_is); (case z_int => k_is); (case z_isinstance => k_is); (case z_len => k_is); (case z_list => k_is); (case z_max => k_is); (case z_min => k_is); (case z_range => k_is); (case z_repr => k_is); (case z_reversed => k_is); (case z_str => k_is); (case z_sum => k_is); (case z_tuple => k_is); (case z_zip => k_is); (case x_ABOVE_PIECE => k_is); (case x_AT_LEAST => k_is); (case x_BEHIND => k_is); (case x_FIGURES => k_is); (case x_JUST => k_is); (case x_JUST_SO => k_is); (case x_LEAST => k_is); (case x_LETTERS => k_is); (case x_LONGEST_NAME => k_is); (case x_MOST_NAMES => k_is); (case x_MOST_NUMBERS => k_is); (case x_MOST_PLACES => k_is); (case x_MOST_ROWS => k_is); (case x_MOST_WISHES => k_is); (case x_NUMBERS => k_is); (case x_PIECE => k_is); (case x_PLACES => k_is); (case x_ROW => k_is); (case hx_NoProgram => k_is); (case hk_NoProgram => k_is); (case hs_NoProgram => k_is); (case ht_NoProgram => k_is); (case y0_NoProgram => k_is); (case y1_NoProgram => k_is); (case y2_NoProgram => k_is); (case y3_NoProgram => k_is); (case y4_NoProgram => k_is); (case y5_NoProgram => k_is); (case y6_NoProgram => k_is); (case hx_NoText => k_is); (case hk_NoText => k_is); (case hs_NoText => k_is); (case ht_NoText => k_is); (case y0_NoText => k_is); (case y1_NoText => k_is); (case y2_NoText => k_is); (case y3_NoText => k_is); (case y4_NoText => k_is); (case y5_NoText => k_is); (case y6_NoText => k_is); (case i0_NoText => k_is); (case i1_NoText => k_is); (case i2_NoText => k_is); (case i3_NoText => kernel_rfl); (case i4_NoText => kernel_rfl); (case i5_NoText => kernel_rfl); (case i6_NoText => k_is); (case i7_NoText => kernel_rfl); (case i8_NoText => k_is); (case i9_NoText => k_is); (case ia_NoText => k_is); (case ib_NoText => k_is); (case ic_NoText => rfl); (case id_NoText => kernel_rfl); (case ie_NoText_row => kernel_rfl); (case z_super => k_is); (case zz_any => k_is); (case z_top => kernel_rfl)
