import PyProof.Rows.All
import Wide.All
import OpenK.AllK
import Wide.FinOn
import HandS.ForMost
import HandS.Evl
import HandS.FStr
import HandS.Star
import HandS.ClsMeth
import HandS.Property
import HandS.Defaults
import HandS.DictComp
import KE.KOpsOwn
import HandS.SlotsOwn
import PyProof.InstEq
import HandS.Codes
import HandS.Conv
import HandS.IsInst
import HandS.Flow
import HandS.Style
import HandS.RaiseMore
import HandS.SortRule
import KE.KSortTupAny
import HandS.Ends
import PyProof.ReprRoads
import PyProof.StrLawsRepr
import PyProof.FitsInt
import HandS.Deep
import PyProof.MinMaxWalk
import PyProof.StrOps
import HandS.SetFor
import HandS.Strs
import PyProof.ListNew
import HandS.HeadHook1
import HandS.HeadHook2
import HandS.HeadHook3
import HandS.NoneIn
import KE.KStateDown
import HandS.Head0
import HandS.Head1
import HandS.Head2
import HandS.HeadEnd
import PySem.Challenge.RW_outsigns_k19_paths_rings_and_full_nets
set_option Elab.async false
set_option linter.all false
set_option maxRecDepth 100000
set_option maxHeartbeats 2000000
/-! A small calculus over the hand layer: what a piece of text computes, from what is known of the heap on. -/
namespace LW
open PySem L2

abbrev Ex := Evl.Ex
/-- known for good: at H and at whatever extends it -/
def Pz (H : Hp) (φ : Hp → Prop) : Prop := ∀ H', Ex H H' → φ H'
theorem Pz.mono {H H' : Hp} {φ : Hp → Prop} (h : Pz H φ) (e : Ex H H') : Pz H' φ := fun H2 e2 => h H2 (e.trans e2)
theorem Pz.now {H : Hp} {φ : Hp → Prop} (h : Pz H φ) : φ H := h H (Evl.Ex.refl H)
theorem Pz.imp {H : Hp} {φ ψ : Hp → Prop} (h : Pz H φ) (f : ∀ H', Ex H H' → φ H' → ψ H') : Pz H ψ := fun H' e => f H' e (h H' e)
theorem Pz.const {H : Hp} {p : Prop} (h : p) : Pz H (fun _ => p) := fun _ _ => h
theorem Pz.at {H : Hp} {a : Addr} {o : HO} (h : H a = some o) : Pz H (fun H' => H' a = some o) := fun _ e => e _ _ h
theorem Pz.and {H : Hp} {φ ψ : Hp → Prop} (h : Pz H φ) (k : Pz H ψ) : Pz H (fun H' => φ H' ∧ ψ H') := fun H' e => ⟨h H' e, k H' e⟩
theorem Pz.left {H : Hp} {φ ψ : Hp → Prop} (h : Pz H (fun H' => φ H' ∧ ψ H')) : Pz H φ := fun H' e => (h H' e).1
theorem Pz.right {H : Hp} {φ ψ : Hp → Prop} (h : Pz H (fun H' => φ H' ∧ ψ H')) : Pz H ψ := fun H' e => (h H' e).2
theorem Pz.sql {K : PySem.W.Frag} {H : Hp} {a : Addr} {xs : List V} (h : SqL K H a xs) : Pz H (fun H' => SqL K H' a xs) := fun _ e => Evl.ex_l e h
theorem Pz.sqt {K : PySem.W.Frag} {H : Hp} {a : Addr} {xs : List V} (h : SqT K H a xs) : Pz H (fun H' => SqT K H' a xs) := fun _ e => Evl.ex_t e h

/-- from (H known, Hc all that there is) to (Hn, H2): what was known is known, what is new and known did not stand in Hc -/
structure Grow (H Hc Hn H2 : Hp) : Prop where
  k : Ex H Hn
  s : Ex Hn H2
  c : Ex Hc H2
  f : ∀ a o, Hc a = some o → Mut (some o) → H a = none → Hn a = none
theorem Grow.refl {H Hc : Hp} (e : Ex H Hc) : Grow H Hc H Hc := ⟨Evl.Ex.refl H, e, Evl.Ex.refl Hc, fun _ _ _ _ h => h⟩
theorem Grow.trans {H Hc H1 Hc1 H2 Hc2 : Hp} (a : Grow H Hc H1 Hc1) (b : Grow H1 Hc1 H2 Hc2) : Grow H Hc H2 Hc2 :=
  ⟨a.k.trans b.k, b.s, a.c.trans b.c, fun x o h m n => b.f x o (a.c x o h) m (a.f x o h m n)⟩
/-- a new object -/
theorem Grow.new {H Hc : Hp} {p : Addr} {o : HO} (e : Ex H Hc) (hp : Hc p = none) : Grow H Hc (upd H p o) (upd Hc p o) := by
  have hp0 : H p = none := Evl.fresh_back e hp
  refine ⟨Evl.Ex.new hp0, fun a u h => ?_, Evl.Ex.new hp, fun a u h m n => ?_⟩
  · by_cases q : a = p
    · subst q; rw [upd_same] at h ⊢; exact h
    · rw [upd_ne q] at h ⊢; exact e a u h
  · by_cases q : a = p
    · subst q; rw [hp] at h; cases h
    · rw [upd_ne q]; exact n
/-- the two of them together -/
def jn (H1 H2 : Hp) : Hp := fun a => match H1 a with
  | some o => some o
  | none => H2 a
theorem jn_l {H1 H2 : Hp} : Ex H1 (jn H1 H2) := fun a o h => by unfold jn; rw [h]
theorem jn_r {H1 H2 H : Hp} (e1 : Ex H1 H) (e2 : Ex H2 H) : Ex H2 (jn H1 H2) := fun a o h => by
  unfold jn
  cases q : H1 a with
  | none => exact h
  | some u =>
    have z := e1 a u q
    rw [e2 a o h] at z
    exact z.symm
theorem jn_le {H1 H2 H : Hp} (e1 : Ex H1 H) (e2 : Ex H2 H) : Ex (jn H1 H2) H := fun a o h => by
  unfold jn at h
  cases q : H1 a with
  | none => rw [q] at h; exact e2 a o h
  | some u => rw [q] at h; cases h; exact e1 a _ q

/-- from what H knows on, t gives something of which P holds for good; what stood in the heap stands -/
def Cm {α : Type} (H : Hp) (P : α → Hp → Prop) (t : Hp → (α → Hp → Prop) → Prop) : Prop :=
  ∀ Hc, Ex H Hc → ∀ Q : α → Hp → Prop, (∀ v Hn H2, Grow H Hc Hn H2 → Pz Hn (P v) → Q v H2) → t Hc Q
section
variable {α β : Type} {H H1 : Hp} {P P' : α → Hp → Prop} {R : β → Hp → Prop} {t : Hp → (α → Hp → Prop) → Prop}
theorem Cm.mono (h : Cm H P t) (e : Ex H H1) : Cm H1 P t := fun Hc e1 Q q => h Hc (e.trans e1) Q fun v Hn H2 g p => by
  have e2 : Ex H1 H2 := e1.trans g.c
  refine q v (jn H1 Hn) H2 ⟨jn_l, jn_le e2 g.s, g.c, fun a o hc m n => ?_⟩ (p.mono (jn_r e2 g.s))
  have n0 : H a = none := Evl.fresh_back e n
  have := g.f a o hc m n0
  unfold jn; rw [n]; exact this
theorem Cm.imp (h : Cm H P t) (f : ∀ v H', Ex H H' → P v H' → P' v H') : Cm H P' t := fun Hc e Q q => h Hc e Q fun v Hn H2 g p => q v Hn H2 g fun H' e' => f v H' (g.k.trans e') (p H' e')
/-- nothing new -/
theorem Cm.ret {v : α} (h : ∀ Hc, Ex H Hc → ∀ Q : α → Hp → Prop, Q v Hc → t Hc Q) (p : Pz H (P v)) : Cm H P t := fun Hc e Q q => h Hc e Q (q v H Hc (Grow.refl e) p)
theorem Cm.bind {f : α → Hp → (β → Hp → Prop) → Prop} (h : Cm H P t) (k : ∀ v H1, Ex H H1 → Pz H1 (P v) → Cm H1 R (f v)) : Cm H R (fun Hc Q => t Hc fun v Hc1 => f v Hc1 Q) := fun Hc e Q q =>
  h Hc e _ fun v Hn H2 g p => k v Hn g.k p H2 g.s Q fun y H3 H4 g2 p2 => q y H3 H4 (g.trans g2) p2
end
/-- just v -/
abbrev is {α : Type} (v : α) : α → Hp → Prop := fun x _ => x = v
section
variable {α β : Type} {H : Hp} {R : β → Hp → Prop} {t : Hp → (α → Hp → Prop) → Prop} {x : α}
theorem Cm.bindD {f : α → Hp → (β → Hp → Prop) → Prop} (h : Cm H (is x) t) (k : Cm H R (f x)) : Cm H R (fun Hc Q => t Hc fun v Hc1 => f v Hc1 Q) :=
  Cm.bind h fun v H1 e p => by
    have q : v = x := p.now
    subst q
    exact k.mono e
end

section
variable {α β γ : Type} {H : Hp} {R : γ → Hp → Prop} {Pa : α → Hp → Prop} {Pb : β → Hp → Prop} {ta : Hp → (α → Hp → Prop) → Prop} {tb : Hp → (β → Hp → Prop) → Prop} {r : α → β → Hp → (γ → Hp → Prop) → Prop} {u : α → Hp → (γ → Hp → Prop) → Prop} {x : α} {y : β}
theorem cm1 (ha : Cm H Pa ta) (hr : ∀ x H1, Ex H H1 → Pz H1 (Pa x) → Cm H1 R (u x)) : Cm H R (fun Hc Q => ta Hc fun x H1 => u x H1 Q) := Cm.bind (f := u) ha hr
theorem cm1D (ha : Cm H (is x) ta) (hr : Cm H R (u x)) : Cm H R (fun Hc Q => ta Hc fun x H1 => u x H1 Q) := Cm.bindD (f := u) ha hr
theorem cm2 (ha : Cm H Pa ta) (hb : Cm H Pb tb) (hr : ∀ x y H1, Ex H H1 → Pz H1 (Pa x) → Pz H1 (Pb y) → Cm H1 R (r x y)) : Cm H R (fun Hc Q => ta Hc fun x H1 => tb H1 fun y H2 => r x y H2 Q) :=
  Cm.bind (f := fun x Hc Q => tb Hc fun y H2 => r x y H2 Q) ha fun x H1 e1 p1 => Cm.bind (f := r x) (hb.mono e1) fun y H2 e2 p2 => hr x y H2 (e1.trans e2) (p1.mono e2) p2
theorem cm2D (ha : Cm H (is x) ta) (hb : Cm H (is y) tb) (hr : Cm H R (r x y)) : Cm H R (fun Hc Q => ta Hc fun x H1 => tb H1 fun y H2 => r x y H2 Q) :=
  Cm.bindD (f := fun x Hc Q => tb Hc fun y H2 => r x y H2 Q) ha (Cm.bindD (f := r x) hb hr)
end

/-! ### the canonical readings -/
def wE (X : Cx) (e : Expr) (σ : St) (H : Hp) (Q : VK) : Prop := ∀ pins s, Inv X pins σ H s → wpAny (model X.prog X.w) X.A (eval e X.env) (EP X pins σ Q) X.xe s
def wT (X : Cx) (e : Expr) (σ : St) (H : Hp) (Q : Bool → Hp → Prop) : Prop := ∀ pins s, Inv X pins σ H s → wpAny (model X.prog X.w) X.A (isTrue e X.env (eval e X.env)) (TP X pins σ Q) X.xe s
/-- a test whose whole stands for anything -/
def wW (X : Cx) (e : Expr) (σ : St) (H : Hp) (Q : Bool → Hp → Prop) : Prop := ∀ whole pins s, Inv X pins σ H s → wpAny (model X.prog X.w) X.A (isTrue e X.env whole) (TP X pins σ Q) X.xe s
def wA (X : Cx) (es : List Expr) (σ : St) (H : Hp) (Q : List V → Hp → Prop) : Prop := ∀ pos pins s, Inv X pins σ H s → wpAny (model X.prog X.w) X.A (spliced (backTo pos (starEach es X.env))) (AP X pins σ Q) X.xe s
def wS (X : Cx) (st : Stmt) : TS := fun D σ H => ∀ pins s, Inv X pins σ H s → wpAny (model X.prog X.w) X.A (exec st X.env) (SP X pins D) X.xe s
def wB (X : Cx) (sts : List Stmt) : TS := fun D σ H => ∀ pins s, Inv X pins σ H s → wpAny (model X.prog X.w) X.A (execs sts X.env) (SP X pins D) X.xe s
def wG (X : Cx) (tg : Expr) : TG := fun v σ H Q => ∀ t : TG, PG X tg t → t v σ H Q
section
variable {X : Cx}
theorem pe_w {e : Expr} : PE X e (wE X e) := ⟨fun pins s _ _ _ I h => h pins s I⟩
theorem pt_w {e : Expr} : PT X e (wT X e) := ⟨fun pins s _ _ _ I h => h pins s I⟩
theorem pw_w {e : Expr} : PW X e (wW X e) := ⟨fun wh pins s _ _ _ I h => h wh pins s I⟩
theorem pa_w {es : List Expr} : PA X es (wA X es) := ⟨fun pos pins s _ _ _ I h => h pos pins s I⟩
theorem ps_w {st : Stmt} : PS X st (wS X st) := ⟨fun pins s _ _ _ I h => h pins s I⟩
theorem pss_w {sts : List Stmt} : PSs X sts (wB X sts) := ⟨fun pins s _ _ _ I h => h pins s I⟩
theorem w_e {e : Expr} {t : TE} (h : PE X e t) {σ : St} {H : Hp} {Q : VK} (q : t σ H Q) : wE X e σ H Q := fun pins s I => h.run pins s σ H Q I q
theorem w_t {e : Expr} {t : TT} (h : PT X e t) {σ : St} {H : Hp} {Q : Bool → Hp → Prop} (q : t σ H Q) : wT X e σ H Q := fun pins s I => h.run pins s σ H Q I q
theorem w_w {e : Expr} {t : TT} (h : PW X e t) {σ : St} {H : Hp} {Q : Bool → Hp → Prop} (q : t σ H Q) : wW X e σ H Q := fun wh pins s I => h.run wh pins s σ H Q I q
theorem w_a {es : List Expr} {t : TA} (h : PA X es t) {σ : St} {H : Hp} {Q : List V → Hp → Prop} (q : t σ H Q) : wA X es σ H Q := fun pos pins s I => h.run pos pins s σ H Q I q
theorem w_s {st : Stmt} {t : TS} (h : PS X st t) {σ : St} {H : Hp} {D : Ends} (q : t D σ H) : wS X st D σ H := fun pins s I => h.run pins s σ H D I q
theorem w_b {sts : List Stmt} {t : TS} (h : PSs X sts t) {σ : St} {H : Hp} {D : Ends} (q : t D σ H) : wB X sts D σ H := fun pins s I => h.run pins s σ H D I q

theorem ce {e : Expr} {t : TE} {σ : St} {H : Hp} {P : V → Hp → Prop} (h : PE X e t) (q : Cm H P (t σ)) : Cm H P (wE X e σ) := fun Hc a Q k => w_e h (q Hc a Q k)
theorem ct {e : Expr} {t : TT} {σ : St} {H : Hp} {P : Bool → Hp → Prop} (h : PT X e t) (q : Cm H P (t σ)) : Cm H P (wT X e σ) := fun Hc a Q k => w_t h (q Hc a Q k)
theorem cw {e : Expr} {t : TT} {σ : St} {H : Hp} {P : Bool → Hp → Prop} (h : PW X e t) (q : Cm H P (t σ)) : Cm H P (wW X e σ) := fun Hc a Q k => w_w h (q Hc a Q k)
theorem ca {es : List Expr} {t : TA} {σ : St} {H : Hp} {P : List V → Hp → Prop} (h : PA X es t) (q : Cm H P (t σ)) : Cm H P (wA X es σ) := fun Hc a Q k => w_a h (q Hc a Q k)

variable {σ : St} {H : Hp} {P : V → Hp → Prop} {a b c : Expr} {pos : Pos} {x y z v : V}
/-! ### leaves -/
theorem e_var (i : Nat) {n : Str} (hs : σ[i]? = some (some v) := by rfl) (hN : X.N[i]? = some n := by rfl) (hv : Vis X.env.scope n := by first | exact Or.inl rfl | exact Or.inr (Or.inl rfl) | exact Or.inr (Or.inr rfl))
    (hd : (n == ("__debug__" : Str)) = false := by decide) (hcd : (n == ("__classdict__" : Str)) = false := by decide) : Cm H (is v) (wE X (.Name n pos) σ) :=
  ce (pe_var hN hv hd hcd) (Cm.ret (v := v) (fun _ _ _ q => ⟨v, hs, q⟩) (.const rfl))
theorem e_int {i : Int} {j : Nat} : Cm H (is (V.int i)) (wE X (.Constant (.int i) j pos) σ) := ce pe_int (Cm.ret (fun _ _ _ q => q) (.const rfl))
theorem e_str {s : Str} {j : Nat} : Cm H (is (V.str s)) (wE X (.Constant (.str s) j pos) σ) := ce pe_str (Cm.ret (fun _ _ _ q => q) (.const rfl))
theorem e_bl {k : Bool} {j : Nat} : Cm H (is (V.bl k)) (wE X (.Constant (.bool k) j pos) σ) := ce pe_bl (Cm.ret (fun _ _ _ q => q) (.const rfl))
theorem e_non {j : Nat} : Cm H (is V.non) (wE X (.Constant .none j pos) σ) := ce pe_non (Cm.ret (fun _ _ _ q => q) (.const rfl))
theorem e_glob {n : Str} {u : Value} (hg : Gl X n) (hm : X.mg n = some u) (r : RelV v u) (hd : (n == ("__debug__" : Str)) = false := by decide) : Cm H (is v) (wE X (.Name n pos) σ) :=
  ce (pe_glob hg hm r hd) (Cm.ret (fun _ _ _ q => q) (.const rfl))
theorem e_bltn {n : Str} {u : Value} (hg : Gl X n) (hm : X.mg n = none) (hv : bootBuiltins n = some u) (r : RelV v u) (hn : n ≠ "__name__" := by decide) (hd : (n == ("__debug__" : Str)) = false := by decide) : Cm H (is v) (wE X (.Name n pos) σ) :=
  ce (pe_bltn hg hm hv r hn hd) (Cm.ret (fun _ _ _ q => q) (.const rfl))
/-! ### operators -/
theorem e_op {op : Operator} {r : R2} {Pa Pb : V → Hp → Prop} (ho : OpR X (binaryOp op) r) (ha : Cm H Pa (wE X a σ)) (hb : Cm H Pb (wE X b σ)) (hr : ∀ x y H1, Ex H H1 → Pz H1 (Pa x) → Pz H1 (Pb y) → Cm H1 P (r x y)) : Cm H P (wE X (.BinOp a op b pos) σ) :=
  ce (pe_op ho pe_w pe_w) (cm2 ha hb hr)
theorem e_opD {op : Operator} {r : R2} (ho : OpR X (binaryOp op) r) (ha : Cm H (is x) (wE X a σ)) (hb : Cm H (is y) (wE X b σ)) (hr : Cm H P (r x y)) : Cm H P (wE X (.BinOp a op b pos) σ) :=
  ce (pe_op ho pe_w pe_w) (cm2D ha hb hr)
theorem e_un {op : UnaryOp} {r : V → Hp → VK → Prop} (ho : UnR X (unaryOp op) r) (ha : Cm H (is x) (wE X a σ)) (hr : Cm H P (r x)) : Cm H P (wE X (.UnaryOp op a pos) σ) := ce (pe_un ho pe_w) (cm1D (u := r) ha hr)
theorem e_cmp {op : CmpOp} {r : R2} {Pa Pb : V → Hp → Prop} (ho : OpR X (compareOp op) r) (hm : behindInMarks op b = false) (ha : Cm H Pa (wE X a σ)) (hb : Cm H Pb (wE X b σ)) (hr : ∀ x y H1, Ex H H1 → Pz H1 (Pa x) → Pz H1 (Pb y) → Cm H1 P (r x y)) : Cm H P (wE X (.Compare a [op] [b] pos) σ) :=
  ce (pe_cmpR ho pe_w pe_w hm) (cm2 ha hb hr)
theorem e_cmpD {op : CmpOp} {r : R2} (ho : OpR X (compareOp op) r) (hm : behindInMarks op b = false) (ha : Cm H (is x) (wE X a σ)) (hb : Cm H (is y) (wE X b σ)) (hr : Cm H P (r x y)) : Cm H P (wE X (.Compare a [op] [b] pos) σ) :=
  ce (pe_cmpR ho pe_w pe_w hm) (cm2D ha hb hr)
/-! ### tests -/
variable {k k' : Bool}
theorem t_val (h : Cm H (is (V.bl k)) (wE X a σ)) (he : ∀ whole, isTrue a X.env whole = (do let v ← whole; standAt a.pos; holding [v] (truthy v)) := by intro _; rfl) : Cm H (is k) (wT X a σ) :=
  ct (pt_val pe_w he) (cm1D (u := fun v Hc Q => ∃ c, v = .bl c ∧ Q c Hc) h (Cm.ret (fun _ _ _ q => ⟨k, rfl, q⟩) (.const rfl)))
theorem t_cmpD {op : CmpOp} {r : R2} (ho : OpR X (compareOp op) r) (hm : behindInMarks op b = false) (ha : Cm H (is x) (wE X a σ)) (hb : Cm H (is y) (wE X b σ)) (hr : Cm H (is (V.bl k)) (r x y)) : Cm H (is k) (wT X (.Compare a [op] [b] pos) σ) :=
  ct (pt_cmpR ho pe_w pe_w hm) (cm1D (u := fun v Hc Q => ∃ c, v = .bl c ∧ Q c Hc) (cm2D ha hb hr) (Cm.ret (fun _ _ _ q => ⟨k, rfl, q⟩) (.const rfl)))
theorem t_cmp {op : CmpOp} {r : R2} {Pa Pb : V → Hp → Prop} (ho : OpR X (compareOp op) r) (hm : behindInMarks op b = false) (ha : Cm H Pa (wE X a σ)) (hb : Cm H Pb (wE X b σ)) (hr : ∀ x y H1, Ex H H1 → Pz H1 (Pa x) → Pz H1 (Pb y) → Cm H1 (is (V.bl k)) (r x y)) : Cm H (is k) (wT X (.Compare a [op] [b] pos) σ) :=
  ct (pt_cmpR ho pe_w pe_w hm) (cm1D (u := fun v Hc Q => ∃ c, v = .bl c ∧ Q c Hc) (cm2 ha hb hr) (Cm.ret (fun _ _ _ q => ⟨k, rfl, q⟩) (.const rfl)))
theorem t_not (h : Cm H (is k) (wT X a σ)) : Cm H (is (!k)) (wT X (.UnaryOp .Not a pos) σ) := ct (pt_not pt_w) (cm1D (u := fun c Hc Q => Q (!c) Hc) h (Cm.ret (fun _ _ _ q => q) (.const rfl)))
theorem t_w (h : Cm H (is k) (wW X a σ)) : Cm H (is k) (wT X a σ) := ct pw_w.pt h
variable {rest : List Expr}
theorem w_and1 (h : Cm H (is k) (wT X a σ)) : Cm H (is k) (wW X (.BoolOp .And [a] pos) σ) := cw (pw_and1 pt_w) h
theorem w_or1 (h : Cm H (is k) (wT X a σ)) : Cm H (is k) (wW X (.BoolOp .Or [a] pos) σ) := cw (pw_or1 pt_w) h
theorem w_and (h : Cm H (is k) (wT X a σ)) (h2 : k = true → Cm H (is k') (wW X (.BoolOp .And (b :: rest) pos) σ)) : Cm H (is (k && k')) (wW X (.BoolOp .And (a :: b :: rest) pos) σ) :=
  cw (pw_and pt_w pw_w) (cm1D (u := fun c Hc Q => if c = true then wW X (.BoolOp .And (b :: rest) pos) σ Hc Q else Q false Hc) h (by
    cases k with
    | true => exact h2 rfl
    | false => exact Cm.ret (fun _ _ _ q => q) (.const rfl)))
theorem w_or (h : Cm H (is k) (wT X a σ)) (h2 : k = false → Cm H (is k') (wW X (.BoolOp .Or (b :: rest) pos) σ)) : Cm H (is (k || k')) (wW X (.BoolOp .Or (a :: b :: rest) pos) σ) :=
  cw (pw_or pt_w pw_w) (cm1D (u := fun c Hc Q => if c = true then Q true Hc else wW X (.BoolOp .Or (b :: rest) pos) σ Hc Q) h (by
    cases k with
    | false => exact h2 rfl
    | true => exact Cm.ret (fun _ _ _ q => q) (.const rfl)))
theorem e_one {op} (h : Cm H P (wE X a σ)) : Cm H P (wE X (.BoolOp op [a] pos) σ) := ce (pe_one pe_w) h
theorem e_and (h : Cm H (is (V.bl k)) (wE X a σ)) (h2 : k = true → Cm H (is (V.bl k')) (wE X (.BoolOp .And (b :: rest) pos) σ)) : Cm H (is (V.bl (k && k'))) (wE X (.BoolOp .And (a :: b :: rest) pos) σ) :=
  ce (pe_and pe_w pe_w) (cm1D (u := fun v Hc Q => ∃ c, v = .bl c ∧ if c = true then wE X (.BoolOp .And (b :: rest) pos) σ Hc Q else Q (.bl false) Hc) h (by
    cases k with
    | true => exact fun Hc e Q q => ⟨true, rfl, h2 rfl Hc e Q q⟩
    | false => exact Cm.ret (fun _ _ _ q => ⟨false, rfl, q⟩) (.const rfl)))
theorem e_or (h : Cm H (is (V.bl k)) (wE X a σ)) (h2 : k = false → Cm H (is (V.bl k')) (wE X (.BoolOp .Or (b :: rest) pos) σ)) : Cm H (is (V.bl (k || k'))) (wE X (.BoolOp .Or (a :: b :: rest) pos) σ) :=
  ce (pe_or pe_w pe_w) (cm1D (u := fun v Hc Q => ∃ c, v = .bl c ∧ if c = true then Q (.bl true) Hc else wE X (.BoolOp .Or (b :: rest) pos) σ Hc Q) h (by
    cases k with
    | false => exact fun Hc e Q q => ⟨false, rfl, h2 rfl Hc e Q q⟩
    | true => exact Cm.ret (fun _ _ _ q => ⟨true, rfl, q⟩) (.const rfl)))
theorem e_not (h : Cm H (is (V.bl k)) (wE X a σ)) : Cm H (is (V.bl (!k))) (wE X (.UnaryOp .Not a pos) σ) := ce (pe_not pe_w) (cm1D (u := fun v Hc (Q : VK) => ∃ c, v = V.bl c ∧ Q (V.bl (!c)) Hc) h (Cm.ret (fun _ _ _ q => ⟨k, rfl, q⟩) (.const rfl)))
theorem e_if (h : Cm H (is k) (wT X c σ)) (h1 : k = true → Cm H P (wE X a σ)) (h2 : k = false → Cm H P (wE X b σ)) : Cm H P (wE X (.IfExp c a b pos) σ) :=
  ce (pe_ifExp pt_w pe_w pe_w) (cm1D (u := fun k Hc Q => if k = true then wE X a σ Hc Q else wE X b σ Hc Q) h (by
    cases k with
    | true => exact h1 rfl
    | false => exact h2 rfl))
theorem t_is {α : Type} {x y : α} {t : Hp → (α → Hp → Prop) → Prop} (h : Cm H (is x) t) (e : x = y) : Cm H (is y) t := by
  subst e
  exact h
/-! ### argument lists, displays -/
theorem a_nil : Cm H (is []) (wA X [] σ) := ca pa_nil (Cm.ret (fun _ _ _ q => q) (.const rfl))
theorem a_consD {es : List Expr} {vs : List V} (h : Cm H (is v) (wE X a σ)) (hr : Cm H (is vs) (wA X es σ)) (hs : starEach (a :: es) X.env = (false, eval a X.env) :: starEach es X.env := by rfl) : Cm H (is (v :: vs)) (wA X (a :: es) σ) :=
  ca (pa_cons pe_w pa_w hs) (cm2D (r := fun v vs Hc Q => Q (v :: vs) Hc) h hr (Cm.ret (fun _ _ _ q => q) (.const rfl)))
theorem a_cons {es : List Expr} {Pr : List V → Hp → Prop} (h : Cm H P (wE X a σ)) (hr : Cm H Pr (wA X es σ)) (hs : starEach (a :: es) X.env = (false, eval a X.env) :: starEach es X.env := by rfl) :
    Cm H (fun ws H' => ∃ u us, ws = u :: us ∧ P u H' ∧ Pr us H') (wA X (a :: es) σ) :=
  ca (pa_cons pe_w pa_w hs) (cm2 (r := fun v vs Hc Q => Q (v :: vs) Hc) h hr fun u us H2 e2 p1 p2 => Cm.ret (fun _ _ _ q => q) fun H' e' => ⟨u, us, rfl, p1 H' e', p2 H' e'⟩)
/-- a new object stands at p -/
theorem Cm.fresh {t : Hp → VK → Prop} {o : HO} (h : ∀ Hc, Ex H Hc → ∀ Q : VK, (∀ p, Hc p = none → Q (.ref p) (upd Hc p o)) → t Hc Q) (p : ∀ p, H p = none → Pz (upd H p o) (P (.ref p))) : Cm H P t := fun Hc e Q q =>
  h Hc e Q fun p0 hp => q (.ref p0) _ _ (Grow.new e hp) (p p0 (Evl.fresh_back e hp))
theorem e_lst {es : List Expr} {Pa : List V → Hp → Prop} (h : Cm H Pa (wA X es σ)) (hz : ∀ xs H1, Pa xs H1 → xs.length ≤ 100000) (k : ∀ xs p H1, Ex H H1 → Pz H1 (Pa xs) → H1 p = some (.lst xs) → Pz H1 (P (.ref p))) : Cm H P (wE X (.List es pos) σ) :=
  ce (pe_lst pa_w) (cm1 (u := fun (xs : List V) (H1 : Hp) (Q : VK) => xs.length ≤ sizeLine ∧ ∀ p, H1 p = none → Q (V.ref p) (upd H1 p (.lst xs))) h fun xs H1 e1 p1 => Cm.fresh (o := .lst xs) (fun Hc _ Q q => ⟨Evl.sz_of (hz xs H1 p1.now), q⟩) fun p hp => k xs p _ (e1.trans (Evl.Ex.new hp)) (p1.mono (Evl.Ex.new hp)) upd_same)
theorem e_tup {es : List Expr} {x1} {Pa : List V → Hp → Prop} (h : Cm H Pa (wA X es σ)) (hz : ∀ xs H1, Pa xs H1 → xs.length ≤ 100000) (k : ∀ xs p H1, Ex H H1 → Pz H1 (Pa xs) → H1 p = some (.tup xs) → Pz H1 (P (.ref p))) : Cm H P (wE X (.Tuple es x1 pos) σ) :=
  ce (pe_tup pa_w) (cm1 (u := fun (xs : List V) (H1 : Hp) (Q : VK) => xs.length ≤ sizeLine ∧ ∀ p, H1 p = none → Q (V.ref p) (upd H1 p (.tup xs))) h fun xs H1 e1 p1 => Cm.fresh (o := .tup xs) (fun Hc _ Q q => ⟨Evl.sz_of (hz xs H1 p1.now), q⟩) fun p hp => k xs p _ (e1.trans (Evl.Ex.new hp)) (p1.mono (Evl.Ex.new hp)) upd_same)
end
end LW
set_option Elab.async false
set_option linter.all false
set_option maxRecDepth 100000
set_option maxHeartbeats 2000000
namespace LW
open PySem L2

/-! ### owned objects -/
section
variable {H Hc H1 Hc1 : Hp} {l : Addr} {o : HO}
/-- an object of one's own, not known, is changed -/
theorem Grow.mut (g : Grow H Hc H1 Hc1) (h0 : Hc l = none) (h1 : H1 l = none) : Grow H Hc H1 (upd Hc1 l o) := ⟨g.k, g.s.mut h1, g.c.mut h0, g.f⟩
/-- .. is known from now on -/
theorem Grow.know (g : Grow H Hc H1 Hc1) (h0 : Hc l = none) (h1 : H1 l = none) (h : Hc1 l = some o) : Grow H Hc (upd H1 l o) Hc1 := by
  refine ⟨g.k.trans (Evl.Ex.new h1), fun a u e => ?_, g.c, fun a u e m n => ?_⟩
  · by_cases q : a = l
    · subst q; rw [upd_same] at e; cases e; exact h
    · rw [upd_ne q] at e; exact g.s a u e
  · by_cases q : a = l
    · subst q; rw [h0] at e; cases e
    · rw [upd_ne q]; exact g.f a u e m n
theorem Ex.free (e : Ex H H1) (h : H1 l = Option.none) : H l = Option.none := Evl.fresh_back e h
/-- it stays unknown -/
theorem Grow.un (g : Grow H Hc H1 Hc1) (h : Hc l = some o) (n : H l = Option.none) (m : Mut (some o) := by trivial) : H1 l = Option.none := g.f l o h m n
/-- a tuple that stands there is known from now on -/
theorem Grow.knowT {xs : List V} (g : Grow H Hc H1 Hc1) (h : Hc1 l = some (.tup xs)) : Grow H Hc (upd H1 l (.tup xs)) Hc1 := by
  refine ⟨fun a u e => ?_, fun a u e => ?_, g.c, fun a u e m n => ?_⟩ <;> by_cases q : a = l
  · subst q
    have z := (g.k.trans g.s) _ _ e
    rw [h] at z
    rw [upd_same]
    exact z
  · rw [upd_ne q]; exact g.k a u e
  · subst q; rw [upd_same] at e; cases e; exact h
  · rw [upd_ne q] at e; exact g.s a u e
  · subst q
    have z := g.c _ _ e
    rw [h] at z
    cases z
    exact m.elim
  · rw [upd_ne q]; exact g.f a u e m n
theorem Grow.knowTs {α : Type} {f : α → List V} (g : Grow H Hc H1 Hc1) : ∀ {kvs : List α} {bs : List Addr}, Paired (fun p b => Hc1 b = some (.tup (f p))) kvs bs → ∃ H3, Grow H Hc H3 Hc1 ∧ Ex H1 H3 ∧ Paired (fun p b => H3 b = some (.tup (f p))) kvs bs
  | _, _, .nil => ⟨H1, g, Evl.Ex.refl _, .nil⟩
  | _, _, .cons (a := p) (b := b) h r => by
    obtain ⟨H3, g3, e3, z⟩ := g.knowTs r
    have g4 := g3.knowT h
    have e4 : Ex H3 (upd H3 b (.tup (f p))) := fun a u q => by
      by_cases e : a = b
      · subst e
        have y := g3.s _ _ q
        rw [h] at y
        rw [upd_same]
        exact y
      · rw [upd_ne e]; exact q
    exact ⟨_, g4, e3.trans e4, .cons upd_same (L2.Paired.mapP z fun _ _ q => e4 _ _ q)⟩
end

/-! ### statements -/
section
variable {X : Cx} {σ : St} {H Hc : Hp} {P : V → Hp → Prop} {e c : Expr} {a b rest : List Stmt} {pos px : Pos} {D : Ends} {k : Bool} {v : V} {st : Stmt}
theorem b_nil (h : D.nx σ Hc) : wB X [] D σ Hc := w_b pss_nil h
theorem b_cons (h : wS X st { D with nx := wB X rest D } σ Hc) : wB X (st :: rest) D σ Hc := w_b (pss_cons ps_w pss_w) h
theorem b_pass (h : wB X rest D σ Hc) : wB X (.Pass pos :: rest) D σ Hc := b_cons (w_s ps_pass h)
theorem b_set (i : Nat) {n : Str} (ex : Ex H Hc) (he : Cm H P (wE X e σ)) (h : ∀ v Hn H2, Grow H Hc Hn H2 → Pz Hn (P v) → wB X rest D (σ.set i (some v)) H2)
    (hN : X.N.Nodup) (hi : X.N[i]? = some n := by rfl) (hx : Loc X.env.scope n := by exact Or.inl rfl) (hs : swapsWith e (some (.Name n px)) pos.line X.env = pure false := by rfl)
    (hf : X.fn n = true ∨ X.env.scope.names.lookup n = some .local := by first | exact .inl rfl | exact .inr rfl | assumption) : wB X (.Assign [.Name n px] e pos :: rest) D σ Hc :=
  b_cons (w_s (ps_set hN hi hx pe_w hs hf) (he Hc ex _ h))
theorem b_setD (i : Nat) {n : Str} (ex : Ex H Hc) (he : Cm H (is v) (wE X e σ)) (h : ∀ H2, Ex H H2 → Ex Hc H2 → (∀ Hn, Grow H Hc Hn H2 → True) → wB X rest D (σ.set i (some v)) H2)
    (hN : X.N.Nodup) (hi : X.N[i]? = some n := by rfl) (hx : Loc X.env.scope n := by exact Or.inl rfl) (hs : swapsWith e (some (.Name n px)) pos.line X.env = pure false := by rfl)
    (hf : X.fn n = true ∨ X.env.scope.names.lookup n = some .local := by first | exact .inl rfl | exact .inr rfl | assumption) : wB X (.Assign [.Name n px] e pos :: rest) D σ Hc :=
  b_set i ex he (fun w Hn H2 g p => by
    have q : w = v := p.now
    subst q
    exact h H2 (g.k.trans g.s) g.c fun _ _ => trivial) hN hi hx hs hf
theorem b_ret (ex : Ex H Hc) (he : Cm H P (wE X e σ)) (h : ∀ v Hn H2, Grow H Hc Hn H2 → Pz Hn (P v) → D.rt v H2) : wB X (.Return (some e) pos :: rest) D σ Hc :=
  b_cons (w_s (ps_ret pe_w) (he Hc ex _ h))
theorem b_expr (ex : Ex H Hc) (he : Cm H P (wE X e σ)) (h : ∀ v Hn H2, Grow H Hc Hn H2 → Pz Hn (P v) → wB X rest D σ H2) (hs : swapsWith e none pos.line X.env = pure false := by rfl) : wB X (.Expr e pos :: rest) D σ Hc :=
  b_cons (w_s (ps_expr pe_w hs) (he Hc ex _ h))
theorem b_if (ex : Ex H Hc) (hc : Cm H (is k) (wT X c σ)) (h1 : k = true → ∀ Hn H2, Grow H Hc Hn H2 → wB X a { D with nx := wB X rest D } σ H2) (h2 : k = false → ∀ Hn H2, Grow H Hc Hn H2 → wB X b { D with nx := wB X rest D } σ H2) :
    wB X (.If c a b pos :: rest) D σ Hc :=
  b_cons (w_s (ps_if pt_w pss_w pss_w) (hc Hc ex _ fun d Hn H2 g p => by
    have q : d = k := p.now
    subst q
    cases d with
    | true => exact h1 rfl Hn H2 g
    | false => exact h2 rfl Hn H2 g))
/-- the test is false: the body is not walked -/
theorem b_ifF (ex : Ex H Hc) (hc : Cm H (is false) (wT X c σ)) (h2 : ∀ Hn H2, Grow H Hc Hn H2 → wB X b { D with nx := wB X rest D } σ H2) : wB X (.If c a b pos :: rest) D σ Hc :=
  b_if ex hc (fun q => nomatch q) fun _ => h2
theorem b_ifT (ex : Ex H Hc) (hc : Cm H (is true) (wT X c σ)) (h1 : ∀ Hn H2, Grow H Hc Hn H2 → wB X a { D with nx := wB X rest D } σ H2) : wB X (.If c a b pos :: rest) D σ Hc :=
  b_if ex hc (fun _ => h1) fun q => nomatch q
end

/-! ### what is walked -/
structure Over (H : Hp) (J : It) (n : Nat) (Y : Nat → V → Hp → Prop) : Prop where
  go : ∀ i Hc, Ex H Hc → i < n → J.go i Hc
  stop : ∀ i Hc, Ex H Hc → n ≤ i → J.stop i Hc
  yld : ∀ i x Hc H', Ex H Hc → i < n → J.yld i Hc x H' → ∀ H1, Ex H H1 → Ex H1 Hc → ∃ Hn, Grow H1 Hc Hn H' ∧ Pz Hn (Y i x)
/-- iter gives n items, of the i-th of which Y i holds -/
def Ci (H : Hp) (n : Nat) (Y : Nat → V → Hp → Prop) (t : Hp → (It → Hp → Prop) → Prop) : Prop := ∀ Hc, Ex H Hc → ∀ R : It → Hp → Prop, (∀ J Hn H2, Grow H Hc Hn H2 → Over Hn J n Y → R J H2) → t Hc R
theorem over_list {K : PySem.W.Frag} {H : Hp} {a : Addr} {xs : List V} (h : Pz H (fun H' => SqL K H' a xs)) : Over H (Itl K a) xs.length (fun i x _ => xs[i]? = some x) where
  go := fun i Hc e hi => ⟨xs, xs[i], h Hc e, List.getElem?_eq_getElem hi⟩
  stop := fun i Hc e hi => ⟨xs, h Hc e, hi⟩
  yld := fun i x Hc H' e hi y H1 e1 e2 => by
    obtain ⟨rfl, z⟩ := y
    exact ⟨H1, Grow.refl e2, .const (z xs (h _ e))⟩
theorem over_tup {K : PySem.W.Frag} {H : Hp} {a : Addr} {xs : List V} (h : Pz H (fun H' => SqT K H' a xs)) : Over H (Itt K a) xs.length (fun i x _ => xs[i]? = some x) where
  go := fun i Hc e hi => ⟨xs, xs[i], h Hc e, List.getElem?_eq_getElem hi⟩
  stop := fun i Hc e hi => ⟨xs, h Hc e, hi⟩
  yld := fun i x Hc H' e hi y H1 e1 e2 => by
    obtain ⟨rfl, z⟩ := y
    exact ⟨H1, Grow.refl e2, .const (z xs (h _ e))⟩
theorem over_range {H : Hp} {lo : Int} {n : Nat} : Over H (Itr lo n) n (fun i x _ => x = .int (lo + i)) where
  go := fun i Hc e hi => hi
  stop := fun i Hc e hi => hi
  yld := fun i x Hc H' e hi y H1 e1 e2 => by
    obtain ⟨rfl, z⟩ := y
    exact ⟨H1, Grow.refl e2, .const z⟩
theorem over_enum {K : PySem.W.Frag} {H : Hp} {a : Addr} {xs : List V} (h : Pz H (fun H' => SqL K H' a xs)) : Over H (Ite K a) xs.length (fun i v H' => ∃ T x, v = .ref T ∧ H' T = some (.tup [.int i, x]) ∧ xs[i]? = some x) where
  go := fun i Hc e hi => ⟨xs, xs[i], h Hc e, List.getElem?_eq_getElem hi⟩
  stop := fun i Hc e hi => ⟨xs, h Hc e, hi⟩
  yld := fun i x Hc H' e hi y H1 e1 e2 => by
    obtain ⟨T, x', rfl, hT, rfl, z⟩ := y
    exact ⟨_, Grow.new e2 hT, fun H3 e3 => ⟨T, x', rfl, e3 _ _ upd_same, z xs (h _ e)⟩⟩
theorem over_zip {K : PySem.W.Frag} {H : Hp} {a b : Addr} {xs ys : List V} (h : Pz H (fun H' => SqL K H' a xs)) (h' : Pz H (fun H' => SqL K H' b ys)) :
    Over H (Itz K a b) (min xs.length ys.length) (fun i v H' => ∃ T x y, v = .ref T ∧ H' T = some (.tup [x, y]) ∧ xs[i]? = some x ∧ ys[i]? = some y) where
  go := fun i Hc e hi => ⟨xs, ys, xs[i]'(by omega), ys[i]'(by omega), h Hc e, h' Hc e, List.getElem?_eq_getElem (by omega), List.getElem?_eq_getElem (by omega)⟩
  stop := fun i Hc e hi => ⟨xs, ys, h Hc e, h' Hc e, by omega⟩
  yld := fun i x Hc H' e hi y H1 e1 e2 => by
    obtain ⟨T, x', y', rfl, hT, rfl, z, z'⟩ := y
    exact ⟨_, Grow.new e2 hT, fun H3 e3 => ⟨T, x', y', rfl, e3 _ _ upd_same, z xs (h _ e), z' ys (h' _ e)⟩⟩
section
variable {X : Cx} {σ : St} {H : Hp} {l l2 : Expr} {xs ys : List V}
/-- a list of xs -/
abbrev lst (K : PySem.W.Frag) (xs : List V) : V → Hp → Prop := fun v H => ∃ a, v = .ref a ∧ SqL K H a xs
abbrev tup (K : PySem.W.Frag) (xs : List V) : V → Hp → Prop := fun v H => ∃ a, v = .ref a ∧ SqT K H a xs
/-- for good: the address is one and the same -/
theorem pz_lst {K : PySem.W.Frag} {v : V} (h : Pz H (lst K xs v)) : ∃ a, v = .ref a ∧ Pz H (fun H' => SqL K H' a xs) := by
  obtain ⟨a, rfl, _⟩ := h.now
  exact ⟨a, rfl, fun H' e => by obtain ⟨b, q, z⟩ := h H' e; cases q; exact z⟩
theorem pz_tup {K : PySem.W.Frag} {v : V} (h : Pz H (tup K xs v)) : ∃ a, v = .ref a ∧ Pz H (fun H' => SqT K H' a xs) := by
  obtain ⟨a, rfl, _⟩ := h.now
  exact ⟨a, rfl, fun H' e => by obtain ⟨b, q, z⟩ := h H' e; cases q; exact z⟩
theorem i_list (h : Cm H (lst X.K xs) (wE X l σ)) : Ci H xs.length (fun i x _ => xs[i]? = some x) (iList X.K (wE X l) σ) := fun Hc e R r =>
  h Hc e _ fun v Hn H2 g p => by
    obtain ⟨a, rfl, z⟩ := pz_lst p
    exact ⟨a, rfl, ⟨xs, z _ g.s⟩, r _ Hn H2 g (over_list z)⟩
theorem i_tup (h : Cm H (tup X.K xs) (wE X l σ)) : Ci H xs.length (fun i x _ => xs[i]? = some x) (iTup X.K (wE X l) σ) := fun Hc e R r =>
  h Hc e _ fun v Hn H2 g p => by
    obtain ⟨a, rfl, z⟩ := pz_tup p
    exact ⟨a, rfl, ⟨xs, z _ g.s⟩, r _ Hn H2 g (over_tup z)⟩
theorem i_rng1 {es : List Expr} {n : Int} (h : Cm H (is [V.int n]) (wA X es σ)) (hb : n < 2 ^ 62) (hb' : -(2 ^ 62) ≤ n) : Ci H n.toNat (fun i x _ => x = .int (0 + i)) (iRng1 (wA X es) σ) := fun Hc e R r =>
  h Hc e _ fun v Hn H2 g p => ⟨n, p.now, hb', hb, r _ Hn H2 g over_range⟩
theorem i_rng2 {es : List Expr} {lo n : Int} (h : Cm H (is [V.int lo, V.int n]) (wA X es σ)) (hb : -(2 ^ 62) ≤ lo ∧ lo < 2 ^ 62 ∧ -(2 ^ 62) ≤ n ∧ n < 2 ^ 62) : Ci H (n - lo).toNat (fun i x _ => x = .int (lo + i)) (iRng2 (wA X es) σ) := fun Hc e R r =>
  h Hc e _ fun v Hn H2 g p => ⟨lo, n, p.now, hb, r _ Hn H2 g over_range⟩
theorem i_enum {es : List Expr} (h : Cm H (fun ws H' => ∃ a, ws = [V.ref a] ∧ SqL X.K H' a xs) (wA X es σ)) : Ci H xs.length (fun i v H' => ∃ T x, v = .ref T ∧ H' T = some (.tup [.int i, x]) ∧ xs[i]? = some x) (iEnum X.K (wA X es) σ) := fun Hc e R r =>
  h Hc e _ fun v Hn H2 g p => by
    obtain ⟨a, rfl, _⟩ := p.now
    have z : Pz Hn (fun H' => SqL X.K H' a xs) := fun H' e => by obtain ⟨b, q, z⟩ := p H' e; cases q; exact z
    exact ⟨a, xs, rfl, z _ g.s, r _ Hn H2 g (over_enum z)⟩
theorem i_zip {es : List Expr} (h : Cm H (fun ws H' => ∃ a b, ws = [V.ref a, V.ref b] ∧ SqL X.K H' a xs ∧ SqL X.K H' b ys) (wA X es σ)) :
    Ci H (min xs.length ys.length) (fun i v H' => ∃ T x y, v = .ref T ∧ H' T = some (.tup [x, y]) ∧ xs[i]? = some x ∧ ys[i]? = some y) (iZip X.K (wA X es) σ) := fun Hc e R r =>
  h Hc e _ fun v Hn H2 g p => by
    obtain ⟨a, b, rfl, _⟩ := p.now
    have z : Pz Hn (fun H' => SqL X.K H' a xs) := fun H' e => by obtain ⟨a', b', q, z, _⟩ := p H' e; cases q; exact z
    have z' : Pz Hn (fun H' => SqL X.K H' b ys) := fun H' e => by obtain ⟨a', b', q, _, z⟩ := p H' e; cases q; exact z
    exact ⟨a, b, xs, ys, rfl, z _ g.s, z' _ g.s, r _ Hn H2 g (over_zip z z')⟩
end

/-! ### for -/
/-- what is to be shown of a loop: J i σ H1 Hc1 holds ahead of the i-th turn -/
def Loop (X : Cx) (g : TG) (body rest : List Stmt) (D : Ends) (n : Nat) (Y : Nat → V → Hp → Prop) (σ : St) (H Hc : Hp) : Prop :=
  ∃ J : Nat → St → Hp → Hp → Prop, J 0 σ H Hc ∧
  (∀ i σ1 H1 Hc1, i < n → Ex H H1 → Ex H1 Hc1 → J i σ1 H1 Hc1 → ∀ x H2 Hc2, Grow H1 Hc1 H2 Hc2 → Pz H2 (Y i x) →
    g x σ1 Hc2 fun σ2 H3 => wB X body { D with nx := fun σ4 H4 => ∃ H5, Ex H H5 ∧ Ex H5 H4 ∧ J (i + 1) σ4 H5 H4, ct := fun σ4 H4 => ∃ H5, Ex H H5 ∧ Ex H5 H4 ∧ J (i + 1) σ4 H5 H4, bk := wB X rest D } σ2 H3) ∧
  (∀ σ1 H1 Hc1, Ex H H1 → Ex H1 Hc1 → J n σ1 H1 Hc1 → wB X rest D σ1 Hc1)
theorem b_for {X : Cx} {σ : St} {H Hc : Hp} {tg iter : Expr} {body rest : List Stmt} {pos : Pos} {D : Ends} {wi : TI} {g : TG} {n : Nat} {Y : Nat → V → Hp → Prop} (ex : Ex H Hc) (hp : PassesOwn (model X.prog X.w) X.A X.env X.xe) (hc : X.calm = true)
    (hi : PI X tg iter wi) (hci : Ci H n Y (wi σ)) (hg : PG X tg g) (h : ∀ Hn H2, Grow H Hc Hn H2 → Loop X g body rest D n Y σ Hn H2) (hf : ∀ x, foldedSetIterable iter X.env x = pure x := by intro x; rfl) :
    wB X (.For tg iter body [] pos :: rest) D σ Hc := by
  refine b_cons (w_s (ps_for hp hc hi hg pss_w hf) (hci Hc ex _ fun J Hn H2 g2 ov => ?_))
  obtain ⟨W, h0, hs, hd⟩ := h Hn H2 g2
  refine ⟨fun i m σ1 Hc1 => m = n - i ∧ i ≤ n ∧ ∃ H1, Ex Hn H1 ∧ Ex H1 Hc1 ∧ W i σ1 H1 Hc1, ⟨n, rfl, Nat.zero_le _, Hn, Evl.Ex.refl _, g2.s, h0⟩, ?_⟩
  rintro i m σ1 Hc1 ⟨rfl, hi, H1, e1, e2, w⟩
  rcases Nat.lt_or_ge i n with hlt | hge
  · refine .inr ⟨ov.go i Hc1 (e1.trans e2) hlt, fun σ3 H3 => ∃ H5, Ex Hn H5 ∧ Ex H5 H3 ∧ W (i + 1) σ3 H5 H3, ?_, ?_⟩
    · rintro σ3 H3 ⟨H5, a, b, c⟩
      exact ⟨n - (i + 1), by omega, rfl, hlt, H5, a, b, c⟩
    · intro x H' y
      obtain ⟨H3, g3, z⟩ := ov.yld i x Hc1 H' (e1.trans e2) hlt y H1 e1 e2
      exact hs i σ1 H1 Hc1 hlt e1 e2 w x H3 H' g3 z
  · have q : i = n := by omega
    subst q
    exact .inl ⟨ov.stop i Hc1 (e1.trans e2) (Nat.le_refl _), hd σ1 H1 Hc1 e1 e2 w⟩
end LW
set_option Elab.async false
set_option linter.all false
set_option maxRecDepth 100000
set_option maxHeartbeats 2000000
namespace LW
open PySem L2

/-- the target takes x: σ becomes σ' -/
def Bind (g : TG) (x : V) (σ : St) (H : Hp) (σ' : St) : Prop := ∀ Hc, Ex H Hc → ∀ R : St → Hp → Prop, R σ' Hc → g x σ Hc R
theorem bind_name {i : Nat} {x : V} {σ : St} {H : Hp} : Bind (gName i) x σ H (σ.set i (some x)) := fun _ _ _ r => r
theorem bind_two {K : PySem.W.Frag} {i j : Nat} {T : Addr} {x y : V} {σ : St} {H : Hp} (h : Pz H (fun H' => SqT K H' T [x, y])) : Bind (gTup K 2 (gCons (gName i) (gCons (gName j) gNil))) (.ref T) σ H ((σ.set i (some x)).set j (some y)) :=
  fun Hc e R r => ⟨T, [x, y], rfl, h Hc e, rfl, x, [y], rfl, y, [], rfl, rfl, r⟩
theorem bind_three {K : PySem.W.Frag} {i j k : Nat} {T : Addr} {x y z : V} {σ : St} {H : Hp} (h : Pz H (fun H' => SqT K H' T [x, y, z])) : Bind (gTup K 3 (gCons (gName i) (gCons (gName j) (gCons (gName k) gNil)))) (.ref T) σ H (((σ.set i (some x)).set j (some y)).set k (some z)) :=
  fun Hc e R r => ⟨T, [x, y, z], rfl, h Hc e, rfl, x, [y, z], rfl, y, [z], rfl, z, [], rfl, rfl, r⟩
theorem Pz.tupT {K : PySem.W.Frag} {H : Hp} {T : Addr} {xs : List V} (h : Pz H (fun H' => H' T = some (.tup xs))) : Pz H (fun H' => SqT K H' T xs) := fun H' e => SqT.of (h H' e)

section
variable {X : Cx}
/-- the element's reading, in whatever frame the block runs -/
def wEb (X : Cx) (scope : Scope) (e : Expr) (σ : St) (H : Hp) (Q : VK) : Prop := ∀ (s : Shared) (H0 : Hp) (C : Addr) (cl : List (Str × Addr)) (fp : List Addr), wE (X.blk s H0 scope (compEnvC scope cl C X.env) fp) e σ H Q
def wTb (X : Cx) (scope : Scope) (e : Expr) (σ : St) (H : Hp) (Q : Bool → Hp → Prop) : Prop := ∀ (s : Shared) (H0 : Hp) (C : Addr) (cl : List (Str × Addr)) (fp : List Addr), wT (X.blk s H0 scope (compEnvC scope cl C X.env) fp) e σ H Q
theorem pe_b {scope : Scope} {e : Expr} (s : Shared) (H : Hp) (C : Addr) (cl : List (Str × Addr)) (fp : List Addr) : PE (X.blk s H scope (compEnvC scope cl C X.env) fp) e (wEb X scope e) := ⟨fun pins s' _ _ _ I h => h s H C cl fp pins s' I⟩
theorem pt_b {scope : Scope} {e : Expr} (s : Shared) (H : Hp) (C : Addr) (cl : List (Str × Addr)) (fp : List Addr) : PT (X.blk s H scope (compEnvC scope cl C X.env) fp) e (wTb X scope e) := ⟨fun pins s' _ _ _ I h => h s H C cl fp pins s' I⟩
theorem c_eb {scope : Scope} {e : Expr} {σ : St} {H : Hp} {P : V → Hp → Prop} (h : ∀ (s : Shared) (H0 : Hp) (C : Addr) (cl : List (Str × Addr)) (fp : List Addr), Cm H P (wE (X.blk s H0 scope (compEnvC scope cl C X.env) fp) e σ)) : Cm H P (wEb X scope e σ) :=
  fun Hc e Q q s H0 C cl fp => h s H0 C cl fp Hc e Q q
theorem c_tb {scope : Scope} {e : Expr} {σ : St} {H : Hp} {P : Bool → Hp → Prop} (h : ∀ (s : Shared) (H0 : Hp) (C : Addr) (cl : List (Str × Addr)) (fp : List Addr), Cm H P (wT (X.blk s H0 scope (compEnvC scope cl C X.env) fp) e σ)) : Cm H P (wTb X scope e σ) :=
  fun Hc e Q q s H0 C cl fp => h s H0 C cl fp Hc e Q q
theorem c_yes {σ : St} {H : Hp} : Cm H (is true) (tYes σ) := Cm.ret (fun _ _ _ q => q) (.const rfl)

/-- one turn of a comprehension -/
def LcTurn (g : TG) (tt : TT) (te : TE) (vs : List Nat) (σ : St) (A : List V → Hp → Prop) (A0 : Hp → Prop) (x : V) (H : Hp) : Prop :=
  ∃ (σ' : St) (k : Bool), Bind g x (wipe σ vs) H σ' ∧ wipe σ' vs = wipe σ vs ∧ Cm H (is k) (tt σ') ∧ (k = true → Cm H (fun y H' => A [y] H') (te σ')) ∧ (k = false → Pz H A0)
theorem c_lc {wi : TI} {g : TG} {tt : TT} {te : TE} {vs : List Nat} {σ : St} {H : Hp} {n : Nat} {Y : Nat → V → Hp → Prop} {P : V → Hp → Prop} (hci : Ci H n Y (wi σ)) (hn : n ≤ 100000) (A : Nat → List V → Hp → Prop) (h0 : ∀ H', A 0 [] H')
    (hs : ∀ i x acc H1, i < n → Ex H H1 → Pz H1 (Y i x) → Pz H1 (A i acc) → LcTurn g tt te vs σ (fun ys => A (i + 1) (acc ++ ys)) (A (i + 1) acc) x H1)
    (hd : ∀ acc p H1, Ex H H1 → Pz H1 (A n acc) → H1 p = some (.lst acc) → Pz H1 (P (.ref p))) : Cm H P (tLc wi g tt te vs σ) := by
  intro Hc e Q q
  refine hci Hc e _ fun J Hn H2 g2 ov => fun Dl hD => ?_
  have hcD : Hc Dl = none := Evl.fresh_back g2.c hD
  refine ⟨fun i m Hc1 => m = n - i ∧ i ≤ n ∧ ∃ H1 acc, Ex Hn H1 ∧ Grow H Hc H1 Hc1 ∧ H1 Dl = none ∧ Hc1 Dl = some (.lst acc) ∧ acc.length ≤ i ∧ Pz H1 (A i acc), ⟨n, rfl, Nat.zero_le _, Hn, [], Evl.Ex.refl _, g2.mut hcD (Evl.fresh_back g2.s hD), Evl.fresh_back g2.s hD, upd_same, Nat.le_refl _, fun H' _ => h0 H'⟩, ?_⟩
  rintro i m Hc1 ⟨rfl, hi, H1, acc, e1, g1, hD1, hl, hlen, pa⟩
  rcases Nat.lt_or_ge i n with hlt | hge
  · refine .inr ⟨ov.go i Hc1 (e1.trans g1.s) hlt, fun Hc3 => ∃ H3 acc', Ex Hn H3 ∧ Grow H Hc H3 Hc3 ∧ H3 Dl = none ∧ Hc3 Dl = some (.lst acc') ∧ acc'.length ≤ i + 1 ∧ Pz H3 (A (i + 1) acc'), ?_, ?_⟩
    · rintro H3 ⟨H5, acc', a, b, c, d, f, h⟩
      exact ⟨n - (i + 1), by omega, rfl, hlt, H5, acc', a, b, c, d, f, h⟩
    · intro x H' y
      obtain ⟨H3, g3, z⟩ := ov.yld i x Hc1 H' (e1.trans g1.s) hlt y H1 e1 g1.s
      obtain ⟨σ', k, Tbd, Twp, Tt, Ty, Tn⟩ := hs i x acc H3 hlt ((g1.trans g3).k) z (pa.mono g3.k)
      refine Tbd H' g3.s _ ⟨Twp, Tt H' g3.s _ fun b H4 Hc4 g4 pb => ?_⟩
      have hb : b = k := pb.now
      have hD3 : H3 Dl = none := g3.un hl hD1
      have hl3 := g3.c _ _ hl
      have hD4 : H4 Dl = none := g4.un hl3 hD3
      have hl4 := g4.c _ _ hl3
      subst hb
      cases hk : b with
      | true =>
        show te σ' Hc4 _
        refine (Ty hk).mono g4.k Hc4 g4.s _ fun y H5 Hc5 g5 py => ?_
        have hl5 := g5.c _ _ hl4
        have hD5 : H5 Dl = none := g5.un hl4 hD4
        refine ⟨acc, hl5, Evl.sz_lt (by omega), H5, acc ++ [y], e1.trans ((g3.trans (g4.trans g5)).k), (g1.trans (g3.trans (g4.trans g5))).mut hcD hD5, hD5, upd_same, ?_, py⟩
        rw [List.length_append, List.length_singleton]; omega
      | false =>
        show ∃ H3 acc', _
        exact ⟨H4, acc, e1.trans ((g3.trans g4).k), g1.trans (g3.trans g4), hD4, hl4, by omega, (Tn hk).mono g4.k⟩
  · have qe : i = n := by omega
    subst qe
    refine .inl ⟨ov.stop i Hc1 (e1.trans g1.s) (Nat.le_refl _), ?_⟩
    refine q (.ref Dl) (upd H1 Dl (.lst acc)) Hc1 (g1.know hcD hD1 hl) (hd acc Dl _ (g1.k.trans (Evl.Ex.new hD1)) (pa.mono (Evl.Ex.new hD1)) upd_same)
theorem e_lc {elt tg iter : Expr} {ifs : List Expr} {scope : Scope} {own : List (Str × Nat)} {pos : Pos} {wi : TI} {g : TG} {tt : TT} {σ : St} {H : Hp} {P : V → Hp → Prop} (hc : X.calm = true) (hN : X.N.Nodup) (hi : PI X tg iter wi) (ok : BlkOk X.N X.env.scope scope own)
    (hg : ∀ (s : Shared) (H : Hp) (C : Addr) (cl : List (Str × Addr)) (fp : List Addr), PG (X.blk s H scope (compEnvC scope cl C X.env) fp) tg g)
    (ht : ∀ (s : Shared) (H : Hp) (C : Addr) (cl : List (Str × Addr)) (fp : List Addr), PTs (X.blk s H scope (compEnvC scope cl C X.env) fp) ifs tt) (h : Cm H P (tLc wi g tt (wEb X scope elt) (own.map (·.2)) σ))
    (hf : ∀ x, foldedSetIterable iter X.env x = pure x := by intro x; rfl) : Cm H P (wE X (.ListComp elt [⟨tg, iter, ifs, 0⟩] scope pos) σ) := ce (pe_lc hc hN hi ok hg ht pe_b hf) h
/-- y = [e for x in xs]: a statement of its own -/
theorem b_setLc (i : Nat) {y : Str} {py : Pos} {elt tg iter : Expr} {ifs : List Expr} {scope : Scope} {own : List (Str × Nat)} {pos spos : Pos} {wi : TI} {g : TG} {tt : TT} {σ : St} {H Hc : Hp} {P : V → Hp → Prop} {rest : List Stmt} {D : Ends} (ex : Ex H Hc) (hc : X.calm = true) (hN : X.N.Nodup)
    (hi' : X.N[i]? = some y) (hk : X.env.scope.names.lookup y = some .local) (hsw : swapsWith (.ListComp elt [⟨tg, iter, ifs, 0⟩] scope pos) (some (.Name y py)) spos.line X.env = pure true) (hi : PI X tg iter wi) (ok : BlkOk X.N X.env.scope scope own)
    (hg : ∀ (s : Shared) (H : Hp) (C : Addr) (cl : List (Str × Addr)) (fp : List Addr), PG (X.blk s H scope (compEnvC scope cl C X.env) fp) tg g)
    (ht : ∀ (s : Shared) (H : Hp) (C : Addr) (cl : List (Str × Addr)) (fp : List Addr), PTs (X.blk s H scope (compEnvC scope cl C X.env) fp) ifs tt) (h : Cm H P (tLc wi g tt (wEb X scope elt) (own.map (·.2)) σ))
    (k : ∀ v Hn H2, Grow H Hc Hn H2 → Pz Hn (P v) → wB X rest D (σ.set i (some v)) H2)
    (hf : ∀ x, foldedSetIterable iter X.env x = pure x := by intro x; rfl) : wB X (.Assign [.Name y py] (.ListComp elt [⟨tg, iter, ifs, 0⟩] scope pos) spos :: rest) D σ Hc :=
  b_cons (w_s (ps_setLc hc hN hi' hk hsw hi ok hg ht pe_b hf) (h Hc ex _ k))
/-- one turn of a dict comprehension -/
def DcTurn (g : TG) (tt : TT) (tk tv : TE) (vs : List Nat) (σ : St) (key : Key) (A : V → Hp → Prop) (x : V) (H : Hp) : Prop :=
  ∃ σ' : St, Bind g x (wipe σ vs) H σ' ∧ wipe σ' vs = wipe σ vs ∧ Cm H (is true) (tt σ') ∧ Cm H (is (kV key)) (tk σ') ∧ Cm H (fun y H' => A y H') (tv σ')
theorem c_dc {wi : TI} {g : TG} {tt : TT} {tk tv : TE} {vs : List Nat} {σ : St} {H : Hp} {n : Nat} {Y : Nat → V → Hp → Prop} {P : V → Hp → Prop} (hci : Ci H n Y (wi σ)) (hn : n ≤ 100000) (key : Nat → Key) (A : Nat → List (Key × V) → Hp → Prop) (h0 : ∀ H', A 0 [] H')
    (hs : ∀ i x acc H1, i < n → Ex H H1 → Pz H1 (Y i x) → Pz H1 (A i acc) → DcTurn g tt tk tv vs σ (key i) (fun y => A (i + 1) (putK acc (key i) y)) x H1)
    (hl : ∀ i acc H1, Ex H H1 → Pz H1 (A i acc) → acc.length ≤ i)
    (hd : ∀ acc p H1, Ex H H1 → Pz H1 (A n acc) → H1 p = some (.dK acc) → Pz H1 (P (.ref p))) : Cm H P (tDc wi g tt tk tv vs σ) := by
  intro Hc e Q q
  refine hci Hc e _ fun J Hn H2 g2 ov => fun Dl hD => ?_
  have hcD : Hc Dl = none := Evl.fresh_back g2.c hD
  refine ⟨fun i m Hc1 => m = n - i ∧ i ≤ n ∧ ∃ H1 acc, Ex Hn H1 ∧ Grow H Hc H1 Hc1 ∧ H1 Dl = none ∧ Hc1 Dl = some (.dK acc) ∧ Pz H1 (A i acc), ⟨n, rfl, Nat.zero_le _, Hn, [], Evl.Ex.refl _, g2.mut hcD (Evl.fresh_back g2.s hD), Evl.fresh_back g2.s hD, upd_same, fun H' _ => h0 H'⟩, ?_⟩
  rintro i m Hc1 ⟨rfl, hi, H1, acc, e1, g1, hD1, hl1, pa⟩
  rcases Nat.lt_or_ge i n with hlt | hge
  · refine .inr ⟨ov.go i Hc1 (e1.trans g1.s) hlt, fun Hc3 => ∃ H3 acc', Ex Hn H3 ∧ Grow H Hc H3 Hc3 ∧ H3 Dl = none ∧ Hc3 Dl = some (.dK acc') ∧ Pz H3 (A (i + 1) acc'), ?_, ?_⟩
    · rintro H3 ⟨H5, acc', a, b, c, d, h⟩
      exact ⟨n - (i + 1), by omega, rfl, hlt, H5, acc', a, b, c, d, h⟩
    · intro x H' y
      obtain ⟨H3, g3, z⟩ := ov.yld i x Hc1 H' (e1.trans g1.s) hlt y H1 e1 g1.s
      obtain ⟨σ', Tbd, Twp, Tt, Tke, Ty⟩ := hs i x acc H3 hlt ((g1.trans g3).k) z (pa.mono g3.k)
      refine Tbd H' g3.s _ ⟨Twp, Tt H' g3.s _ fun b H4 Hc4 g4 pb => ?_⟩
      have hb : b = true := pb.now
      subst hb
      have hD3 : H3 Dl = none := g3.un hl1 hD1
      have hl3 := g3.c _ _ hl1
      have hD4 : H4 Dl = none := g4.un hl3 hD3
      have hl4 := g4.c _ _ hl3
      show tk σ' Hc4 _
      refine Tke.mono g4.k Hc4 g4.s _ fun kv H5 Hc5 g5 pk => ?_
      have hk : kv = kV (key i) := pk.now
      subst hk
      have hl5 := g5.c _ _ hl4
      have hD5 : H5 Dl = none := g5.un hl4 hD4
      refine Ty.mono (g4.trans g5).k Hc5 g5.s _ fun y H6 Hc6 g6 py => ?_
      have hl6 := g6.c _ _ hl5
      have hD6 : H6 Dl = none := g6.un hl5 hD5
      have hlen := hl i acc H1 g1.k pa
      exact ⟨acc, key i, rfl, hl6, Evl.sz_lt (by omega), H6, _, e1.trans ((g3.trans (g4.trans (g5.trans g6))).k), (g1.trans (g3.trans (g4.trans (g5.trans g6)))).mut hcD hD6, hD6, upd_same, py⟩
  · have qe : i = n := by omega
    subst qe
    refine .inl ⟨ov.stop i Hc1 (e1.trans g1.s) (Nat.le_refl _), ?_⟩
    refine q (.ref Dl) (upd H1 Dl (.dK acc)) Hc1 (g1.know hcD hD1 hl1) (hd acc Dl _ (g1.k.trans (Evl.Ex.new hD1)) (pa.mono (Evl.Ex.new hD1)) upd_same)
end
end LW
set_option Elab.async false
set_option linter.all false
set_option maxRecDepth 100000
set_option maxHeartbeats 2000000
namespace LW
open PySem L2
section
variable {X : Cx} {CX : CXT} {pins : List (Addr × Obj)} {σ : St} {H : Hp} {s : Shared} {C a p f g : Addr} {n k : Nat} {sp : Sp} {E : XK} {mc : Value} {m : Str}

/-- C.m is a staticmethod: its record at p, its def at g -/
structure SMet (K : PySem.W.Frag) (C : Addr) (mc : Value) (m : Str) (p g : Addr) : Prop where
  at_ : PySem.W.findCls K (.ref C) mc m = some (.get (.builtin "staticmethod.__get__") (.ref p) .none (.ref C))
  rc : ∃ rest, PySem.W.recIn K p "staticmethod" = some (.ref g :: rest)
  kp : PySem.W.keepIn K (.ref g) = true
theorem pe_smeth {o e : Expr} {es : List Expr} {pos apos : Pos} {ta : TE} {t : TA} {pl : Sem Bool} (he : PE X o ta) (r : ClX.CRead X.K C mc) (c : SMet X.K C mc m p g) (F : FnR X.prog X.w X.K X.mg X.base CX k g sp) (hr : Room k X.A) (hx : Passes CX X E) (ha : PA X (e :: es) t)
    (hst : starEach (e :: es) X.env = (false, eval e X.env) :: starEach es X.env := by rfl) (hpl : (backTo pos (starEach es X.env)).any (·.1) = false := by rfl)
    (ht : eval (.Call (.Attribute o m apos) (e :: es) [] pos) X.env = (eval o X.env >>= fun ov => standAt apos.atName >>= fun _ => holding [ov] (getMethod ov m pl) >>= fun fx =>
      callWith pos fx.1 fx.2 (backTo pos (starEach (e :: es) X.env)) (backToKw pos (keywordEach [] X.env))) := by rfl) :
    PE X (.Call (.Attribute o m apos) (e :: es) [] pos) (fun σ H Q => ta σ H fun x H1 => x = .ref C ∧ t σ H1 fun vs H2 => sp vs H2 Q E) := by
  refine ⟨fun pins s σ H Q I h => ?_⟩
  refine PySem.W.methodCall_KW (pl := pl) (thn (he.run pins s σ H _ I h) fun u s1 ⟨x, H1, I1, rx, ex, q⟩ => ?_) ht
  subst ex
  cases (show u = Value.ref C from rx)
  obtain ⟨rest, hp⟩ := c.rc
  refine PySem.W.method_cls I1.kIn r.ga (PySem.W.cls_bind I1.kIn r.rd c.at_ (wpAny_call (PySem.W.sm_get (s := { s1 with toks := s1.toks + 1 }) I1.kIn hp (PySem.W.handed_on rfl ?_))))
  refine PySem.W.callWith_K (h₀ := X.base) I1.ok.mod.kin c.kp (thn (ha.run pos pins _ σ H1 _ (I1.tok _) q) fun us s3 ⟨vs, H2, I3, rv, q2⟩ => ⟨I3.kIn, ?_⟩) hst hpl
  exact wpAny_call (run_fnR F hr hx I3 rv q2)
/-- a call of what a local name holds: a class of one's own -/
theorem pe_makeL {i : Nat} {x : Str} {pn pos : Pos} {e : Expr} {es : List Expr} {t : TA} (M : Mk X.K C f) (F : FnR X.prog X.w X.K X.mg X.base CX k f sp) (hr : Room (k + 1) X.A) (hN : X.N[i]? = some x) (hv : Vis X.env.scope x) (hx : Passes CX X E) (ha : PA X (e :: es) t)
    (hdb : (x == ("__debug__" : Str)) = false := by decide) (hcd : (x == ("__classdict__" : Str)) = false := by decide)
    (he : starEach (e :: es) X.env = (false, eval e X.env) :: starEach es X.env := by rfl) (hpl : (backTo pos (starEach es X.env)).any (·.1) = false := by rfl) :
    PE X (.Call (.Name x pn) (e :: es) [] pos) (fun σ H Q => σ[i]? = some (some (.ref C)) ∧ StX.tMakeR C sp E t σ H Q) := by
  refine ⟨fun pins s σ H Q I h => ?_⟩
  obtain ⟨hs, ht⟩ := h
  refine wpAny_Call_Name_kw (thn ((pe_var (pos := pn) hN hv hdb hcd).run pins s σ H (fun v H1 => v = .ref C ∧ H1 = H) I ⟨.ref C, hs, rfl, rfl⟩) fun u s1 ⟨v, H1, I1, r1, q1⟩ => ?_)
  obtain ⟨rfl, rfl⟩ := q1
  cases r1
  refine PySem.W.callWith_K (h₀ := X.base) I1.ok.mod.kin M.kp (thn (ha.run pos pins s1 σ _ _ I1 ht) fun us s2 ⟨vs, H2, I2, r, q⟩ => ⟨I2.kIn, ?_⟩) he hpl
  exact StX.run_makeR M F hr hx I2 r q

/-- a call of a def by a promise over its positional arguments -/
theorem pe_callR {x : Str} {pn pos : Pos} {e : Expr} {es : List Expr} {t : TA} (F : FnR X.prog X.w X.K X.mg X.base CX k f sp) (hr : Room k X.A) (hk : PySem.W.keepIn X.K (.ref f) = true) (hg : Gl X x) (hm : X.mg x = some (.ref f)) (hx : Passes CX X E) (ha : PA X (e :: es) t)
    (hdb : (x == ("__debug__" : Str)) = false := by decide)
    (he : starEach (e :: es) X.env = (false, eval e X.env) :: starEach es X.env := by rfl) (hpl : (backTo pos (starEach es X.env)).any (·.1) = false := by rfl) :
    PE X (.Call (.Name x pn) (e :: es) [] pos) (fun σ H Q => t σ H fun vs H1 => sp vs H1 Q E) := by
  refine ⟨fun pins s σ H Q I h => ?_⟩
  refine wpAny_Call_Name_kw (ld_glob I hg hm ?_ hdb)
  refine PySem.W.callWith_K (h₀ := X.base) I.ok.mod.kin hk (thn (ha.run pos pins s σ H _ I h) fun us s2 ⟨vs, H2, I2, r, q⟩ => ⟨I2.kIn, ?_⟩) he hpl
  exact wpAny_call (run_fnR F hr hx I2 r q)

/-! ### operators that a class of one's own defines -/
/-- an instance at a -/
theorem inst_at {dx : Addr} {fs : List (Str × V)} (I : Inv X pins σ H s) (h : H a = some (.ins C dx fs)) : ∃ ox od, PySem.W.InstAt s.heap a ox C od := by
  obtain ⟨mA, O, _, _, _, _⟩ := ins_get I.hok h
  obtain ⟨od, J, _⟩ := O.look
  exact ⟨_, _, J⟩
theorem cmp_back {Q : VK} {v : Value} {s' : Shared} (h : EP X pins σ Q v s') : PySem.W.CmpBack (EP X pins σ Q) v s' := by
  obtain ⟨x, H', I, r, q⟩ := h
  have z : EP X pins σ Q v s' := ⟨x, H', I, r, q⟩
  cases v with
  | notImplemented =>
    cases x with
    | int i => obtain ⟨t, e⟩ := r; cases e
    | str i => obtain ⟨t, e⟩ := r; cases e
    | byt i => obtain ⟨t, e⟩ := r; cases e
    | flt i => obtain ⟨t, e⟩ := r; cases e
    | non => cases r
    | bl b => cases r
    | ref b => cases r
    | ty b => cases r
  | _ => exact z
/-- a reading of the operator's method at two values -/
def rOwn (C : Addr) (sp : Sp) (E : XK) : R2 := fun x y H Q => ∃ a dx fs, x = .ref a ∧ H a = some (.ins C dx fs) ∧ sp [x, y] H Q E
/-- x in o, x not in o -/
def rOwnIn (neg : Bool) (C : Addr) (sp : Sp) (E : XK) : R2 := fun x y H Q => ∃ a dx fs, y = .ref a ∧ H a = some (.ins C dx fs) ∧ sp [y, x] H (fun v H' => ∃ k, v = .bl k ∧ Q (.bl (if neg then !k else k)) H') E
structure HasOp (K : PySem.W.Frag) (C : Addr) (m : Str) (f : Addr) : Prop where
  at_ : PySem.W.findIn K (.ref C) m = some (some (.ref f))
  fn : PySem.W.isFn K (.ref f) = true
theorem op_ownIn (c : HasOp X.K C "__contains__" f) (F : FnR X.prog X.w X.K X.mg X.base CX k f sp) (hr : Room k X.A) (hx : Passes CX X E) : OpR X (compareOp .In) (rOwnIn false C sp E) := by
  intro pins s σ H x y u v Q I rx ry h
  obtain ⟨a, dx, fs, rfl, ha, q⟩ := h
  cases (show v = Value.ref a from ry)
  obtain ⟨ox, od, J⟩ := inst_at I ha
  obtain ⟨mm, Fr⟩ := I.fr
  refine PySem.W.in_K Fr I.ok.mod.kin J c.at_ c.fn (thn (wpAny_call (run_fnR (vs := [.ref a, x]) F hr hx I (.cons (show RelV (.ref a) (.ref a) from rfl) (.cons rx .nil)) q)) fun w s' ⟨z, H', I', rz, kk, ez, qz⟩ => ?_)
  subst ez
  cases rz
  exact wpAny_truthy_bool ⟨.bl kk, H', I', rfl, qz⟩
theorem op_ownNotIn (c : HasOp X.K C "__contains__" f) (F : FnR X.prog X.w X.K X.mg X.base CX k f sp) (hr : Room k X.A) (hx : Passes CX X E) : OpR X (compareOp .NotIn) (rOwnIn true C sp E) := by
  intro pins s σ H x y u v Q I rx ry h
  obtain ⟨a, dx, fs, rfl, ha, q⟩ := h
  cases (show v = Value.ref a from ry)
  obtain ⟨ox, od, J⟩ := inst_at I ha
  obtain ⟨mm, Fr⟩ := I.fr
  refine PySem.W.notIn_K Fr I.ok.mod.kin J c.at_ c.fn (thn (wpAny_call (run_fnR (vs := [.ref a, x]) F hr hx I (.cons (show RelV (.ref a) (.ref a) from rfl) (.cons rx .nil)) q)) fun w s' ⟨z, H', I', rz, kk, ez, qz⟩ => ?_)
  subst ez
  cases rz
  exact wpAny_truthy_bool ⟨.bl (!kk), H', I', rfl, qz⟩
/-- o == y, y an instance of the same class -/
def rOwnEq (neg : Bool) (C : Addr) (sp : Sp) (E : XK) : R2 := fun x y H Q => ∃ a dx fs b dy gs, x = .ref a ∧ H a = some (.ins C dx fs) ∧ y = .ref b ∧ H b = some (.ins C dy gs) ∧ sp [x, y] H (fun v H' => ∃ k, v = .bl k ∧ Q (.bl (if neg then !k else k)) H') E
theorem op_ownEq (c : HasOp X.K C "__eq__" f) (F : FnR X.prog X.w X.K X.mg X.base CX k f sp) (hr : Room k X.A) (hx : Passes CX X E) : OpR X (compareOp .Eq) (rOwnEq false C sp E) := by
  intro pins s σ H x y u v Q I rx ry h
  obtain ⟨a, dx, fs, b, dy, gs, rfl, ha, rfl, hb, q⟩ := h
  cases (show u = Value.ref a from rx)
  cases (show v = Value.ref b from ry)
  obtain ⟨ox, od, J⟩ := inst_at I ha
  obtain ⟨oy, ody, J2⟩ := inst_at I hb
  obtain ⟨mm, Fr⟩ := I.fr
  refine PySem.W.cmp_K (op := .Eq) hr.units0 Fr I.ok.mod.kin J J2.type (by unfold PySem.W.notFirst; simp) c.at_ c.fn (thn (wpAny_call (run_fnR (vs := [.ref a, .ref b]) F hr hx I (.cons (show RelV (.ref a) (.ref a) from rfl) (.cons (show RelV (.ref b) (.ref b) from rfl) .nil)) q)) fun w s' ⟨z, H', I', rz, kk, ez, qz⟩ => ?_)
  subst ez
  exact cmp_back ⟨.bl kk, H', I', rz, qz⟩
/-! ### o != y by the class's __eq__ -/
structure NeBy (K : PySem.W.Frag) (C : Addr) : Prop where
  ne : PySem.W.findIn K (.ref C) "__ne__" = some (some (.builtin "object.__ne__"))
  ob : PySem.W.subIn K (.ref C) (.type "object") = some true
theorem ne_slot {M : Model} {A : Around} {E : Value → Shared → Prop} {ox : Obj} {od : Option Obj} {K : PySem.W.Frag} {x : Addr} {b : Value} {Q : Option Value → Shared → Prop} (KI : K.In s.heap) (J : PySem.W.InstAt s.heap x ox C od) (c : NeBy K C)
    (h : wpAny M A (call (.builtin "object.__ne__") [.ref x, b]) (fun v => Q (some v)) E s) : wpAny M A (callSpecialIfBound? (.ref x) "__ne__" [b]) Q E s := by
  unfold callSpecialIfBound? bindSpecialIfBound?
  refine wpAny_holding (wpAny_bind (wpAny_bind (wpAny_bind (J.type.here ((PySem.W.looks_findIn KI c.ne).here ?_)))))
  simp only [F.cmp_object.ne.bind]
  refine wpAny_bind (wpAny_askSetting (wpAny_ite ?_))
  have z : wpAny M A (call (.builtin "object.__ne__") ([.ref x] ++ [b]) >>= fun v => pure (some v)) Q E s := wpAny_bind (thn h fun v s' q => wpAny_pure q)
  split
  · exact wpAny_bind (wpAny_pure (wpAny_pure z))
  · exact wpAny_tryCatch (wpAny_bind (wpAny_pure (wpAny_pure z)))
theorem ne_check {M : Model} {A : Around} {E : Value → Shared → Prop} {ox : Obj} {od : Option Obj} {K : PySem.W.Frag} {x : Addr} {b : Value} {Q : Unit → Shared → Prop} (KI : K.In s.heap) (J : PySem.W.InstAt s.heap x ox C od) (c : NeBy K C) (q : Q () s) :
    wpAny M A (checkBuiltinCall "object.__ne__" ⟨[.ref x, b], []⟩) Q E s := by
  simp only [checkBuiltinCall, F.cmpKind_ne, F.cmpSplit_ne]
  refine wpAny_bind ?_
  unfold isInstance
  refine wpAny_bind (J.type.here ((PySem.W.looks_subIn KI c.ob).here ?_))
  have ha := F.cmpArgs_ne (.ref x) b
  cases hsig : Manifest.signature? "object.__ne__" with
  | none => exact wpAny_pure q
  | some sig =>
    simp only [argsOk, hsig] at ha
    show wpAny M A (PySem.Bind.checkArgs "object.__ne__" sig ⟨[.ref x, b], []⟩) Q E s
    rw [show PySem.Bind.checkArgs "object.__ne__" sig ⟨[.ref x, b], []⟩ = pure () from ha]
    exact wpAny_pure q
theorem ne_run {prog : Program} {w : World} {A : Around} {E : Value → Shared → Prop} {ox oy : Obj} {od ody : Option Obj} {K : PySem.W.Frag} {x y : Addr} {Q : Value → Shared → Prop} (KI : K.In s.heap) (J : PySem.W.InstAt s.heap x ox C od) (J2 : PySem.W.InstAt s.heap y oy C ody) (c : NeBy K C) (c2 : HasOp K C "__eq__" f) (hu : A.units + 1 < cLine)
    (h : wpAny (model prog w) A.in1 (call (.ref f) [.ref x, .ref y]) (fun v s' => ∃ k, v = .bool k ∧ Q (.bool (!k)) s') E s) : wpAny (model prog w) A (compareOp .NotEq (.ref x) (.ref y)) Q E s := by
  unfold compareOp richCompare
  simp only [oneThing_ref]
  refine wpAny_holding (wpAny_bind (wpAny_cRoomFor (Nat.lt_of_succ_lt hu) ?_))
  refine wpAny_bind (J.type.here (wpAny_bind (J2.type.here ?_)))
  rw [show (Value.ref C != Value.ref C) = false from by simp]
  simp only [Bool.false_eq_true, if_false]
  refine wpAny_bind (wpAny_pure ?_)
  simp only [Bool.false_eq_true, if_false]
  have one : wpAny (model prog w) A (tryCompare (.ref x) "__ne__" (.ref y)) (fun r s' => ∃ v, r = some v ∧ Q v s') E s := by
    unfold tryCompare
    refine wpAny_bind (ne_slot KI J c (wpAny_call (codeAny_call_builtin F.cmp_object.ne.plain F.cmpEntry_ne (ne_check KI J c ?_))))
    unfold Builtin.«object.__ne__»
    refine wpAny_bind (wpAny_pure ?_)
    refine wpAny_bind (wpAny_cRoomFor (by exact hu) ?_)
    refine wpAny_bind (m := callSpecialIfBound? (.ref x) (Str.ofString "__eq__") [.ref y]) (PySem.W.ifBound_K KI J c2.at_ c2.fn (thn h fun v s' hv => ?_))
    obtain ⟨b, rfl, hq⟩ := hv
    refine wpAny_bind (m := truthy (.bool b)) (wpAny_truthy_bool ?_)
    exact wpAny_pure (wpAny_pure ⟨_, rfl, hq⟩)
  refine wpAny_bind (m := tryCompare (.ref x) (Str.ofString "__ne__") (.ref y)) (thn one fun r s' z => ?_)
  obtain ⟨v, rfl, hq⟩ := z
  exact wpAny_pure hq
theorem op_ownNe (c : HasOp X.K C "__eq__" f) (c2 : NeBy X.K C) (F : FnR X.prog X.w X.K X.mg X.base CX k f sp) (hr : Room (k + 1) X.A) (hx : Passes CX X E) : OpR X (compareOp .NotEq) (rOwnEq true C sp E) := by
  intro pins s σ H x y u v Q I rx ry h
  obtain ⟨a, dx, fs, b, dy, gs, rfl, ha, rfl, hb, q⟩ := h
  cases (show u = Value.ref a from rx)
  cases (show v = Value.ref b from ry)
  obtain ⟨ox, od, J⟩ := inst_at I ha
  obtain ⟨oy, ody, J2⟩ := inst_at I hb
  refine ne_run I.kIn J J2 c2 c (by have := hr.units; omega) (thn (wpAny_call (SlX.run_at (us := [.ref a, .ref b]) (ws := [.ref a, .ref b]) F hr.in1 I.env0.in1 hx I (.cons (show RelV (.ref a) (.ref a) from rfl) (.cons (show RelV (.ref b) (.ref b) from rfl) .nil)) q)) fun w s' ⟨z, H', I', rz, kk, ez, qz⟩ => ?_)
  subst ez
  cases rz
  exact ⟨kk, rfl, .bl (!kk), H', I', rfl, qz⟩

/-! ### len(o) by the class's __len__ -/
def rOwnLen (C : Addr) (sp : Sp) (E : XK) : List V → Hp → VK → Prop := fun vs H Q => ∃ a dx fs, vs = [.ref a] ∧ H a = some (.ins C dx fs) ∧ sp [.ref a] H (fun v H' => ∃ i : Int, v = .int i ∧ 0 ≤ i ∧ i < 2 ^ 63 ∧ Q (.int i) H') E
theorem call_ownLen (c : HasOp X.K C "__len__" f) (F : FnR X.prog X.w X.K X.mg X.base CX k f sp) (hr : Room (k + 1) X.A) (hx : Passes CX X E) : CallR X (.builtin "len") (rOwnLen C sp E) := by
  intro pins s σ H vs us Q I rv h
  obtain ⟨a, dx, fs, rfl, ha, q⟩ := h
  obtain ⟨u, rfl, ru⟩ := vals1 rv
  cases (show u = Value.ref a from ru)
  obtain ⟨ox, od, J⟩ := inst_at I ha
  obtain ⟨mm, Fr⟩ := I.fr
  refine PySem.W.len_K Fr I.ok.mod.kin J c.at_ c.fn (thn (wpAny_call (SlX.run_at (us := [.ref a]) (ws := [.ref a]) F hr.in1 I.env0.in1 hx I (.cons (show RelV (.ref a) (.ref a) from rfl) .nil) q)) fun w s' ⟨z, H', I', rz, i, ez, h0, h1, qz⟩ => ?_)
  subst ez
  obtain ⟨t, rfl⟩ := rz
  exact ⟨⟨h0, h1⟩, .int i, H', I'.tok _, ⟨_, rfl⟩, qz⟩
end

/-! ### o - t, t a tuple: by the class's own method -/
section
variable {prog : Program} {w : World} {M : Model} {A : Around} {E : Value → Shared → Prop} {s : Shared} {K : PySem.W.Frag} {x C f : Addr} {ox : Obj} {od : Option Obj}
/-- what the class at C and the type T say of an operator nm -/
structure BinBy (K : PySem.W.Frag) (C f : Addr) (T : String) (nm : String) : Prop where
  own : HasOp K C (PySem.dunder nm) f
  first : PySem.W.selfFirst K C = true
  noR : PySem.W.findIn K (.ref C) (dunderR nm) = some none
  t1 : PySem.W.findIn K (.type T) (PySem.dunder nm) = some none
  t2 : PySem.W.findIn K (.type T) (dunderR nm) = some none
theorem bin_run {op : Operator} {b : Value} {T : String} {Q : Value → Shared → Prop} (KI : K.In s.heap) (J : PySem.W.InstAt s.heap x ox C od) (c : BinBy K C f T op.info.2) (hb : PySem.W.Looks (model prog w) s.heap (typeOf b) (.type T))
    (h : wpAny (model prog w) A (call (.ref f) [.ref x, b]) (PySem.W.CmpBack Q) E s) : wpAny (model prog w) A (binaryOp op (.ref x) b) Q E s := by
  obtain ⟨cd, more, hcd, hm⟩ := PySem.W.ksp_first c.first
  have e1 := PySem.W.fills_K (M := model prog w) KI hcd hm c.own.at_
  have e2 := PySem.W.ksp_fillsT (M := model prog w) KI c.t1 c.t2
  have one := PySem.W.ksp_try (M := model prog w) (A := A) (E := E) KI J c.own.at_ c.own.fn h
  have ne : (Value.ref C == Value.type T) = false := Bool.eq_false_iff.mpr fun q => by cases beq_iff_eq.mp q
  unfold binaryOp
  refine wpAny_holding (wpAny_bind ?_)
  unfold binaryOp1
  refine wpAny_bind (J.type.here (wpAny_bind (hb.here (wpAny_bind (e1.here ?_)))))
  simp only [ne, Bool.false_eq_true, if_false]
  refine wpAny_bind (e2.here ?_)
  simp only [Option.isSome_none, Bool.false_and, Bool.or_false, Bool.and_false, Bool.false_eq_true, if_false]
  refine wpAny_bind (wpAny_pure ?_)
  simp only [Bool.false_eq_true, if_false]
  refine wpAny_bind (m := tryMethod (.ref x) _ b) (thn one fun r s' z => ?_)
  obtain ⟨v, rfl, hq⟩ := z
  first
  | exact wpAny_pure (wpAny_pure hq)
  | exact wpAny_pure (wpAny_pure (wpAny_pure hq))
end
end LW
set_option Elab.async false
set_option linter.all false
set_option maxRecDepth 100000
set_option maxHeartbeats 2000000
namespace LW
open PySem L2

/-! ### values of operators -/
section
variable {X : Cx} {K : PySem.W.Frag} {H : Hp} {i j : Int} {P : V → Hp → Prop} {x y v : V} {k : Bool}
theorem c_val {α : Type} {v : α} {P : α → Hp → Prop} {t : Hp → (α → Hp → Prop) → Prop} (h : ∀ Hc, Ex H Hc → ∀ Q : α → Hp → Prop, Q v Hc → t Hc Q) (p : Pz H (P v)) : Cm H P t := Cm.ret h p
theorem r_I0 {g : Int → Int → V} : Cm H (is (g i j)) (rI0 g (.int i) (.int j)) := Cm.ret (fun _ _ _ q => ⟨i, j, rfl, rfl, q⟩) (.const rfl)
theorem r_I {C : Int → Int → Prop} {g : Int → Int → V} (hc : C i j) : Cm H (is (g i j)) (rI C g (.int i) (.int j)) := Cm.ret (fun _ _ _ q => ⟨i, j, rfl, rfl, hc, q⟩) (.const rfl)
theorem r_eq (h : scal x y = true) : Cm H (is (V.bl (decide (x = y)))) (rEq x y) := Cm.ret (fun _ _ _ q => ⟨h, q⟩) (.const rfl)
theorem r_ne (h : scal x y = true) : Cm H (is (V.bl (!decide (x = y)))) (rNe x y) := Cm.ret (fun _ _ _ q => ⟨h, q⟩) (.const rfl)
theorem r_ixL {a : Addr} {xs : List V} (h : Pz H (fun H' => SqL K H' a xs)) (e : atI xs i = some v) : Cm H (is v) (rIxL K (.ref a) (.int i)) := Cm.ret (fun Hc ex _ q => ⟨a, xs, i, v, rfl, rfl, h Hc ex, e, q⟩) (.const rfl)
theorem r_ixT {a : Addr} {xs : List V} (h : Pz H (fun H' => SqT K H' a xs)) (e : atI xs i = some v) : Cm H (is v) (rIxT K (.ref a) (.int i)) := Cm.ret (fun Hc ex _ q => ⟨a, xs, i, v, rfl, rfl, h Hc ex, e, q⟩) (.const rfl)
theorem r_ixS {w : Str} {c : Nat} (hl : w.length ≤ 100000) (e : atI w.cps.toList i = some c) : Cm H (is (V.str ⟨#[c]⟩)) (rIxS (.str w) (.int i)) := Cm.ret (fun Hc ex _ q => ⟨w, i, c, rfl, rfl, Evl.sz_of hl, e, q⟩) (.const rfl)
end

/-! ### promises -/
/-- from A of the arguments to R of the answer, x what both speak of -/
def SpF {α : Type} (A : α → List V → Hp → Prop) (R : α → V → Hp → Prop) : Sp := fun vs Hc Q _ => ∃ (x : α) (H : Hp), Ex H Hc ∧ Pz H (A x vs) ∧ ∀ v Hn H2, Grow H Hc Hn H2 → Pz Hn (R x v) → Q v H2
theorem c_sp {α : Type} {A : α → List V → Hp → Prop} {R : α → V → Hp → Prop} {x : α} {vs : List V} {H : Hp} {E : XK} (h : Pz H (A x vs)) : Cm H (R x) (fun Hc Q => SpF A R vs Hc Q E) := fun Hc e Q q => ⟨x, H, e, h, q⟩
/-- the def n of the module keeps it -/
structure Fn {α : Type} (P : Program) (w : World) (K : PySem.W.Frag) (mg : Str → Option Value) (base : Heap) (n : Str) (k : Nat) (A : α → List V → Hp → Prop) (R : α → V → Hp → Prop) : Prop where
  ex : ∃ f : Addr, mg n = some (.ref f) ∧ PySem.W.keepIn K (.ref f) = true ∧ FnR P w K mg base CX0 k f (SpF A R)
/-- the method m of the class at C keeps it -/
structure Md {α : Type} (P : Program) (w : World) (K : PySem.W.Frag) (mg : Str → Option Value) (base : Heap) (C : Addr) (m : Str) (k : Nat) (A : α → List V → Hp → Prop) (R : α → V → Hp → Prop) : Prop where
  ex : ∃ (f : Addr) (fd : FuncData) (ps : List Str), Meth K C m f ∧ FnOk P w K mg base CX0 k f fd ps (SpF A R) ∧ Binds K fd ps []
section
variable {α : Type} {A : α → List V → Hp → Prop} {R : α → V → Hp → Prop} {X : Cx} {σ : St} {H : Hp} {P : V → Hp → Prop} {k : Nat} {n m : Str} {C : Addr} {e o : Expr} {es : List Expr} {pos pn apos : Pos} {vs : List V} {x : α} {Pa : List V → Hp → Prop} {a dx : Addr} {fs : List (Str × V)} {v : V}
theorem e_call (F : Fn X.prog X.w X.K X.mg X.base n k A R) (hr : Room k X.A) (ha : Cm H Pa (wA X (e :: es) σ)) (hp : ∀ vs H1, Ex H H1 → Pz H1 (Pa vs) → ∃ x, Pz H1 (A x vs) ∧ ∀ v H2, Ex H1 H2 → R x v H2 → P v H2)
    (hg : Gl X n := by rfl) (hd : (n == ("__debug__" : Str)) = false := by decide) (hs : starEach (e :: es) X.env = (false, eval e X.env) :: starEach es X.env := by rfl) (hpl : (backTo pos (starEach es X.env)).any (·.1) = false := by rfl) :
    Cm H P (wE X (.Call (.Name n pn) (e :: es) [] pos) σ) := by
  obtain ⟨f, hm, hk, G⟩ := F.ex
  refine ce (pe_callR G hr hk hg hm pass0 pa_w hd hs hpl) (cm1 (u := fun vs H1 Q => SpF A R vs H1 Q E0) ha fun vs H1 e1 p1 => ?_)
  obtain ⟨x, h1, h2⟩ := hp vs H1 e1 p1
  exact (c_sp h1).imp h2
theorem e_callD (x : α) (F : Fn X.prog X.w X.K X.mg X.base n k A R) (hr : Room k X.A) (ha : Cm H (is vs) (wA X (e :: es) σ)) (hp : Pz H (A x vs))
    (hg : Gl X n := by rfl) (hd : (n == ("__debug__" : Str)) = false := by decide) (hs : starEach (e :: es) X.env = (false, eval e X.env) :: starEach es X.env := by rfl) (hpl : (backTo pos (starEach es X.env)).any (·.1) = false := by rfl) :
    Cm H (R x) (wE X (.Call (.Name n pn) (e :: es) [] pos) σ) :=
  e_call F hr ha (fun ws H1 e1 p1 => ⟨x, by
    have q : ws = vs := p1.now
    subst q
    exact hp.mono e1, fun _ _ _ z => z⟩) hg hd hs hpl
/-- o.m(..), o an instance -/
theorem e_meth (F : Md X.prog X.w X.K X.mg X.base C m k A R) (c : Cls X.K C) (hr : Room k X.A) (ho : Cm H (is (V.ref a)) (wE X o σ)) (hi : Pz H (fun H' => H' a = some (.ins C dx fs))) (hl : fs.lookup m = none) (ha : Cm H Pa (wA X (e :: es) σ))
    (hp : ∀ vs H1, Ex H H1 → Pz H1 (Pa vs) → ∃ x, Pz H1 (A x (.ref a :: vs)) ∧ ∀ v H2, Ex H1 H2 → R x v H2 → P v H2) {pl : Sem Bool}
    (hs : starEach (e :: es) X.env = (false, eval e X.env) :: starEach es X.env := by rfl) (hpl : (backTo pos (starEach es X.env)).any (·.1) = false := by rfl)
    (ht : eval (.Call (.Attribute o m apos) (e :: es) [] pos) X.env = (eval o X.env >>= fun ov => standAt apos.atName >>= fun _ => holding [ov] (getMethod ov m pl) >>= fun fx =>
      callWith pos fx.1 fx.2 (backTo pos (starEach (e :: es) X.env)) (backToKw pos (keywordEach [] X.env))) := by rfl) : Cm H P (wE X (.Call (.Attribute o m apos) (e :: es) [] pos) σ) := by
  obtain ⟨f, fd, ps, hm, G, hb⟩ := F.ex
  refine ce (pe_meth (pl := pl) pe_w c hm G hr hb .nil pass0 pa_w hs hpl ht) (cm1D (u := fun (x : V) (Hc : Hp) (Q : VK) => ∃ a dx fs, x = V.ref a ∧ Hc a = some (.ins C dx fs) ∧ fs.lookup m = none ∧ wA X (e :: es) σ Hc fun vs H2 => SpF A R (x :: (vs ++ [])) H2 Q E0) ho ?_)
  refine fun Hc ex Q q => ⟨a, dx, fs, rfl, hi Hc ex, hl, ha Hc ex _ fun vs Hn H2 g p => ?_⟩
  obtain ⟨x, h1, h2⟩ := hp vs Hn g.k p
  rw [List.append_nil]
  exact ⟨x, Hn, g.s, h1, fun v Hn2 H3 g2 r => q v Hn2 H3 (g.trans g2) (r.imp fun H' e' z => h2 v H' (g2.k.trans e') z)⟩
theorem e_meth0 (x : α) (F : Md X.prog X.w X.K X.mg X.base C m k A R) (c : Cls X.K C) (hr : Room k X.A) (ho : Cm H (is (V.ref a)) (wE X o σ)) (hi : Pz H (fun H' => H' a = some (.ins C dx fs))) (hl : fs.lookup m = none) (hp : Pz H (A x [.ref a])) {pl : Sem Bool}
    (ht : eval (.Call (.Attribute o m apos) [] [] pos) X.env = (eval o X.env >>= fun ov => standAt apos.atName >>= fun _ => holding [ov] (getMethod ov m pl) >>= fun fx =>
      callWith pos fx.1 fx.2 (backTo pos (starEach [] X.env)) (backToKw pos (keywordEach [] X.env))) := by rfl) : Cm H (R x) (wE X (.Call (.Attribute o m apos) [] [] pos) σ) := by
  obtain ⟨f, fd, ps, hm, G, hb⟩ := F.ex
  refine ce (pe_meth0 (pl := pl) pe_w c hm G hr hb .nil pass0 ht) (cm1D (u := fun (x : V) (Hc : Hp) (Q : VK) => ∃ a dx fs, x = V.ref a ∧ Hc a = some (.ins C dx fs) ∧ fs.lookup m = none ∧ SpF A R (x :: ([] ++ [])) Hc Q E0) ho ?_)
  exact fun Hc ex Q q => ⟨a, dx, fs, rfl, hi Hc ex, hl, ⟨x, H, ex, hp, q⟩⟩
/-! ### attributes -/
theorem e_fld {f : Str} (c : Cls X.K C) (nf : NoAttr X.K C f) (ho : Cm H (is (V.ref a)) (wE X o σ)) (hi : Pz H (fun H' => H' a = some (.ins C dx fs))) (hl : fs.lookup f = some v) (hb : attributeBase o f X.env (eval o X.env) = eval o X.env := by rfl) :
    Cm H (is v) (wE X (.Attribute o f pos) σ) :=
  ce (pe_fld pe_w hb) (cm1D (u := fun x H1 Q => ∃ a C dx fs v, x = .ref a ∧ H1 a = some (.ins C dx fs) ∧ Cls X.K C ∧ NoAttr X.K C f ∧ fs.lookup f = some v ∧ Q v H1) ho (Cm.ret (fun Hc e _ q => ⟨a, C, dx, fs, v, rfl, hi Hc e, c, nf, hl, q⟩) (.const rfl)))
theorem e_cval {f : Str} {mc u : Value} (r : ClX.CRead X.K C mc) (cv : ClX.CVal X.K C mc f v u) (ho : Cm H (is (V.ref C)) (wE X o σ)) (hb : attributeBase o f X.env (eval o X.env) = eval o X.env := by rfl) : Cm H (is v) (wE X (.Attribute o f pos) σ) :=
  ce (ClX.pe_cval pe_w hb) (cm1D (u := fun x H1 Q => ∃ C mc v u, x = .ref C ∧ ClX.CRead X.K C mc ∧ ClX.CVal X.K C mc f v u ∧ Q v H1) ho (Cm.ret (fun Hc e _ q => ⟨C, mc, v, u, rfl, r, cv, q⟩) (.const rfl)))
/-- a property: the getter's promise -/
structure Pr {α : Type} (P : Program) (w : World) (K : PySem.W.Frag) (mg : Str → Option Value) (base : Heap) (C : Addr) (m : Str) (k : Nat) (A : α → List V → Hp → Prop) (R : α → V → Hp → Prop) : Prop where
  ex : ∃ (p g : Addr) (fd : FuncData) (ps : List Str), PropOf K C m p g ∧ FnOk P w K mg base CX0 k g fd ps (SpF A R) ∧ Binds K fd ps []
theorem e_prop (x : α) (F : Pr X.prog X.w X.K X.mg X.base C m k A R) (c : Cls X.K C) (hr : Room (k + 1) X.A) (ho : Cm H (is (V.ref a)) (wE X o σ)) (hi : Pz H (fun H' => H' a = some (.ins C dx fs))) (hp : Pz H (A x [.ref a]))
    (hb : attributeBase o m X.env (eval o X.env) = eval o X.env := by rfl) : Cm H (R x) (wE X (.Attribute o m pos) σ) := by
  obtain ⟨p, g, fd, ps, hm, G, hbn⟩ := F.ex
  refine ce (pe_prop pe_w c hm G hr hbn .nil pass0 hb) (cm1D (u := fun x Hc Q => ∃ a dx fs, x = .ref a ∧ Hc a = some (.ins C dx fs) ∧ SpF A R (.ref a :: []) Hc Q E0) ho ?_)
  exact fun Hc ex Q q => ⟨a, dx, fs, rfl, hi Hc ex, ⟨x, H, ex, hp, q⟩⟩
/-! ### class and static methods, with stars or without: their raw promise sp at (C, arguments) -/
theorem e_cmeth {mc : Value} {p g : Addr} {sp : Sp} (r : ClX.CRead X.K C mc) (c : ClX.CMet X.K C mc m p g) (F : FnR X.prog X.w X.K X.mg X.base CX0 k g sp) (hr : Room k X.A) (ho : Cm H (is (V.ref C)) (wE X o σ)) (ha : Cm H Pa (wA X (e :: es) σ))
    (hp : ∀ vs H1, Ex H H1 → Pz H1 (Pa vs) → Cm H1 P (fun Hc Q => sp (.ref C :: vs) Hc Q E0)) {pl : Sem Bool}
    (hs : starEach (e :: es) X.env = (false, eval e X.env) :: starEach es X.env := by rfl) (hpl : (backTo pos (starEach es X.env)).any (·.1) = false := by rfl)
    (ht : eval (.Call (.Attribute o m apos) (e :: es) [] pos) X.env = (eval o X.env >>= fun ov => standAt apos.atName >>= fun _ => holding [ov] (getMethod ov m pl) >>= fun fx =>
      callWith pos fx.1 fx.2 (backTo pos (starEach (e :: es) X.env)) (backToKw pos (keywordEach [] X.env))) := by rfl) : Cm H P (wE X (.Call (.Attribute o m apos) (e :: es) [] pos) σ) :=
  ce (ClX.pe_cmeth (pl := pl) pe_w r c F hr pass0 pa_w hs hpl ht) (cm1D (u := fun (x : V) (Hc : Hp) (Q : VK) => x = V.ref C ∧ wA X (e :: es) σ Hc fun vs H2 => sp (.ref C :: vs) H2 Q E0) ho fun Hc ex Q q => ⟨rfl, ha Hc ex _ fun vs Hn H2 g p1 =>
    hp vs Hn g.k p1 H2 g.s Q fun v Hn2 H3 g2 p2 => q v Hn2 H3 (g.trans g2) p2⟩)
theorem e_smeth {mc : Value} {p g : Addr} {sp : Sp} (r : ClX.CRead X.K C mc) (c : SMet X.K C mc m p g) (F : FnR X.prog X.w X.K X.mg X.base CX0 k g sp) (hr : Room k X.A) (ho : Cm H (is (V.ref C)) (wE X o σ)) (ha : Cm H Pa (wA X (e :: es) σ))
    (hp : ∀ vs H1, Ex H H1 → Pz H1 (Pa vs) → Cm H1 P (fun Hc Q => sp vs Hc Q E0)) {pl : Sem Bool}
    (hs : starEach (e :: es) X.env = (false, eval e X.env) :: starEach es X.env := by rfl) (hpl : (backTo pos (starEach es X.env)).any (·.1) = false := by rfl)
    (ht : eval (.Call (.Attribute o m apos) (e :: es) [] pos) X.env = (eval o X.env >>= fun ov => standAt apos.atName >>= fun _ => holding [ov] (getMethod ov m pl) >>= fun fx =>
      callWith pos fx.1 fx.2 (backTo pos (starEach (e :: es) X.env)) (backToKw pos (keywordEach [] X.env))) := by rfl) : Cm H P (wE X (.Call (.Attribute o m apos) (e :: es) [] pos) σ) :=
  ce (pe_smeth (pl := pl) pe_w r c F hr pass0 pa_w hs hpl ht) (cm1D (u := fun (x : V) (Hc : Hp) (Q : VK) => x = V.ref C ∧ wA X (e :: es) σ Hc fun vs H2 => sp vs H2 Q E0) ho fun Hc ex Q q => ⟨rfl, ha Hc ex _ fun vs Hn H2 g p1 =>
    hp vs Hn g.k p1 H2 g.s Q fun v Hn2 H3 g2 p2 => q v Hn2 H3 (g.trans g2) p2⟩)
/-! ### instances made -/
/-- what an __init__ promises: Hb the heap ahead of the instance -/
def SpI {α : Type} (C : Addr) (A : α → List V → Hp → Prop) (R : α → V → Hp → Prop) : Sp := fun vs Hc Q _ => ∃ (x : α) (H Hb : Hp) (p dx : Addr) (ws : List V), vs = .ref p :: ws ∧ Ex H Hb ∧ Hb p = none ∧ Hb dx = none ∧ dx ≠ p ∧ Hc = upd (upd Hb dx (.own p)) p (.ins C dx []) ∧ Pz H (A x ws) ∧
  ∀ Hn H2, Grow H Hb Hn H2 → Pz Hn (R x (.ref p)) → Q .non H2
theorem e_make {f : Addr} (M : Mk X.K C f) (hm : X.mg n = some (.ref C)) (F : FnR X.prog X.w X.K X.mg X.base CX0 k f (SpI C A R)) (hr : Room (k + 1) X.A) (ha : Cm H Pa (wA X (e :: es) σ)) (hp : ∀ vs H1, Ex H H1 → Pz H1 (Pa vs) → ∃ x, Pz H1 (A x vs) ∧ ∀ v H2, Ex H1 H2 → R x v H2 → P v H2)
    (hg : Gl X n := by rfl) (hd : (n == ("__debug__" : Str)) = false := by decide) (hs : starEach (e :: es) X.env = (false, eval e X.env) :: starEach es X.env := by rfl) (hpl : (backTo pos (starEach es X.env)).any (·.1) = false := by rfl) :
    Cm H P (wE X (.Call (.Name n pn) (e :: es) [] pos) σ) :=
  ce (StX.pe_makeR M F hr hg hm pass0 pa_w hd hs hpl) (cm1 (u := fun vs H1 (Q : VK) => ∀ x dx, H1 x = none → H1 dx = none → dx ≠ x → SpI C A R (.ref x :: vs) (upd (upd H1 dx (.own x)) x (.ins C dx [])) (fun v H2 => v = .non ∧ Q (.ref x) H2) E0) ha fun vs H1 e1 p1 => by
    obtain ⟨x, h1, h2⟩ := hp vs H1 e1 p1
    exact fun Hc ex Q q p dx hp' hdx ne => ⟨x, H1, Hc, p, dx, vs, rfl, ex, hp', hdx, ne, rfl, h1, fun Hn H2 g r => ⟨rfl, q _ Hn H2 g (r.imp fun H' e' z => h2 _ H' (g.k.trans e') z)⟩⟩)
theorem e_makeL (i : Nat) {f : Addr} (M : Mk X.K C f) (F : FnR X.prog X.w X.K X.mg X.base CX0 k f (SpI C A R)) (hr : Room (k + 1) X.A) (hσ : σ[i]? = some (some (.ref C))) (ha : Cm H Pa (wA X (e :: es) σ)) (hp : ∀ vs H1, Ex H H1 → Pz H1 (Pa vs) → ∃ x, Pz H1 (A x vs) ∧ ∀ v H2, Ex H1 H2 → R x v H2 → P v H2)
    (hN : X.N[i]? = some n := by rfl) (hv : Vis X.env.scope n := by first | exact Or.inl rfl | exact Or.inr (Or.inl rfl) | exact Or.inr (Or.inr rfl)) (hd : (n == ("__debug__" : Str)) = false := by decide) (hcd : (n == ("__classdict__" : Str)) = false := by decide)
    (hs : starEach (e :: es) X.env = (false, eval e X.env) :: starEach es X.env := by rfl) (hpl : (backTo pos (starEach es X.env)).any (·.1) = false := by rfl) :
    Cm H P (wE X (.Call (.Name n pn) (e :: es) [] pos) σ) := by
  refine ce (pe_makeL (i := i) M F hr hN hv pass0 pa_w hd hcd hs hpl) fun Hc0 ex0 Q0 q0 => ⟨hσ, ?_⟩
  refine (cm1 (u := fun vs H1 (Q : VK) => ∀ x dx, H1 x = none → H1 dx = none → dx ≠ x → SpI C A R (.ref x :: vs) (upd (upd H1 dx (.own x)) x (.ins C dx [])) (fun v H2 => v = .non ∧ Q (.ref x) H2) E0) ha fun vs H1 e1 p1 => ?_ : Cm H P _) Hc0 ex0 Q0 q0
  obtain ⟨x, h1, h2⟩ := hp vs H1 e1 p1
  exact fun Hc ex Q q p dx hp' hdx ne => ⟨x, H1, Hc, p, dx, vs, rfl, ex, hp', hdx, ne, rfl, h1, fun Hn H2 g r => ⟨rfl, q _ Hn H2 g (r.imp fun H' e' z => h2 _ H' (g.k.trans e') z)⟩⟩
end
end LW
set_option Elab.async false
set_option linter.all false
set_option maxRecDepth 100000
set_option maxHeartbeats 2000000
namespace LW
open PySem L2
/-- the frame in which a def's body runs -/
abbrev fx (P : Program) (w : World) (K : PySem.W.Frag) (mg : Str → Option Value) (base : Heap) (N : List Str) (qual : Str) (st : Stmt) (f : Addr) (cdv : Value) (A : Around) (outer : List Env) (s : Shared) (H : Hp) (E : XK) : Cx :=
  (cxOf CX0 P w K mg base N qual (defScope st) f cdv A outer s H E).nox
/-- what is to be shown of a def's body -/
def Body {α : Type} (P : Program) (w : World) (K : PySem.W.Frag) (mg : Str → Option Value) (base : Heap) (N : List Str) (qual : Str) (st : Stmt) (f : Addr) (k : Nat) (A : α → List V → Hp → Prop) (R : α → V → Hp → Prop) : Prop :=
  ∀ (cdv : Value) (Ar : Around) (outer : List Env) (s : Shared) (H0 : Hp) (E : XK) (x : α) (vs : List V) (H Hc : Hp) (D : Ends), Room k (fx P w K mg base N qual st f cdv Ar outer s H0 E).A → Ex H Hc → Pz H (A x vs) →
    (∀ v Hn H2, Grow H Hc Hn H2 → Pz Hn (R x v) → D.rt v H2) → (∀ σ Hn H2, Grow H Hc Hn H2 → Pz Hn (R x .non) → D.nx σ H2) → wB (fx P w K mg base N qual st f cdv Ar outer s H0 E) (defBody st) D (L2.start N vs) Hc
section
variable {α : Type} {P : Program} {w : World} {K : PySem.W.Frag} {mg : Str → Option Value} {base : Heap} {x qual : Str} {st : Stmt} {f : Addr} {fd : FuncData} {N ps : List Str} {k : Nat} {A : α → List V → Hp → Prop} {R : α → V → Hp → Prop}
theorem ok_of (F : Fun K x qual st f fd) (S : FnScope N ps (defScope st)) (len : ∀ a vs H, A a vs H → vs.length = ps.length) (b : Body P w K mg base N qual st f k A R) : FnOk P w K mg base CX0 (k + 1) f fd ps (SpF A R) :=
  F.ok S (fun vs H Q E h => by
    obtain ⟨a, H1, e, p, _⟩ := h
    exact len a vs H1 p.now) fun cdv Ar outer s H vs Q E hr h => by
    obtain ⟨a, H1, e, p, q⟩ := h
    exact ⟨_, pss_w, b cdv Ar outer s H E a vs H1 H _ hr e p (fun v Hn H2 g r => q v Hn H2 g r) fun _ Hn H2 g r => q .non Hn H2 g r⟩
theorem raw_of {ps : List Str} (G : FnOk P w K mg base CX0 k f fd ps (SpF A R)) (hb : Binds K fd ps []) : FnR P w K mg base CX0 k f (SpF A R) :=
  (G.raw hb .nil).imp fun vs H Q E h => by
    rw [List.append_nil]
    exact h
end
/-! ### built-ins, by their names -/
section
variable {X : Cx} {σ : St} {H : Hp} {P : V → Hp → Prop} {e : Expr} {es : List Expr} {pos pn : Pos} {n : Str} {id T : String} {r : List V → Hp → VK → Prop} {Pa : List V → Hp → Prop} {vs : List V} {i : Int}
theorem e_blt (c : CallR X (.builtin id) r) (hm : X.mg n = none) (ha : Cm H Pa (wA X (e :: es) σ)) (hr : ∀ vs H1, Ex H H1 → Pz H1 (Pa vs) → Cm H1 P (r vs)) (hg : Gl X n := by rfl) (hv : bootBuiltins n = some (.builtin id) := by decide +kernel) (hn : n ≠ "__name__" := by decide) (hd : (n == ("__debug__" : Str)) = false := by decide)
    (hs : starEach (e :: es) X.env = (false, eval e X.env) :: starEach es X.env := by rfl) (hpl : (backTo pos (starEach es X.env)).any (·.1) = false := by rfl) : Cm H P (wE X (.Call (.Name n pn) (e :: es) [] pos) σ) :=
  ce (pe_callB c hg hm hv pa_w hn hd hs hpl) (cm1 (u := r) ha hr)
theorem e_bltD (c : CallR X (.builtin id) r) (hm : X.mg n = none) (ha : Cm H (is vs) (wA X (e :: es) σ)) (hr : Cm H P (r vs)) (hg : Gl X n := by rfl) (hv : bootBuiltins n = some (.builtin id) := by decide +kernel) (hn : n ≠ "__name__" := by decide) (hd : (n == ("__debug__" : Str)) = false := by decide)
    (hs : starEach (e :: es) X.env = (false, eval e X.env) :: starEach es X.env := by rfl) (hpl : (backTo pos (starEach es X.env)).any (·.1) = false := by rfl) : Cm H P (wE X (.Call (.Name n pn) (e :: es) [] pos) σ) :=
  ce (pe_callB c hg hm hv pa_w hn hd hs hpl) (cm1D (u := r) ha hr)
theorem e_ty (c : CallR X (.type T) r) (hm : X.mg n = none) (ha : Cm H Pa (wA X (e :: es) σ)) (hr : ∀ vs H1, Ex H H1 → Pz H1 (Pa vs) → Cm H1 P (r vs)) (hg : Gl X n := by rfl) (hv : bootBuiltins n = some (.type T) := by decide +kernel) (hn : n ≠ "__name__" := by decide) (hd : (n == ("__debug__" : Str)) = false := by decide)
    (hs : starEach (e :: es) X.env = (false, eval e X.env) :: starEach es X.env := by rfl) (hpl : (backTo pos (starEach es X.env)).any (·.1) = false := by rfl) : Cm H P (wE X (.Call (.Name n pn) (e :: es) [] pos) σ) :=
  ce (pe_callTy c hg hm hv pa_w hn hd hs hpl) (cm1 (u := r) ha hr)
theorem e_tyD (c : CallR X (.type T) r) (hm : X.mg n = none) (ha : Cm H (is vs) (wA X (e :: es) σ)) (hr : Cm H P (r vs)) (hg : Gl X n := by rfl) (hv : bootBuiltins n = some (.type T) := by decide +kernel) (hn : n ≠ "__name__" := by decide) (hd : (n == ("__debug__" : Str)) = false := by decide)
    (hs : starEach (e :: es) X.env = (false, eval e X.env) :: starEach es X.env := by rfl) (hpl : (backTo pos (starEach es X.env)).any (·.1) = false := by rfl) : Cm H P (wE X (.Call (.Name n pn) (e :: es) [] pos) σ) :=
  ce (pe_callTy c hg hm hv pa_w hn hd hs hpl) (cm1D (u := r) ha hr)
end
end LW
set_option Elab.async false
set_option linter.all false
set_option maxRecDepth 100000
set_option maxHeartbeats 2000000
namespace LW
open PySem L2
/-! ### reading what one owns -/
section
variable {H Hc H0 Hc0 H2 Hn : Hp} {l : Addr} {o : HO}
theorem Ex.own (e : Ex H Hc) (h : Hc l = some o) : Ex (upd H l o) Hc := fun a u q => by
  by_cases z : a = l
  · subst z; rw [upd_same] at q; cases q; exact h
  · rw [upd_ne z] at q; exact e a u q
theorem Ex.put (n : H l = none) : Ex H (upd H l o) := Evl.Ex.new n
/-- nothing that is new is known: the heap has grown alone -/
theorem Grow.step (g : Grow H0 Hc0 H Hc) (e : Ex H H2) (c : Ex Hc H2) : Grow H0 Hc0 H H2 := ⟨g.k, e, g.c.trans c, g.f⟩
/-- behind a look at the own object at l -/
theorem Grow.looked (g : Grow H0 Hc0 H Hc) (n : H l = none) (g2 : Grow (upd H l o) Hc Hn H2) : Grow H0 Hc0 H H2 := g.step ((Ex.put n).trans (g2.k.trans g2.s)) g2.c
end
section
variable {X : Cx} {σ : St} {H Hc : Hp} {P Pa Pb : V → Hp → Prop} {e o i value : Expr} {es rest : List Expr} {sts : List Stmt} {pos pos' px apos cpos p2 : Pos} {D : Ends} {k : Bool} {v x y : V} {a l : Addr} {xs ys : List V} {r : R2} {n : Nat}
/-! ### subscripts, slices -/
theorem e_ix (h : IxR X r) (ho : Cm H Pa (wE X o σ)) (hi : Cm H Pb (wE X i σ)) (hr : ∀ x y H1, Ex H H1 → Pz H1 (Pa x) → Pz H1 (Pb y) → Cm H1 P (r x y)) (hs : PlainIx i := by exact fun _ _ => rfl) : Cm H P (wE X (.Subscript o i pos) σ) :=
  ce (pe_ix h pe_w pe_w hs) (cm2 ha hb hr) where
  ha := ho
  hb := hi
theorem e_ixD (h : IxR X r) (ho : Cm H (is x) (wE X o σ)) (hi : Cm H (is y) (wE X i σ)) (hr : Cm H P (r x y)) (hs : PlainIx i := by exact fun _ _ => rfl) : Cm H P (wE X (.Subscript o i pos) σ) :=
  ce (pe_ix h pe_w pe_w hs) (cm2D ho hi hr)
/-- xs[j], a list that is known; its j-th item -/
theorem e_item {j : Nat} (ho : Cm H (is (V.ref a)) (wE X o σ)) (hi : Cm H (is (V.int (j : Int))) (wE X i σ)) (h : Pz H (fun H' => SqL X.K H' a xs)) (hj : xs[j]? = some v) (hs : PlainIx i := by exact fun _ _ => rfl) : Cm H (is v) (wE X (.Subscript o i pos) σ) :=
  e_ixD ix_list ho hi (r_ixL h (by
    have q := (List.getElem?_eq_some_iff.mp hj).1
    show (ixN xs.length (j : Int)).bind _ = _
    rw [Evl.ixN_nat q]; exact hj)) hs
theorem e_itemT {j : Nat} (ho : Cm H (is (V.ref a)) (wE X o σ)) (hi : Cm H (is (V.int (j : Int))) (wE X i σ)) (h : Pz H (fun H' => SqT X.K H' a xs)) (hj : xs[j]? = some v) (hs : PlainIx i := by exact fun _ _ => rfl) : Cm H (is v) (wE X (.Subscript o i pos) σ) :=
  e_ixD ix_tup ho hi (r_ixT h (by
    have q := (List.getElem?_eq_some_iff.mp hj).1
    show (ixN xs.length (j : Int)).bind _ = _
    rw [Evl.ixN_nat q]; exact hj)) hs
/-! ### stores -/
theorem b_app (ex : Ex H Hc) (ho : Cm H (is (V.ref l)) (wE X o σ)) (hv : Cm H P (wE X e σ)) (hl : Hc l = some (.lst xs)) (hz : xs.length < 100000) (h : ∀ v Hn H2, Grow H Hc Hn H2 → Pz Hn (P v) → wB X sts D σ (upd H2 l (.lst (xs ++ [v]))))
    (hb : attributeBase o "append" X.env (eval o X.env) = eval o X.env := by rfl)
    (h1 : (((((backTo cpos (starEach [e] X.env)).all fun x => !x.fst) && (backToKw cpos (keywordEach [] X.env)).all fun x => x.fst.isSome) && decide (([e] : List Expr).length + ([] : List Nat).length + (if ([] : List Nat).isEmpty = true then 0 else 1) < 30)) = true) := by rfl)
    (h2 : (apos.endLine == cpos.line) = true := by rfl) (h3 : starEach [e] X.env = (false, eval e X.env) :: starEach [] X.env := by rfl) (hs : swapsWith (.Call (.Attribute o "append" apos) [e] [] cpos) none pos.line X.env = pure false := by rfl) :
    wB X (.Expr (.Call (.Attribute o "append" apos) [e] [] cpos) pos :: sts) D σ Hc := by
  refine b_cons (w_s (ps_expr (pe_bm PySem.F.plainAttrs_list PySem.F.slot_list_append PySem.F.type_list_append mt_append pe_w (pa_cons pe_w pa_nil h3) hb h1 h2 h3) hs) ?_)
  refine ho Hc ex _ fun u Hn H2 g p => ?_
  have q : u = .ref l := p.now
  subst q
  refine ⟨.inl ⟨rfl, _, SqL.of (g.c _ _ hl)⟩, hv.mono g.k H2 g.s _ fun v Hm H3 g3 p3 => ?_⟩
  exact ⟨l, xs, v, rfl, rfl, g3.c _ _ (g.c _ _ hl), Evl.sz_lt hz, h v Hm H3 (g.trans g3) p3⟩
/-- d[k] = e, d a dict of one's own, its keys ints and texts -/
theorem b_dput {kvs : List (Key × V)} {key : Key} (ex : Ex H Hc) (hu : X.A.units + 1 < cLine) (hv : Cm H P (wE X value σ)) (ho : Cm H (is (V.ref l)) (wE X o σ)) (hi : Cm H (is (kV key)) (wE X i σ)) (hl : Hc l = some (.dK kvs)) (hz : kvs.length < 100000)
    (h : ∀ v Hn H2, Grow H Hc Hn H2 → Pz Hn (P v) → wB X sts D σ (upd H2 l (.dK (putK kvs key v)))) (hs : swapsWith value (some (.Subscript o i pos')) pos.line X.env = pure false := by rfl) : wB X (.Assign [.Subscript o i pos'] value pos :: sts) D σ Hc := by
  refine b_cons (w_s (ps_dput hu pe_w pe_w pe_w hs) ?_)
  refine hv Hc ex _ fun v Hn H2 g p => ho.mono g.k H2 g.s _ fun u Hm H3 g3 p3 => hi.mono (g.trans g3).k H3 g3.s _ fun w Hk H4 g4 p4 => ?_
  have q : u = .ref l := p3.now
  have q2 : w = kV key := p4.now
  subst q q2
  exact ⟨l, _, rfl, .inl ⟨kvs, key, g4.c _ _ (g3.c _ _ (g.c _ _ hl)), rfl, Evl.sz_lt hz, rfl⟩, h v Hk H4 (g.trans (g3.trans g4)) (p.mono (g3.trans g4).k)⟩
/-- .. its keys tuples -/
theorem b_dputT {kvs : List (List Key × V)} {key : List Key} {b : Addr} (ex : Ex H Hc) (hu : X.A.units + 1 < cLine) (hv : Cm H P (wE X value σ)) (ho : Cm H (is (V.ref l)) (wE X o σ)) (hi : Cm H (is (V.ref b)) (wE X i σ)) (hb : Pz H (fun H' => H' b = some (.tup (key.map kV)))) (hl : Hc l = some (.dT kvs)) (hz : kvs.length < 100000)
    (h : ∀ v Hn H2, Grow H Hc Hn H2 → Pz Hn (P v) → wB X sts D σ (upd H2 l (.dT (putK kvs key v)))) (hs : swapsWith value (some (.Subscript o i pos')) pos.line X.env = pure false := by rfl) : wB X (.Assign [.Subscript o i pos'] value pos :: sts) D σ Hc := by
  refine b_cons (w_s (ps_dput hu pe_w pe_w pe_w hs) ?_)
  refine hv Hc ex _ fun v Hn H2 g p => ho.mono g.k H2 g.s _ fun u Hm H3 g3 p3 => hi.mono (g.trans g3).k H3 g3.s _ fun w Hk H4 g4 p4 => ?_
  have q : u = .ref l := p3.now
  have q2 : w = .ref b := p4.now
  subst q q2
  exact ⟨l, _, rfl, .inr ⟨kvs, key, b, g4.c _ _ (g3.c _ _ (g.c _ _ hl)), rfl, hb H4 ((g.trans (g3.trans g4)).k.trans g4.s), Evl.sz_lt hz, rfl⟩, h v Hk H4 (g.trans (g3.trans g4)) (p.mono (g3.trans g4).k)⟩
/-! ### dicts read -/
theorem e_din {op : Option V} (hu : X.A.units + 1 < cLine) (hi : Cm H (is y) (wE X i σ)) (ho : Cm H (is (V.ref a)) (wE X o σ)) (h : Pz H (fun H' => DGet H' a y op)) (hm : behindInMarks .In o = false := by rfl) : Cm H (is (V.bl op.isSome)) (wE X (.Compare i [.In] [o] pos) σ) :=
  ce (pe_cmp (pc_din hu pe_w pe_w) hm) (cm2D (r := fun y x H2 (Q : VK) => ∃ a o, x = V.ref a ∧ DGet H2 a y o ∧ Q (V.bl o.isSome) H2) hi ho (Cm.ret (fun Hc e _ q => ⟨a, op, rfl, h Hc e, q⟩) (.const rfl)))
theorem e_dnin {op : Option V} (hu : X.A.units + 1 < cLine) (hi : Cm H (is y) (wE X i σ)) (ho : Cm H (is (V.ref a)) (wE X o σ)) (h : Pz H (fun H' => DGet H' a y op)) (hm : behindInMarks .NotIn o = false := by rfl) : Cm H (is (V.bl (!op.isSome))) (wE X (.Compare i [.NotIn] [o] pos) σ) :=
  ce (pe_cmp (pc_dnotin hu pe_w pe_w) hm) (cm2D (r := fun y x H2 (Q : VK) => ∃ a o, x = V.ref a ∧ DGet H2 a y o ∧ Q (V.bl (!o.isSome)) H2) hi ho (Cm.ret (fun Hc e _ q => ⟨a, op, rfl, h Hc e, q⟩) (.const rfl)))
theorem e_dget (hu : X.A.units + 1 < cLine) (ho : Cm H (is (V.ref a)) (wE X o σ)) (hi : Cm H (is y) (wE X i σ)) (h : Pz H (fun H' => DGet H' a y (some v))) (hs : NoSl i := by exact fun _ _ => rfl) : Cm H (is v) (wE X (.Subscript o i pos) σ) :=
  ce (pe_dget hu pe_w pe_w hs) (cm2D (r := fun x y H2 (Q : VK) => ∃ a v, x = V.ref a ∧ DGet H2 a y (some v) ∧ Q v H2) ho hi (Cm.ret (fun Hc e _ q => ⟨a, v, rfl, h Hc e, q⟩) (.const rfl)))
theorem pz_dK {kvs : List (Key × V)} {key : Key} (h : Pz H (fun H' => H' a = some (.dK kvs))) : Pz H (fun H' => DGet H' a (kV key) (valV kvs key)) := h.imp fun _ _ z => .inl ⟨kvs, key, .of z, rfl, rfl⟩
theorem pz_dT {kvs : List (List Key × V)} {key : List Key} {b : Addr} (h : Pz H (fun H' => H' a = some (.dT kvs))) (hb : Pz H (fun H' => H' b = some (.tup (key.map kV)))) : Pz H (fun H' => DGet H' a (.ref b) (valV kvs key)) :=
  fun H' e => .inr ⟨kvs, key, b, .of (h H' e), rfl, hb H' e, rfl⟩
/-- a new dict, to be one's own -/
theorem b_dnewK (i : Nat) {nm : Str} (ex : Ex H Hc) (h : ∀ p, Hc p = none → wB X sts D (σ.set i (some (.ref p))) (upd Hc p (.dK [])))
    (hN : X.N.Nodup) (hi : X.N[i]? = some nm := by rfl) (hx : Loc X.env.scope nm := by exact Or.inl rfl) (hs : swapsWith (.Dict [] [] p2) (some (.Name nm px)) pos.line X.env = pure false := by rfl)
    (hf : X.fn nm = true ∨ X.env.scope.names.lookup nm = some .local := by first | exact .inl rfl | exact .inr rfl | assumption) : wB X (.Assign [.Name nm px] (.Dict [] [] p2) pos :: sts) D σ Hc :=
  b_cons (w_s (ps_set hN hi hx pe_dnewK hs hf) h)
theorem b_dnewT (i : Nat) {nm : Str} (ex : Ex H Hc) (h : ∀ p, Hc p = none → wB X sts D (σ.set i (some (.ref p))) (upd Hc p (.dT [])))
    (hN : X.N.Nodup) (hi : X.N[i]? = some nm := by rfl) (hx : Loc X.env.scope nm := by exact Or.inl rfl) (hs : swapsWith (.Dict [] [] p2) (some (.Name nm px)) pos.line X.env = pure false := by rfl)
    (hf : X.fn nm = true ∨ X.env.scope.names.lookup nm = some .local := by first | exact .inl rfl | exact .inr rfl | assumption) : wB X (.Assign [.Name nm px] (.Dict [] [] p2) pos :: sts) D σ Hc :=
  b_cons (w_s (ps_set hN hi hx pe_dnewT hs hf) h)
theorem b_lnew (i : Nat) {nm : Str} (ex : Ex H Hc) (h : ∀ p, Hc p = none → wB X sts D (σ.set i (some (.ref p))) (upd Hc p (.lst [])))
    (hN : X.N.Nodup) (hi : X.N[i]? = some nm := by rfl) (hx : Loc X.env.scope nm := by exact Or.inl rfl) (hs : swapsWith (.List [] p2) (some (.Name nm px)) pos.line X.env = pure false := by rfl)
    (hf : X.fn nm = true ∨ X.env.scope.names.lookup nm = some .local := by first | exact .inl rfl | exact .inr rfl | assumption) : wB X (.Assign [.Name nm px] (.List [] p2) pos :: sts) D σ Hc :=
  b_cons (w_s (ps_set hN hi hx (pe_lst pa_nil) hs hf) ⟨Nat.zero_le _, h⟩)
/-! ### built-ins -/
theorem e_len (hm : X.mg "len" = none) (ho : Cm H (is (V.ref a)) (wE X e σ)) (h : Pz H (fun H' => SqL X.K H' a xs ∨ SqT X.K H' a xs)) (hg : Gl X "len" := by rfl) (hs : starEach [e] X.env = (false, eval e X.env) :: starEach [] X.env := by rfl) : Cm H (is (V.int (xs.length : Int))) (wE X (.Call (.Name "len" px) [e] [] pos) σ) :=
  e_bltD call_len_seq hm (a_consD ho a_nil hs) (Cm.ret (fun Hc e' _ q => ⟨a, xs, rfl, h Hc e', q⟩) (.const rfl)) hg boot_len (by decide) (by decide) hs rfl
theorem e_lenS {z : Str} (hm : X.mg "len" = none) (ho : Cm H (is (V.str z)) (wE X e σ)) (h : z.length ≤ 100000) (hg : Gl X "len" := by rfl) (hs : starEach [e] X.env = (false, eval e X.env) :: starEach [] X.env := by rfl) : Cm H (is (V.int (z.length : Int))) (wE X (.Call (.Name "len" px) [e] [] pos) σ) :=
  e_bltD call_len hm (a_consD ho a_nil hs) (Cm.ret (fun Hc e' _ q => ⟨.str z, z.length, rfl, ⟨Evl.sz_of h, rfl⟩, q⟩) (.const rfl)) hg boot_len (by decide) (by decide) hs rfl
/-- all(..) of a list of bools -/
theorem e_all {bs : List Bool} (hc : X.calm = true) (hm : X.mg "all" = none) (ho : Cm H (lst X.K (bs.map V.bl)) (wE X e σ)) (hg : Gl X "all" := by rfl) (hs : starEach [e] X.env = (false, eval e X.env) :: starEach [] X.env := by rfl) : Cm H (is (V.bl (bs.all id))) (wE X (.Call (.Name "all" px) [e] [] pos) σ) :=
  e_blt (cr_all hc) hm (a_cons ho a_nil hs) (fun vs H1 e1 p1 => by
    obtain ⟨u, us, rfl, ⟨a, rfl, _⟩, rfl⟩ := p1.now
    exact Cm.ret (fun Hc e' _ q => by
      obtain ⟨u, us, z, ⟨b, rfl, h⟩, rfl⟩ := p1 Hc e'
      cases z
      exact ⟨_, bs, rfl, h, q⟩) (.const rfl)) hg (by decide +kernel) (by decide) (by decide) hs rfl
end
end LW
set_option Elab.async false
set_option linter.all false
set_option maxRecDepth 100000
set_option maxHeartbeats 2000000
namespace LW
open PySem L2
theorem over_str {H : Hp} {z : Str} : Over H (Its z) z.cps.size (fun i x _ => ∃ c, z.cps[i]? = some c ∧ x = .str ⟨#[c]⟩) where
  go := fun i Hc e hi => hi
  stop := fun i Hc e hi => hi
  yld := fun i x Hc H' e hi y H1 e1 e2 => by
    obtain ⟨rfl, z⟩ := y
    exact ⟨H1, Grow.refl e2, .const z⟩
section
variable {X : Cx} {σ : St} {H Hc : Hp} {P Pa Pb : V → Hp → Prop} {e a b c t : Expr} {pos px p2 : Pos} {k : Bool} {v x y z : V} {i j l : Int} {s : Str}
theorem i_str (h : Cm H (is (V.str s)) (wE X e σ)) : Ci H s.cps.size (fun i x _ => ∃ c, s.cps[i]? = some c ∧ x = .str ⟨#[c]⟩) (iStr (wE X e) σ) := fun Hc ex R r =>
  h Hc ex _ fun v Hn H2 g p => ⟨s, p.now, r _ Hn H2 g over_str⟩
/-- i op j op' l, all ints -/
theorem t_chainI {op op' : CmpOp} {g g' : Int → Int → Bool} (ho : OpR X (compareOp op) (rI0 fun i j => .bl (g i j))) (ho' : OpR X (compareOp op') (rI0 fun i j => .bl (g' i j))) (ha : Cm H (is (V.int i)) (wE X a σ)) (hb : Cm H (is (V.int j)) (wE X b σ)) (hc : Cm H (is (V.int l)) (wE X c σ))
    (hm : lastMarks [op, op'] [b, c] = false := by rfl) : Cm H (is (g i j && g' j l)) (wT X (.Compare a [op, op'] [b, c] pos) σ) := by
  refine ct (pt_chain ho ho' pe_w pe_w pe_w hm) (cm1D (x := V.bl (g i j && g' j l)) (u := fun v Hc (Q : Bool → Hp → Prop) => ∃ c, v = V.bl c ∧ Q c Hc) ?_ (Cm.ret (fun _ _ _ q => ⟨_, rfl, q⟩) (.const rfl)))
  refine cm2D (r := fun x y H2 (Q : VK) => rI0 (fun i j => .bl (g i j)) x y H2 fun z H3 => ∃ k, z = V.bl k ∧ if k = true then wE X c σ H3 (fun w' H4 => rI0 (fun i j => .bl (g' i j)) y w' H4 Q) else Q (V.bl false) H3) ha hb ?_
  refine fun Hc ex Q q => ⟨i, j, rfl, rfl, g i j, rfl, ?_⟩
  cases hg : g i j with
  | true =>
    rw [hg] at q
    show wE X c σ Hc _
    exact hc Hc ex _ fun w Hn H2 g2 p => ⟨j, l, rfl, p.now, q _ Hn H2 g2 (.const (by simp))⟩
  | false =>
    rw [hg] at q
    show Q (V.bl false) Hc
    exact q _ H Hc (Grow.refl ex) (.const (by simp))
theorem e_isi {c : V} {u ty : Value} (hm : X.mg "isinstance" = none) (hv : Cm H (is v) (wE X e σ)) (ht : Cm H (is c) (wE X t σ)) (h : Pz H (fun H' => TyX X.K H' v ty)) (hc : ClsV c u) (hk : PySem.W.kitOne X.K ty u = some k) (hg : Gl X "isinstance" := by rfl)
    (hs : starEach [e, t] X.env = (false, eval e X.env) :: starEach [t] X.env := by rfl) (hs2 : starEach [t] X.env = (false, eval t X.env) :: starEach [] X.env := by rfl) : Cm H (is (V.bl k)) (wE X (.Call (.Name "isinstance" px) [e, t] [] pos) σ) :=
  e_bltD call_isi hm (a_consD hv (a_consD ht a_nil hs2) hs) (Cm.ret (fun Hc ex _ q => ⟨v, c, ty, u, k, rfl, hc, h Hc ex, hk, q⟩) (.const rfl)) hg (by decide +kernel) (by decide) (by decide) hs (by rw [hs2] <;> rfl)
end
/-! ### names -/
/-- one to eight letters from a to z -/
def Nm (x : Str) : Prop := 1 ≤ x.length ∧ x.length ≤ 8 ∧ ∀ c ∈ x.cps.toList, 97 ≤ c ∧ c ≤ 122
def Lt (x y : Str) : Prop := x.cps.toList < y.cps.toList
instance (x y : Str) : Decidable (Lt x y) := inferInstanceAs (Decidable (x.cps.toList < y.cps.toList))
/-- the two names of a link in their order -/
def lnk (x y : Str) : Str × Str := if Lt x y then (x, y) else (y, x)
/-- a pair of texts -/
abbrev pr (p : Str × Str) : V → Hp → Prop := fun v H => ∃ a, v = .ref a ∧ H a = some (.tup [.str p.1, .str p.2])
abbrev prT (K : PySem.W.Frag) (p : Str × Str) : V → Hp → Prop := fun v H => ∃ a, v = .ref a ∧ SqT K H a [.str p.1, .str p.2]
abbrev txts (K : PySem.W.Frag) (xs : List Str) : V → Hp → Prop := lst K (xs.map V.str)
end LW
set_option Elab.async false
set_option linter.all false
set_option maxRecDepth 100000
set_option maxHeartbeats 2000000
/-! Names, pairs of names and their orders: plain mathematics. -/
namespace LW
open PySem L2
theorem tx_ext {x y : Str} (h : x.cps.toList = y.cps.toList) : x = y := Str.ext' (Array.toList_inj.mp h)
theorem lt_irr (x : List Nat) : ¬ x < x := List.lt_irrefl x
theorem lt_as {x y : List Nat} (h : x < y) : ¬ y < x := fun q => lt_irr x (List.lt_trans h q)
theorem lt_tri {x y : List Nat} (h : ¬ x < y) (h2 : ¬ y < x) : x = y := by
  have a : y ≤ x := List.not_lt.mp h
  have b : x ≤ y := List.not_lt.mp h2
  exact List.le_antisymm b a
/-- the order of pairs -/
def LtP (p q : Str × Str) : Prop := Lt p.1 q.1 ∨ (p.1 = q.1 ∧ Lt p.2 q.2)
instance (p q : Str × Str) : Decidable (LtP p q) := inferInstanceAs (Decidable (_ ∨ _))
theorem Lt.irr (x : Str) : ¬ Lt x x := lt_irr _
theorem Lt.tri {x y : Str} (h : ¬ Lt x y) (h2 : ¬ Lt y x) : x = y := tx_ext (lt_tri h h2)
theorem Lt.as {x y : Str} (h : Lt x y) : ¬ Lt y x := lt_as h
theorem Lt.tr {x y z : Str} (h : Lt x y) (h2 : Lt y z) : Lt x z := List.lt_trans h h2
theorem LtP.irr (p : Str × Str) : ¬ LtP p p := fun h => h.elim (Lt.irr _) fun q => Lt.irr _ q.2
theorem LtP.tr {p q r : Str × Str} (h : LtP p q) (h2 : LtP q r) : LtP p r := by
  rcases h with h | ⟨e, h⟩ <;> rcases h2 with h2 | ⟨e2, h2⟩
  · exact .inl (h.tr h2)
  · exact .inl (e2 ▸ h)
  · exact .inl (e ▸ h2)
  · exact .inr ⟨e.trans e2, h.tr h2⟩
theorem LtP.tri {p q : Str × Str} (h : ¬ LtP p q) (h2 : ¬ LtP q p) : p = q := by
  have e : p.1 = q.1 := Lt.tri (fun z => h (.inl z)) fun z => h2 (.inl z)
  have e2 : p.2 = q.2 := Lt.tri (fun z => h (.inr ⟨e, z⟩)) fun z => h2 (.inr ⟨e.symm, z⟩)
  exact Prod.ext e e2
/-- sorted lists of texts, of pairs -/
def SortN (xs : List Str) : Prop := xs.Pairwise fun x y => ¬ Lt y x
def SortP (ps : List (Str × Str)) : Prop := ps.Pairwise fun p q => ¬ LtP q p
theorem sortN_uniq {xs ys : List Str} (a : SortN xs) (b : SortN ys) (p : xs.Perm ys) : xs = ys := List.Perm.eq_of_pairwise (le := fun x y => ¬ Lt y x) (fun x y _ _ h h2 => Lt.tri h2 h) a b p
theorem sortP_uniq {xs ys : List (Str × Str)} (a : SortP xs) (b : SortP ys) (p : xs.Perm ys) : xs = ys := List.Perm.eq_of_pairwise (le := fun x y => ¬ LtP y x) (fun x y _ _ h h2 => LtP.tri h2 h) a b p
/-- what the library calls rising -/
theorem sortN_of : ∀ {xs : List Str}, PyProof.Rows.sortedS xs = true → SortN xs := by
  have go : ∀ (xs : List Str) (x : Str), PyProof.Rows.risingS x xs = true → (∀ y ∈ xs, ¬ Lt y x) ∧ SortN xs := by
    intro xs
    induction xs with
    | nil => intro x _; exact ⟨fun _ h => absurd h (by simp), List.Pairwise.nil⟩
    | cons y r ih =>
      intro x h
      have h' : (!PySem.Spec.ltCps y.cps.toList x.cps.toList && PyProof.Rows.risingS y r) = true := h
      rw [PyProof.Rows.ltCps_eq] at h'
      obtain ⟨h1, h2⟩ := Bool.and_eq_true_iff.mp h'
      have h1 : ¬ Lt y x := by simpa [Lt] using h1
      obtain ⟨a, b⟩ := ih y h2
      refine ⟨fun z hz => ?_, List.pairwise_cons.mpr ⟨a, b⟩⟩
      rcases List.mem_cons.mp hz with rfl | hz
      · exact h1
      · exact fun q => by
          by_cases e : Lt y z
          · exact h1 (e.tr q)
          · have := Lt.tri e (a z hz)
            subst this
            exact h1 q
  intro xs h
  cases xs with
  | nil => exact List.Pairwise.nil
  | cons x r => exact List.pairwise_cons.mpr (go r x h)
/-- "one other" -/
def txt2 (p : Str × Str) : Str := p.1 ++ (" " : Str) ++ p.2
theorem txt2_cps (p : Str × Str) : (txt2 p).cps.toList = p.1.cps.toList ++ 32 :: p.2.cps.toList := by
  show (p.1.cps ++ (" " : Str).cps ++ p.2.cps).toList = _
  have e : (" " : Str).cps.toList = [32] := by decide +kernel
  rw [Array.toList_append, Array.toList_append, e, List.append_assoc]
  rfl
theorem lt_sp : ∀ (a a' b b' : List Nat), (∀ c ∈ a, 97 ≤ c) → (∀ c ∈ a', 97 ≤ c) → (a ++ 32 :: b < a' ++ 32 :: b' ↔ a < a' ∨ (a = a' ∧ b < b'))
  | [], [], b, b', _, _ => by
    have n : ¬ ([] : List Nat) < [] := lt_irr _
    simp [List.cons_lt_cons_iff, n]
  | [], c :: r, b, b', _, h => by
    have hc := h c (by simp)
    simp [List.cons_lt_cons_iff]
    omega
  | c :: r, [], b, b', h, _ => by
    have hc := h c (by simp)
    simp [List.cons_lt_cons_iff]
    omega
  | c :: r, c' :: r', b, b', h, h' => by
    have ih := lt_sp r r' b b' (fun x hx => h x (by simp [hx])) fun x hx => h' x (by simp [hx])
    simp only [List.cons_append, List.cons_lt_cons_iff, ih, List.cons.injEq]
    constructor
    · rintro (q | ⟨e, q | ⟨e2, q⟩⟩)
      · exact .inl (.inl q)
      · exact .inl (.inr ⟨e, q⟩)
      · exact .inr ⟨⟨e, e2⟩, q⟩
    · rintro ((q | ⟨e, q⟩) | ⟨⟨e, e2⟩, q⟩)
      · exact .inl q
      · exact .inr ⟨e, .inl q⟩
      · exact .inr ⟨e, .inr ⟨e2, q⟩⟩
theorem lt_txt2 {p q : Str × Str} (h : Nm p.1) (h' : Nm q.1) : Lt (txt2 p) (txt2 q) ↔ LtP p q := by
  unfold Lt
  rw [txt2_cps, txt2_cps, lt_sp _ _ _ _ (fun c hc => (h.2.2 c hc).1) fun c hc => (h'.2.2 c hc).1]
  constructor
  · rintro (z | ⟨e, z⟩)
    · exact .inl z
    · exact .inr ⟨tx_ext e, z⟩
  · rintro (z | ⟨e, z⟩)
    · exact .inl z
    · exact .inr ⟨by rw [e], z⟩
theorem Nm.no_sp {x : Str} (h : Nm x) : 32 ∉ x.cps.toList := fun m => by have := h.2.2 _ m; omega
theorem txt2_split {p : Str × Str} (h : Nm p.1) (h2 : Nm p.2) : Txt.split (txt2 p) (" " : Str) = [p.1, p.2] := by
  have e : txt2 p = Txt.join (" " : Str) [p.1, p.2] := by
    refine tx_ext ?_
    rw [txt2_cps]
    have q := TL.tl_join (" " : Str) [p.1, p.2]
    rw [← TL.join_eq] at q
    have e1 : TL.tl (" " : Str) = [32] := by decide +kernel
    rw [e1] at q
    exact (q.trans (by rfl)).symm
  rw [e]
  refine TL.split_join (s := 32) (S := []) (by decide +kernel) (by decide +kernel) (by simp) fun z hz => ?_
  rcases List.mem_cons.mp hz with rfl | hz
  · exact h.no_sp
  · rcases List.mem_cons.mp hz with rfl | hz
    · exact h2.no_sp
    · exact absurd hz (by simp)
theorem txt2_len {p : Str × Str} (h : Nm p.1) (h2 : Nm p.2) : (txt2 p).length ≤ 17 := by
  have e : (txt2 p).length = p.1.length + (1 + p.2.length) := by
    show (txt2 p).cps.size = _
    rw [← Array.length_toList, txt2_cps]
    simp [Str.length]
    omega
  rw [e]
  have := h.2.1; have := h2.2.1
  omega
theorem txt2_inj {p q : Str × Str} (h : Nm p.1) (h2 : Nm q.1) (e : txt2 p = txt2 q) : p = q := by
  have a : ¬ LtP p q := fun z => Lt.irr _ (e ▸ (lt_txt2 h h2).mpr z)
  have b : ¬ LtP q p := fun z => Lt.irr _ (e ▸ (lt_txt2 h2 h).mpr z)
  exact LtP.tri a b
/-! links -/
theorem lnk_comm (x y : Str) : lnk x y = lnk y x := by
  unfold lnk
  by_cases h : Lt x y
  · rw [if_pos h, if_neg h.as]
  · rw [if_neg h]
    by_cases h2 : Lt y x
    · rw [if_pos h2]
    · rw [if_neg h2, Lt.tri h h2]
theorem lnk_cases (x y : Str) : lnk x y = (x, y) ∨ lnk x y = (y, x) := by
  unfold lnk
  by_cases h : Lt x y
  · exact .inl (if_pos h)
  · exact .inr (if_neg h)
end LW
set_option Elab.async false
set_option linter.all false
set_option maxRecDepth 100000
set_option maxHeartbeats 2000000
namespace LW
open PySem L2
theorem paired_ex {H H' : Hp} (e : Ex H H') {ts : List Addr} {ps : List (Str × Str)} (h : Paired (fun t p => H t = some (.tup [V.str p.1, V.str p.2])) ts ps) : Paired (fun t p => H' t = some (.tup [V.str p.1, V.str p.2])) ts ps := L2.Paired.mapP h fun _ _ z => e _ _ z
/-- a list of pairs; a list or a tuple of them; a list or a tuple of texts -/
abbrev TsAt (H : Hp) (ts : List Addr) (ps : List (Str × Str)) : Prop := Paired (fun t p => H t = some (.tup [V.str p.1, V.str p.2])) ts ps
abbrev prs (K : PySem.W.Frag) (ps : List (Str × Str)) : V → Hp → Prop := fun v H => ∃ a ts, v = .ref a ∧ SqL K H a (ts.map V.ref) ∧ TsAt H ts ps
/-- a list (q true) or a tuple -/
def Sq (K : PySem.W.Frag) (q : Bool) (H : Hp) (a : Addr) (xs : List V) : Prop := if q = true then SqL K H a xs else SqT K H a xs
theorem Sq.any {K : PySem.W.Frag} {q : Bool} {H : Hp} {a : Addr} {xs : List V} (h : Sq K q H a xs) : SqL K H a xs ∨ SqT K H a xs := by
  cases q with
  | true => exact .inl h
  | false => exact .inr h
theorem Sq.ex {K : PySem.W.Frag} {q : Bool} {H H' : Hp} {a : Addr} {xs : List V} (e : Ex H H') (h : Sq K q H a xs) : Sq K q H' a xs := by
  cases q with
  | true => exact Evl.ex_l e h
  | false => exact Evl.ex_t e h
abbrev prsQ (K : PySem.W.Frag) (q : Bool) (ps : List (Str × Str)) : V → Hp → Prop := fun v H => ∃ a ts, v = .ref a ∧ Sq K q H a (ts.map V.ref) ∧ TsAt H ts ps
abbrev txtsQ (K : PySem.W.Frag) (q : Bool) (xs : List Str) : V → Hp → Prop := fun v H => ∃ a, v = .ref a ∧ Sq K q H a (xs.map V.str)
section
variable {X : Cx} {σ : St} {H Hc : Hp} {P Pa Pb : V → Hp → Prop} {e a b c t : Expr} {pos px p2 : Pos} {k : Bool} {v x y z : V} {i j l : Int} {s : Str} {tg iter : Expr}
/-- a walk over a list or a tuple -/
theorem pi_or {w1 w2 : TI} (h1 : PI X tg iter w1) (h2 : PI X tg iter w2) : PI X tg iter (fun σ H R => w1 σ H R ∨ w2 σ H R) :=
  ⟨fun pins s σ H R I h => h.elim (fun z => h1.1 pins s σ H R I z) (fun z => h2.1 pins s σ H R I z)⟩
/-- a list (q) or a tuple of xs is walked -/
theorem i_sq {q : Bool} {xs : List V} (h : Cm H (fun v H' => ∃ a, v = .ref a ∧ Sq X.K q H' a xs) (wE X e σ)) : Ci H xs.length (fun i x _ => xs[i]? = some x) (fun R => fun Q => iList X.K (wE X e) σ R Q ∨ iTup X.K (wE X e) σ R Q) := by
  cases q with
  | true => exact fun Hc ex R r => .inl (i_list (xs := xs) h Hc ex R r)
  | false => exact fun Hc ex R r => .inr (i_tup (xs := xs) h Hc ex R r)
end
end LW
set_option Elab.async false
set_option linter.all false
set_option maxRecDepth 100000
set_option maxHeartbeats 4000000
/-! enumerate over a tuple. -/
namespace LWE
open PySem
section
variable {prog : Program} {w : World} {A : Around} {E : Value → Shared → Prop} {s : Shared} {tp it en : Addr} {i : Nat} {its : Array Value} {x prev : Value}
/-- the next item of a walk over a tuple, within the library's own walks -/
theorem nextT {Q : Value → Shared → Prop} (st : s.heap.IsTupleIter it tp i) (tt : s.heap.IsTuple tp its) (hx : its[i]? = some x) (k : ∀ g, g.IsTupleIter it tp (i + 1) → Heap.SameBut it s.heap g → Q x { s with heap := g }) : wpAny (model prog w) A (Builtin.SmallTypes.nextOf (.ref it)) Q E s := by
  obtain ⟨o, ho, oc, od⟩ := id st
  obtain ⟨ot, hot, _, m, otd⟩ := tt
  have ty : s.TypeIs (.ref it) "tuple_iterator" := ⟨o, ho, oc⟩
  unfold Builtin.SmallTypes.nextOf
  refine wpAny_bind (wpAny_callSpecial?_slot (name := Str.ofString "__next__") ty F.slot_tuple_iterator_next (wpAny_call_entry F.slot_tuple_iterator_next ty F.entry_tuple_iterator_next ?_ (F.args_tuple_iterator_next_1 _)))
  show wpAny (model prog w) _ (field (.ref it) 0 >>= _) _ _ s
  refine wpAny_bind (wpAny_field ho od (x := .ref tp) rfl ?_)
  show wpAny (model prog w) _ (if (Value.ref tp == Value.none) = true then _ else _) _ _ s
  rw [if_neg (show ¬ (Value.ref tp == Value.none) = true from Bool.false_ne_true)]
  show wpAny (model prog w) _ (field (.ref it) 1 >>= _) _ _ s
  refine wpAny_bind (wpAny_field ho od (x := .int i 0) rfl ?_)
  show wpAny (model prog w) _ (seqItems? (.ref tp) >>= _) _ _ s
  refine wpAny_bind (wpAny_seqItems hot otd ?_)
  simp only [Int.toNat_natCast, hx]
  refine wpAny_bind (wpAny_setField ho od (by simp) (wpAny_pure ⟨x, rfl, wpAny_pure (k _ ⟨_, Heap.get?_update_self _ ho (Obj.isFreed_of_fields (Obj.data_mapFields od _)), (Obj.cls_mapFields ..).trans oc, ?_⟩ (Heap.SameBut.update ..))⟩))
  rw [Obj.data_mapFields od]
  simp [rawInt]
theorem stopT {Q : Value → Shared → Prop} (hh : A.handled = none) (st : s.heap.IsTupleIter it tp i) (tt : s.heap.IsTuple tp its) (hx : its[i]? = none)
    (k : ∀ g e, Heap.ExtBut it s.heap g → (∃ o, g.get? e = some o ∧ o.cls = .type "StopIteration") → E (.ref e) { s with heap := g }) : wpAny (model prog w) A (Builtin.SmallTypes.nextOf (.ref it)) Q E s := by
  obtain ⟨o, ho, oc, od⟩ := id st
  obtain ⟨ot, hot, _, m, otd⟩ := tt
  have ty : s.TypeIs (.ref it) "tuple_iterator" := ⟨o, ho, oc⟩
  unfold Builtin.SmallTypes.nextOf
  refine wpAny_bind (wpAny_callSpecial?_slot (name := Str.ofString "__next__") ty F.slot_tuple_iterator_next (wpAny_call_entry F.slot_tuple_iterator_next ty F.entry_tuple_iterator_next ?_ (F.args_tuple_iterator_next_1 _)))
  show wpAny (model prog w) _ (field (.ref it) 0 >>= _) _ _ s
  refine wpAny_bind (wpAny_field ho od (x := .ref tp) rfl ?_)
  show wpAny (model prog w) _ (if (Value.ref tp == Value.none) = true then _ else _) _ _ s
  rw [if_neg (show ¬ (Value.ref tp == Value.none) = true from Bool.false_ne_true)]
  show wpAny (model prog w) _ (field (.ref it) 1 >>= _) _ _ s
  refine wpAny_bind (wpAny_field ho od (x := .int i 0) rfl ?_)
  show wpAny (model prog w) _ (seqItems? (.ref tp) >>= _) _ _ s
  refine wpAny_bind (wpAny_seqItems hot otd ?_)
  simp only [Int.toNat_natCast, hx]
  refine wpAny_bind (wpAny_rule (wpAny_bind (wpAny_setField ho od (by simp) ?_)))
  show wpAny (model prog w) _ (newExc (.type "StopIteration") [] >>= _) _ _ _
  refine wpAny_bind ?_
  simp only [newExc, newTuple]
  refine wpAny_bind (wpAny_newObj_type ?_ (by size_fits))
  refine wpAny_bind (m := firstArgMember _ _) (wpAny_of_eq (a := Value.none) (by first | rfl | (simp only [firstArgMember]; rfl)) ?_)
  refine wpAny_newObj_type ?_ (by size_fits)
  simp only [raiseNew]
  refine wpAny_bind (wpAny_handled ?_)
  first
  | rw [show A.in1.handled = none from hh]
  | rw [hh]
  exact wpAny_bind (wpAny_pure (wpAny_throw (k _ _ (((Heap.SameBut.update ..).extBut.push _).push _) ⟨_, Heap.get?_push_size _ rfl, rfl⟩)))
/-- one turn of enumerate over a tuple: a new pair -/
theorem enumT {Q : Value → Shared → Prop} (he : IsEnum s.heap en it i prev) (st : s.heap.IsTupleIter it tp i) (tt : s.heap.IsTuple tp its) (hx : its[i]? = some x) (ne : en ≠ it)
    (k : ∀ g, IsEnumOut g en it ((i : Int) + 1) x s.heap.objs.size → g.IsTupleIter it tp (i + 1) → g.get? s.heap.objs.size = some { cls := .type "tuple", data := .seq #[.int i s.toks, x] } → g.objs.size = s.heap.objs.size + 1 →
      (∀ b o, b ≠ en → b ≠ it → s.heap.get? b = some o → g.get? b = some o) → Q (.ref s.heap.objs.size) { s with heap := g, toks := s.toks + 1 }) :
    wpAny (model prog w) A (Builtin.«enumerate.__next__» ⟨[.ref en], []⟩) (fun f s2 => ∃ v, f = .done (.ret v) ∧ Q v s2) E s := by
  obtain ⟨g0, gn, dr, tk, os⟩ := s
  have ext : ∀ {a b : Heap} {y : Addr}, Heap.SameBut y a b → y ≠ it → a.IsTupleIter it tp (i + 1) → b.IsTupleIter it tp (i + 1) := fun hs hy ⟨o, ho, r⟩ => ⟨o, hs.extBut _ _ (Ne.symm hy) ho, r⟩
  show wpAny (model prog w) _ (field (.ref en) 2 >>= _) _ _ _
  refine wpAny_bind (wpAny_field he rfl (x := .ref it) rfl ?_)
  refine wpAny_bind (nextT st tt hx fun g1 st1 sb1 => ?_)
  replace sb1 : Heap.SameBut it g0 g1 := sb1
  have e1 : IsEnum g1 en it i prev := (sb1.2 en ne).trans he
  show wpAny (model prog w) _ (field (.ref en) 3 >>= _) _ _ ⟨g1, gn, dr, tk, os⟩
  refine wpAny_bind (wpAny_field e1 rfl (x := rawInt i) rfl ?_)
  show wpAny (model prog w) _ (field (.ref en) 4 >>= _) _ _ ⟨g1, gn, dr, tk, os⟩
  refine wpAny_bind (wpAny_field e1 rfl (x := .none) rfl ?_)
  show wpAny (model prog w) _ (mkInt i >>= _) _ _ ⟨g1, gn, dr, tk, os⟩
  refine wpAny_bind (wpAny_mkInt ?_)
  show wpAny (model prog w) _ (setField (.ref en) 3 (rawInt ((i : Int) + 1)) >>= _) _ _ ⟨g1, gn, dr, tk + 1, os⟩
  refine wpAny_bind (wpAny_setField_rec e1 (by simp) fun g2 e2 sb2 => ?_)
  replace sb2 : Heap.SameBut en g1 g2 := sb2
  replace e2 : IsEnum g2 en it ((i : Int) + 1) prev := e2
  show wpAny (model prog w) _ (setField (.ref en) 4 .none >>= _) _ _ ⟨g2, gn, dr, tk + 1, os⟩
  refine wpAny_bind (wpAny_setField_rec e2 (by simp) fun g3 e3 sb3 => ?_)
  replace sb3 : Heap.SameBut en g2 g3 := sb3
  replace e3 : IsEnum g3 en it ((i : Int) + 1) prev := e3
  show wpAny (model prog w) _ (newTuple [.int i tk, x] >>= _) _ _ ⟨g3, gn, dr, tk + 1, os⟩
  refine wpAny_bind (wpAny_newTuple ?_)
  have z3 : g3.objs.size = g0.objs.size := by rw [sb3.1, sb2.1, sb1.1]
  have lte : en < g0.objs.size := Heap.lt_size he
  have nen : g0.objs.size ≠ en := Nat.ne_of_gt lte
  let g4 := g3.push { cls := .type "tuple", data := .seq #[.int i tk, x] }
  have e4 : IsEnum g4 en it ((i : Int) + 1) prev := Heap.get?_push_of_some _ e3
  have t4 : g4.get? g0.objs.size = some { cls := .type "tuple", data := .seq #[.int i tk, x] } := by
    rw [← z3]
    exact Heap.get?_push_size _ rfl
  have z4 : g4.objs.size = g0.objs.size + 1 := by
    show (g3.push _).objs.size = _
    rw [Heap.size_push, z3]
  have k4 : ∀ b o, b ≠ en → b ≠ it → g0.get? b = some o → g4.get? b = some o := fun b o n1 n2 q => Heap.get?_push_of_some _ (sb3.extBut b o n1 (sb2.extBut b o n1 (sb1.extBut b o n2 q)))
  have s4 : g4.IsTupleIter it tp (i + 1) := by
    obtain ⟨o, ho, r⟩ := ext sb3 ne (ext sb2 ne st1)
    exact ⟨o, Heap.get?_push_of_some _ ho, r⟩
  show wpAny (model prog w) _ (Builtin.SmallTypes.ownedTupleIsFree (.ref en) >>= _) _ _ ⟨g4, gn, dr, tk + 1, os⟩
  rw [z3]
  clear_value g4
  refine wpAny_bind ?_
  unfold Builtin.SmallTypes.ownedTupleIsFree
  refine wpAny_bind (wpAny_field e4 rfl (x := .none) rfl (wpAny_pure ?_))
  simp only [if_true]
  refine wpAny_bind (wpAny_rule ?_)
  refine wpAny_bind (wpAny_field e4 rfl (x := prev) rfl ?_)
  refine wpAny_bind (wpAny_setField_rec e4 (by simp) fun g5 e5 sb5 => ?_)
  replace sb5 : Heap.SameBut en g4 g5 := sb5
  replace e5 : IsEnum g5 en it ((i : Int) + 1) x := e5
  show wpAny (model prog w) _ (Builtin.SmallTypes.ownedTupleHandOut (.ref en) (.ref g0.objs.size) >>= _) _ _ ⟨g5, gn, dr, tk + 1, os⟩
  refine wpAny_bind ?_
  unfold Builtin.SmallTypes.ownedTupleHandOut
  refine wpAny_bind (wpAny_setField_rec e5 (by simp) fun g6 e6 sb6 => ?_)
  replace sb6 : Heap.SameBut en g5 g6 := sb6
  replace e6 : IsEnumOut g6 en it ((i : Int) + 1) x g0.objs.size := e6
  refine wpAny_setField_rec e6 (by simp) fun g7 e7 sb7 => ?_
  replace sb7 : Heap.SameBut en g6 g7 := sb7
  replace e7 : IsEnumOut g7 en it ((i : Int) + 1) x g0.objs.size := e7
  refine wpAny_bind (wpAny_letGo (wpAny_pure ⟨_, rfl, k g7 e7 (ext sb7 ne (ext sb6 ne (ext sb5 ne s4))) ?_ ?_ ?_⟩))
  · exact sb7.extBut _ _ nen (sb6.extBut _ _ nen (sb5.extBut _ _ nen t4))
  · rw [sb7.1, sb6.1, sb5.1, z4]
  · exact fun b o n1 n2 q => sb7.extBut b o n1 (sb6.extBut b o n1 (sb5.extBut b o n1 (k4 b o n1 n2 q)))
theorem enumT_next {Q : Option Value → Shared → Prop} (he : IsEnum s.heap en it i prev) (st : s.heap.IsTupleIter it tp i) (tt : s.heap.IsTuple tp its) (hx : its[i]? = some x) (ne : en ≠ it)
    (k : ∀ g, IsEnumOut g en it ((i : Int) + 1) x s.heap.objs.size → g.IsTupleIter it tp (i + 1) → g.get? s.heap.objs.size = some { cls := .type "tuple", data := .seq #[.int i s.toks, x] } → g.objs.size = s.heap.objs.size + 1 →
      (∀ b o, b ≠ en → b ≠ it → s.heap.get? b = some o → g.get? b = some o) → Q (some (.ref s.heap.objs.size)) { s with heap := g, toks := s.toks + 1 }) : wpAny (model prog w) A (pyNext (.ref en)) Q E s := by
  have ty : s.TypeIs (.ref en) "enumerate" := ⟨_, he, rfl⟩
  unfold pyNext
  exact wpAny_bind (wpAny_attempt (wpAny_callSpecial?_slot (name := Str.ofString "__next__") ty F.slot_enumerate_next (wpAny_call_entry F.slot_enumerate_next ty F.entry_enumerate_next (enumT he st tt hx ne fun g a b c d e => wpAny_pure (k g a b c d e)) (F.args_enumerate_next_1 _))))
theorem enumT_end {Q : Option Value → Shared → Prop} (hh : A.handled = none) (he : IsEnum s.heap en it i prev) (st : s.heap.IsTupleIter it tp i) (tt : s.heap.IsTuple tp its) (hx : its[i]? = none) (k : ∀ g, Heap.ExtBut it s.heap g → Q none { s with heap := g }) : wpAny (model prog w) A (pyNext (.ref en)) Q E s := by
  have ty : s.TypeIs (.ref en) "enumerate" := ⟨_, he, rfl⟩
  unfold pyNext
  refine wpAny_bind (wpAny_attempt (wpAny_callSpecial?_slot (name := Str.ofString "__next__") ty F.slot_enumerate_next (wpAny_call_entry F.slot_enumerate_next ty F.entry_enumerate_next ?_ (F.args_enumerate_next_1 _))))
  show wpAny (model prog w) _ (field (.ref en) 2 >>= _) _ _ _
  refine wpAny_bind (wpAny_field he rfl (x := .ref it) rfl ?_)
  refine wpAny_bind (stopT hh st tt hx fun g e hg ⟨o, ho, hc⟩ => ?_)
  exact wpAny_bind (wpAny_isInstance (T := "StopIteration") (b := true) ⟨o, ho, hc⟩ isSubtype_stop (wpAny_pure (k _ hg)))
end
open AutoSeq1 (wpAny_loadPart')
theorem enumT_new (tp : Addr) (its : Array Value) (n : Nat) (dd : Option Addr) (sl : Array (Option Value)) :
    Meets (Builtin.«enumerate.__new__» ⟨[.type "enumerate", .ref tp], []⟩) (fun _ R s => s.heap.get? tp = some { cls := .type "tuple", dict := dd, data := .seq its n, slots := sl } ∧
      R (.ok (.ret (.ref (s.heap.push { cls := .type "tuple_iterator", data := .fields #[.ref tp, .int 0 0] }).objs.size)))
        { s with heap := (s.heap.push { cls := .type "tuple_iterator", data := .fields #[.ref tp, .int 0 0] }).push { cls := .type "enumerate", data := .fields #[.none, .bool false, .ref s.heap.objs.size, rawInt 0, .none, .none] } }) :=
  .of_wp fun prog w A R s q => by
    obtain ⟨hp, g, d, tk, os⟩ := s
    obtain ⟨ht, q⟩ := q
    have sub := sub_enumerate
    have tt : Heap.IsTuple (Shared.heap ⟨hp, g, d, tk, os⟩) tp its := ⟨_, ht, rfl, n, rfl⟩
    wp_walk using wpAny_loadPart' ht
    refine wpAny_stack_any fun stk => wpAny_pure ?_
    split
    · rename_i c _ _ _ _ _
      cases (c == Value.type "enumerate")
      · wp_walk using wpAny_loadPart' ht, wpAny_pyIter_tuple tt
        exact ⟨_, rfl, q⟩
      · wp_walk using wpAny_loadPart' ht, wpAny_pyIter_tuple tt
        exact ⟨_, rfl, q⟩
    · wp_walk using wpAny_loadPart' ht, wpAny_pyIter_tuple tt
      exact ⟨_, rfl, q⟩
section
variable {prog : Program} {w : World} {A : Around} {E : Value → Shared → Prop} {s : Shared} {tp : Addr} {its : Array Value}
theorem enumT_make {Q : Value → Shared → Prop} (tt : s.heap.IsTuple tp its)
    (k : ∀ g, IsEnum g (s.heap.objs.size + 1) s.heap.objs.size 0 .none → g.IsTupleIter s.heap.objs.size tp 0 → g.objs.size = s.heap.objs.size + 2 → (∀ b o, s.heap.get? b = some o → g.get? b = some o) → Q (.ref (s.heap.objs.size + 1)) { s with heap := g }) :
    wpAny (model prog w) A (call (.type "enumerate") [.ref tp]) Q E s := by
  obtain ⟨⟨c, dd, dt, sl⟩, ho, hc, n, hd⟩ := tt
  replace hc : c = .type "tuple" := hc
  replace hd : dt = .seq its n := hd
  subst hc hd
  refine callType_new F.called_enumerate (by decide) (F.typeCall_enumerate_1 _) (F.newCall_enumerate_1 _) (fun obj => F.args_object_init_2 obj _) F.entry_enumerate_new (enumT_new tp its n dd sl) ⟨ho, ?_⟩
  have z : (s.heap.push { cls := .type "tuple_iterator", data := .fields #[.ref tp, .int 0 0] }).objs.size = s.heap.objs.size + 1 := Heap.size_push ..
  show _ ∧ _
  rw [z]
  have he := Heap.get?_push_size (s.heap.push { cls := .type "tuple_iterator", data := .fields #[.ref tp, .int 0 0] }) (o := { cls := .type "enumerate", data := .fields #[.none, .bool false, .ref s.heap.objs.size, rawInt 0, .none, .none] }) rfl
  rw [z] at he
  exact ⟨⟨_, he, rfl⟩, k _ he ⟨_, Heap.get?_push_of_some _ (Heap.get?_push_size _ rfl), rfl, rfl⟩ (by rw [Heap.size_push, z]) fun b o x => Heap.get?_push_of_some _ (Heap.get?_push_of_some _ x)⟩
end
end LWE
namespace LW
open PySem PySem.Spec PyProof.Rows L2
/-- the tuple at a, each item in a new pair -/
def IteT (K : PySem.W.Frag) (a : Addr) : It :=
  ⟨fun i H => ∃ (xs : List V) (x : V), SqT K H a xs ∧ xs[i]? = some x, fun i H v H' => ∃ T x, v = .ref T ∧ H T = none ∧ H' = upd H T (.tup [.int (i : Nat), x]) ∧ ∀ xs, SqT K H a xs → xs[i]? = some x, fun i H => ∃ xs : List V, SqT K H a xs ∧ xs.length ≤ i⟩
theorem turn_enumT {P : Program} {w : World} {K : PySem.W.Frag} {elts : List Expr} {kk : Nat} {tpos : Pos} (a e it : Addr) :
    Turn P w K (.Tuple elts kk tpos) (IteT K a) [e, it] e (fun i h => (∃ old, IsEnum h e it ((i : Nat) : Int) old) ∧ h.IsTupleIter it a i ∧ e ≠ it) where
  mem := by simp
  obj := fun i h st b hb => by
    obtain ⟨⟨old, he⟩, ⟨o, ho, hc, hd⟩, _⟩ := st
    rcases (show b = e ∨ b = it by simpa using hb) with rfl | rfl
    · exact ⟨_, he, fun v q => nomatch q⟩
    · exact ⟨o, ho, fun v q => by rw [hd] at q; cases q⟩
  keep := fun i h h' ⟨⟨old, he⟩, ⟨o, ho, r⟩, ne⟩ k => ⟨⟨old, k e (by simp) _ he⟩, ⟨o, k it (by simp) o ho, r⟩, ne⟩
  item := by
    intro X hP hw hK hc i pins s σ H E I hf st hg
    subst hP hw hK
    obtain ⟨⟨old, he⟩, hit, ne⟩ := st
    obtain ⟨xs, x, hq, hx⟩ := hg
    obtain ⟨its, rv, p, hz⟩ := I.tuple hq
    obtain ⟨u, hu, ru⟩ := rv.get hx
    have lte : e < s.heap.objs.size := Heap.lt_size he
    have lti : it < s.heap.objs.size := by
      obtain ⟨_, q, _⟩ := hit
      exact Heap.lt_size q
    refine LWE.enumT_next he hit (show s.heap.IsTuple a its.toArray from p) (x := u) (by simpa using hu) ne fun g ho hit' hT hsz hk => ?_
    refine ⟨_, rfl, wpAny_letOwnedTupleGo_enum (s := { s with heap := g, toks := s.toks + 1 }) ho fun g2 he' sb => ?_⟩
    have hT2 : g2.get? s.heap.objs.size = some { cls := .type "tuple", data := .seq #[.int i s.toks, u] } := (sb.2 _ (Nat.ne_of_gt lte)).trans hT
    have new : ObjOk X.prog X.w (upd H s.heap.objs.size (.tup [.int (i : Nat), x])) g2 s.heap.objs.size (.tup [.int (i : Nat), x]) := by
      refine ⟨by show 2 ≤ sizeLine; decide, [.int i s.toks, u], .cons ⟨_, rfl⟩ (.cons ru .nil), ?_⟩
      exact ⟨_, hT2, rfl, _, rfl⟩
    have I1 : Inv X pins σ (upd H s.heap.objs.size (.tup [.int (i : Nat), x])) { s with heap := g2, toks := s.toks + 1 } := by
      refine I.turnedNew (ch := [e, it]) (fun b ob hb q => ?_) hf (Nat.le_refl _) new
      exact (sb.2 b (fun z => hb (by simp [z]))).trans (hk b ob (fun z => hb (by simp [z])) (fun z => hb (by simp [z])) q)
    have up : ((i + 1 : Nat) : Int) = (i : Int) + 1 := by omega
    refine ⟨.ref s.heap.objs.size, _, I1, rfl, ⟨_, x, rfl, I.hok.fresh (Nat.le_refl _), rfl, fun ys hy => by rw [I.tuple_inj hy hq]; exact hx⟩, ⟨⟨u, by rw [up]; exact he'⟩, ?_, ne⟩, fun b hb => ?_⟩
    · obtain ⟨o, q, r⟩ := hit'
      exact ⟨o, (sb.2 it (Ne.symm ne)).trans q, r⟩
    · have hb' : b < s.heap.objs.size := by
        rcases (show b = e ∨ b = it by simpa using hb) with rfl | rfl
        · exact lte
        · exact lti
      rw [upd_ne (Nat.ne_of_lt hb')]
      exact (hf b hb).1
  done := by
    intro X hP hw hK hc i pins s σ H E I hf st hg
    subst hP hw hK
    obtain ⟨⟨old, he⟩, hit, ne⟩ := st
    obtain ⟨xs, hq, hx⟩ := hg
    obtain ⟨its, rv, p, hz⟩ := I.tuple hq
    obtain ⟨f0, f1, f2, f3, f4, f5⟩ := hf it (by simp)
    have hl := rv.length
    exact LWE.enumT_end (I.ok.hd hc) he hit (show s.heap.IsTuple a its.toArray from p) (by simp; omega) fun g eb => ⟨rfl, I.turned (t' := s.toks) (fun b o hb q => eb b o hb q) f0 f1 f3 f4 f5⟩
  self := fun A i s Q E ⟨⟨_, he⟩, _⟩ h => wpAny_pyIter_enum he h
def iEnumT (K : PySem.W.Frag) (ta : TA) : TI := fun σ H R => ta σ H fun vs H1 => ∃ a xs, vs = [.ref a] ∧ SqT K H1 a xs ∧ R (IteT K a) H1
theorem pi_enumT {X : Cx} {e : Expr} {ta : TA} {p pos tpos : Pos} {elts : List Expr} {kk : Nat} (hg : Gl X "enumerate") (hm : X.mg "enumerate" = none) (ha : PA X [e] ta) (hs : starEach [e] X.env = [(false, eval e X.env)] := by rfl) :
    PI X (.Tuple elts kk tpos) (.Call (.Name "enumerate" p) [e] [] pos) (iEnumT X.K ta) := by
  refine ⟨fun pins s σ H R I h => ?_⟩
  refine Call_ (ld_blt I hg hm boot_enumerate (PyProof.Rows.callWith_type1 (thn (ha.run pos pins s σ H _ I h) fun us s1 ⟨vs, H1, I1, rv, a, xs, ex, hq, q⟩ => ?_) hs rfl))
  subst ex
  obtain ⟨u, rfl, ru⟩ := vals1 rv
  cases (show u = Value.ref a from ru)
  obtain ⟨its, rv, p', hz⟩ := I1.tuple hq
  refine LWE.enumT_make (show s1.heap.IsTuple a its.toArray from p') fun g he hit hsz hk => wpAny_pyIter_enum he ?_
  have I2 : Inv X pins σ H1 { s1 with heap := g } := I1.kept (t' := s1.toks) hk
  refine ⟨s1.heap.objs.size + 1, [s1.heap.objs.size + 1, s1.heap.objs.size], _, _, H1, rfl, I2, turn_enumT a (s1.heap.objs.size + 1) s1.heap.objs.size, ⟨⟨.none, he⟩, hit, Nat.succ_ne_self _⟩, fun b hb => ?_, q⟩
  have hle : s1.heap.objs.size ≤ b := by
    rcases (show b = s1.heap.objs.size + 1 ∨ b = s1.heap.objs.size by simpa using hb) with rfl | rfl
    · exact Nat.le_add_right _ _
    · exact Nat.le_refl _
  exact I1.fpOk hle (I1.hok.fresh hle)
theorem over_enumT {K : PySem.W.Frag} {H : Hp} {a : Addr} {xs : List V} (h : Pz H (fun H' => SqT K H' a xs)) : Over H (IteT K a) xs.length (fun i v H' => ∃ T x, v = .ref T ∧ H' T = some (.tup [.int i, x]) ∧ xs[i]? = some x) where
  go := fun i Hc e hi => ⟨xs, xs[i], h Hc e, List.getElem?_eq_getElem hi⟩
  stop := fun i Hc e hi => ⟨xs, h Hc e, hi⟩
  yld := fun i x Hc H' e hi y H1 e1 e2 => by
    obtain ⟨T, x', rfl, hT, rfl, z⟩ := y
    exact ⟨_, Grow.new e2 hT, fun H3 e3 => ⟨T, x', rfl, e3 _ _ upd_same, z xs (h _ e)⟩⟩
end LW
set_option Elab.async false
set_option linter.all false
set_option maxRecDepth 100000
set_option maxHeartbeats 4000000
/-! sorted of pairs of texts. -/
namespace LWK
open PySem SrtO PyProof.Rows LW
section
variable {prog : Program} {w : World} {A : Around} {E : Value → Shared → Prop} {s : Shared}
def IsPS (h : Heap) (v : Value) (p : Str × Str) : Prop := ∃ a o t u n, v = .ref a ∧ h.get? a = some o ∧ o.cls = .type "tuple" ∧ o.data = .seq #[.str p.1 t, .str p.2 u] n
theorem IsPS.keeps {h h' : Heap} {v : Value} {p : Str × Str} (x : IsPS h v p) (k : ∀ b o, h.get? b = some o → o.cls = .type "tuple" → h'.get? b = some o) : IsPS h' v p :=
  let ⟨a, o, t, u, n, e, ho, hc, hd⟩ := x
  ⟨a, o, t, u, n, e, k _ _ ho hc, hc, hd⟩
def ltB (p q : Str × Str) : Bool := decide (LtP p q)
theorem swo_ps (k : Value → Str × Str) : Swo fun v u => ltB (k v) (k u) := by
  refine ⟨fun x y h => ?_, fun x y z h1 h2 => ?_⟩
  · have a : LtP (k x) (k y) := of_decide_eq_true h
    exact decide_eq_false fun b => LtP.irr _ (a.tr b)
  · have a : ¬ LtP (k y) (k x) := of_decide_eq_false h1
    have b : ¬ LtP (k z) (k y) := of_decide_eq_false h2
    refine decide_eq_false fun c => ?_
    by_cases d : LtP (k x) (k y)
    · exact b (c.tr d)
    · have e := LtP.tri d a
      rw [e] at c
      exact b c
theorem ps_cmp {vs : List Value} {k : Value → Str × Str} (hp : ∀ v ∈ vs, IsPS s.heap v (k v)) : Cmp prog w A s (tuples' true) (fun p => p.1 ∈ vs) (lt2 fun v u => ltB (k v) (k u)) := by
  intro p q hm hm'
  have h1 := hp _ hm
  have h2 := hp _ hm'
  show wpAny (model prog w) A (keyLt' (tuples' true) p.1 q.1) (fun r s' => s' = s ∧ r = ltB (k p.1) (k q.1)) (fun _ _ => False) s
  generalize k p.1 = x at h1 ⊢
  generalize k q.1 = y at h2 ⊢
  obtain ⟨a, o, t, u, n, e, ho, hc, hd⟩ := h1
  obtain ⟨a', o', t', u', n', e', ho', hc', hd'⟩ := h2
  rw [e, e']
  refine PySem.W.kat_lt ho hd ho' hd' ?_
  show PySem.W.KatLex prog w A true (decide (2 < 2)) _ [(.str x.1 t, .str y.1 t'), (.str x.2 u, .str y.2 u')] 0 s
  refine PySem.W.kat_cons (wpAny_eqBool_str ?_)
  refine PySem.W.kat_go (fun e1 => ?_) (fun e1 => ?_)
  · have ex : x.1 = y.1 := by simpa using e1
    refine PySem.W.kat_yes (PySem.W.kat_cons (wpAny_eqBool_str ?_))
    refine PySem.W.kat_go (fun e2 => ?_) (fun e2 => ?_)
    · have ey : x.2 = y.2 := by simpa using e2
      have z : x = y := Prod.ext ex ey
      exact PySem.W.kat_yes (PySem.W.kat_nil ⟨rfl, (by rw [z]; exact (decide_eq_false (LtP.irr y)).symm)⟩)
    · refine PySem.W.kat_no (oneLt_any_str ⟨rfl, ?_⟩)
      refine decide_eq_decide.mpr ⟨fun z => .inr ⟨ex, z⟩, fun z => ?_⟩
      rcases z with z | z
      · rw [ex] at z
        exact (Lt.irr _ z).elim
      · exact z.2
  · have ex : ¬ x.1 = y.1 := by simpa using e1
    refine PySem.W.kat_no (oneLt_any_str ⟨rfl, ?_⟩)
    refine decide_eq_decide.mpr ⟨fun z => .inl z, fun z => ?_⟩
    rcases z with z | z
    · exact z
    · exact (ex z.1).elim
theorem ps_firsts {h : Heap} {k : Value → Str × Str} : ∀ {vs : List Value}, (∀ v ∈ vs, IsPS h v (k v)) → ∃ fs : List Value, PySem.W.KatTups h vs fs ∧ fs.length = vs.length ∧ ∀ f ∈ fs, ∃ x t, f = Value.str x t
  | [], _ => ⟨[], trivial, rfl, fun f hf => absurd hf (by simp)⟩
  | v :: r, hp => by
    obtain ⟨fs, h1, h2, h3⟩ := ps_firsts (vs := r) fun u hu => hp u (by simp [hu])
    obtain ⟨a, o, t, u, n, e, ho, hc, hd⟩ := hp v (by simp)
    refine ⟨.str (k v).1 t :: fs, ⟨⟨a, o, _, n, e, ho, hc, hd, rfl⟩, h1⟩, by simp [h2], fun f hf => ?_⟩
    rcases List.mem_cons.mp hf with rfl | hf
    · exact ⟨_, _, rfl⟩
    · exact h3 f hf
theorem ps_sortable {a : Addr} {vs : List Value} {k : Value → Str × Str} (h0 : 0 < vs.length) (hp : ∀ v ∈ vs, IsPS s.heap v (k v)) (ha : ∀ o, s.heap.get? a = some o → o.cls ≠ .type "tuple") : SortableO prog w A s a vs fun v u => ltB (k v) (k u) := by
  intro h' keep
  have hp' : ∀ v ∈ vs, IsPS h' v (k v) := fun v hm => (hp v hm).keeps fun b o e c => keep b o (fun z => by subst z; exact ha o e c) e
  obtain ⟨fs, h1, h2, h3⟩ := ps_firsts hp'
  refine ⟨tuples' true, fun Q E hq => ?_, ps_cmp hp'⟩
  refine PySem.W.kat_kind (T := .type "str") h1 (by omega) (fun f hm => ?_) (by rfl) ?_
  · obtain ⟨x, t, rfl⟩ := h3 f hm
    exact PySem.W.Looks.now
  · have e : (Value.type "str" != Value.type "tuple") = true := by first | decide +kernel | rfl | decide
    rw [e]
    exact hq
theorem sorted_ps {l : Addr} {vs : List Value} {k : Value → Str × Str} {Q : Value → Shared → Prop} (hl : s.heap.IsList l vs.toArray) (hz : vs.length ≤ sizeLine) (hp : ∀ v ∈ vs, IsPS s.heap v (k v))
    (h : ∀ (h' : Heap) (d : Addr) (out : List Value), Srtd (fun v u => ltB (k v) (k u)) out → out.Perm vs → (∀ b o, s.heap.get? b = some o → h'.get? b = some o) → s.heap.objs.size ≤ d → (∃ n, h'.get? d = some (seqObj "list" out.toArray n)) → Q (.ref d) { s with heap := h' }) :
    wpAny (model prog w) A (call (.builtin "sorted") [.ref l]) Q E s := by
  refine sorted_ord (swo_ps k) hl hz (fun h2 h₁ a ha kk => ?_) fun out hs hb => h _ _ out hs hb.perm (fun b o e => sortedAll_old e) (Nat.le_succ _) (sortedAll_at s.heap vs out.toArray)
  refine ps_sortable (s := { s with heap := h₁ }) (by omega) (fun v hm => (hp v hm).keeps fun b o e _ => (kk b o e).2) fun o e c => ?_
  have e' : some o = some (seqObj "list" vs.toArray 0) := e.symm.trans ha
  cases e'
  exact absurd (Value.type.inj c) (by decide)
end
end LWK
namespace LW
open PySem PyProof.Rows L2
def rSortedPS (K : PySem.W.Frag) : List V → Hp → VK → Prop := fun vs H Q => ∃ (a : Addr) (ts : List Addr) (ps : List (Str × Str)), vs = [V.ref a] ∧ SqL K H a (ts.map V.ref) ∧ TsAt H ts ps ∧ ∀ ts' ps' p, TsAt H ts' ps' → ps'.Perm ps → SortP ps' → H p = none → Q (.ref p) (upd H p (.lst (ts'.map V.ref)))
def pairAt (H : Hp) (t : Addr) : Str × Str := match H t with
  | some (.tup [.str x, .str y]) => (x, y)
  | _ => (Str.empty, Str.empty)
theorem ts_pairs {H : Hp} : ∀ {ts : List Addr} {ps : List (Str × Str)}, TsAt H ts ps → ps = ts.map (pairAt H)
  | _, _, .nil => rfl
  | _, _, .cons (a := t) (b := p) h r => by
    have e : pairAt H t = p := by unfold pairAt; rw [h]
    rw [List.map_cons, e, ← ts_pairs r]
theorem ts_mem {H : Hp} : ∀ {ts : List Addr} {ps : List (Str × Str)}, TsAt H ts ps → ∀ t ∈ ts, H t = some (.tup [.str (pairAt H t).1, .str (pairAt H t).2])
  | _, _, .nil, t, h => absurd h (by simp)
  | _, _, .cons (a := t0) (b := p) h r, t, hm => by
    rcases List.mem_cons.mp hm with rfl | hm
    · have e : pairAt H t = p := by unfold pairAt; rw [h]
      rw [e]; exact h
    · exact ts_mem r t hm
theorem ts_of {H : Hp} : ∀ {ts : List Addr}, (∀ t ∈ ts, H t = some (.tup [.str (pairAt H t).1, .str (pairAt H t).2])) → TsAt H ts (ts.map (pairAt H))
  | [], _ => .nil
  | t :: r, h => .cons (h t (by simp)) (ts_of fun u hu => h u (by simp [hu]))
def addrOf : Value → Addr
  | .ref a => a
  | _ => 0
theorem cr_sortedPS {X : Cx} : CallR X (.builtin "sorted") (rSortedPS X.K) := by
  intro pins s σ H vs us Q I r h
  obtain ⟨a, ts, ps, rfl, hs, hx, q⟩ := h
  obtain ⟨its, rv, hl, hz⟩ := I.list hs
  obtain ⟨u, rfl, ru⟩ := vals1 r
  cases (show u = Value.ref a from ru)
  have hits : its = ts.map Value.ref := by
    have go : ∀ {ts : List Addr} {us : List Value}, Vals (ts.map V.ref) us → us = ts.map Value.ref := by
      intro ts
      induction ts with
      | nil => intro us h; cases h; rfl
      | cons t l ih =>
        intro us h
        cases h with
        | cons h1 h2 => rw [show _ = Value.ref t from h1, ih h2]; rfl
    exact go rv
  subst hits
  refine LWK.sorted_ps (k := fun v => pairAt H (addrOf v)) hl.isList (by rw [← rv.length]; exact hz) (fun v hv => ?_) fun h' d out h1 h2 kp hd hn => ?_
  · obtain ⟨t, ht, rfl⟩ := List.mem_map.mp hv
    have e := ts_mem hx t ht
    obtain ⟨_, its2, r2, o, ho, hc, n, hd⟩ := I.hok _ _ e
    obtain ⟨u1, u2, rfl, ri, rj⟩ := vals2 r2
    obtain ⟨t1, rfl⟩ := ri
    obtain ⟨t2, rfl⟩ := rj
    exact ⟨t, o, t1, t2, n, rfl, ho, hc, hd⟩
  · obtain ⟨n, hn⟩ := hn
    have eo : out = (out.map addrOf).map Value.ref := by
      rw [List.map_map]
      refine (List.map_id out).symm.trans (List.map_congr_left fun v hv => ?_)
      obtain ⟨t, _, rfl⟩ := List.mem_map.mp (h2.mem_iff.mp hv)
      rfl
    have pm : (out.map addrOf).Perm ts := by
      have z := h2.map addrOf
      rw [List.map_map] at z
      have e : ts.map (addrOf ∘ Value.ref) = ts := (List.map_congr_left fun t _ => rfl).trans (List.map_id ts)
      rw [e] at z
      exact z
    have hall : ∀ t ∈ out.map addrOf, H t = some (.tup [.str (pairAt H t).1, .str (pairAt H t).2]) := fun t ht => ts_mem hx t (pm.mem_iff.mp ht)
    have vv : Vals ((out.map addrOf).map V.ref) out := by
      have go : ∀ l : List Addr, Vals (l.map V.ref) (l.map Value.ref) := fun l => by
        induction l with
        | nil => exact .nil
        | cons t l ih => exact .cons rfl ih
      have z := go (out.map addrOf)
      rw [← eo] at z
      exact z
    have lz : ((out.map addrOf).map V.ref).length ≤ sizeLine := by
      rw [List.length_map, pm.length_eq, ← List.length_map (f := V.ref)]
      exact hz
    refine ⟨.ref d, upd H d (.lst ((out.map addrOf).map V.ref)), I.laid (t' := s.toks) kp hd ⟨lz, out, n, vv, hn⟩, rfl, q _ _ d (ts_of hall) ?_ ?_ (I.hok.fresh hd)⟩
    · rw [ts_pairs hx]
      exact pm.map _
    · refine List.pairwise_map.mpr (List.pairwise_map.mpr ?_)
      exact h1.imp fun {v u} z => of_decide_eq_false z
end LW
set_option Elab.async false
set_option linter.all false
set_option maxRecDepth 100000
set_option maxHeartbeats 2000000
/-! defs that are called where nothing is being shown (repr inside them) -/
namespace LW
open PySem PySem.Spec PyProof.Rows L2
/-- room, and nothing is being shown -/
structure RoomG (k : Nat) (A : Around) : Prop where
  r : Room k A
  g : A.guards = some []
theorem RoomG.mono {j k : Nat} {A : Around} (z : RoomG k A) (h : j ≤ k) : RoomG j A := ⟨z.r.mono h, z.g⟩
theorem RoomG.deeper {k : Nat} {A : Around} (z : RoomG (k + 1) A) (env : Env) : RoomG k (A.deeper env) := ⟨z.r.deeper env, z.g⟩
theorem RoomG.in1 {k : Nat} {A : Around} (z : RoomG (k + 1) A) : RoomG k A.in1 := ⟨z.r.in1, z.g⟩
/-- a promise by positional arguments -/
def FnG (P : Program) (w : World) (K : PySem.W.Frag) (mg : Str → Option Value) (base : Heap) (k : Nat) (f : Addr) (sp : Sp) : Prop :=
  ∀ {A : Around} {outer : List Env} {s : Shared} {H : Hp} {us : List Value} {vs : List V} {Q : VK} {E : XK}, RoomG k A → Env0 P w K mg base A outer s H → Vals vs us → sp vs H Q E →
    codeAny (model P w) A (.call (.ref f) ⟨us, []⟩) (CR CX0 outer P w H s Q E) s
section
variable {P : Program} {w : World} {K : PySem.W.Frag} {mg : Str → Option Value} {base : Heap} {j k : Nat} {f : Addr} {sp sp' : Sp}
theorem FnG.mono (F : FnG P w K mg base j f sp) (h : j ≤ k) : FnG P w K mg base k f sp := fun z => F (z.mono h)
theorem FnG.of (F : FnR P w K mg base CX0 k f sp) : FnG P w K mg base k f sp := fun z e r q => F _ _ _ _ _ _ _ _ z.r e r q
/-- a def, by its body -/
theorem fnG_of {x qual : Str} {st : Stmt} {fd : FuncData} {N ps : List Str} (F : Fun K x qual st f fd) (S : FnScope N ps (defScope st)) (hb : Binds K fd ps []) (len : ∀ vs H Q E, sp vs H Q E → vs.length = ps.length)
    (body : ∀ (cdv : Value) (A : Around) (outer : List Env) (s : Shared) (H : Hp) (vs : List V) (Q : VK) (E : XK), RoomG k (A.deeper (envOfC qual (defScope st) s.heap.objs.size f cdv)) → sp vs H Q E →
      wB (fx P w K mg base N qual st f cdv A outer s H E) (defBody st) { nx := fun _ H' => Q .non H', rt := Q } (L2.start N vs) H) : FnG P w K mg base (k + 1) f sp := by
  intro A outer s H us vs Q E hr e0 rv hq
  obtain ⟨oc, od, kV, doc, pm, an, cdv, ct, osl, rfl, lk, hcd⟩ := F.ex
  have hl := len _ _ _ _ hq
  have hu : us.length = ps.length := by rw [← rv.length, hl]
  have bs := fun b o z => (e0.bs b o z).1
  have KX : K.In s.heap := e0.mod.kin.keeps bs
  have bt := hb s us KX (by rw [List.append_nil]; exact hu)
  rw [List.append_nil] at bt
  refine codeAny_call_function hr.r.depth (KX _ _ lk) rfl S.co S.gen rfl (PySem.W.codeRec_of KX hcd) (bt _ _ _ _ (wpAny_newFunctionEnv_cells S.kind (fun p hp => ?_) fun env he s1 ic => ?_))
  · rcases S.par p.1 (List.of_mem_zip (show (p.1, p.2) ∈ ps.zip us from hp)).1 with c | c
    · exact .inl c
    · exact .inr ⟨c, PySem.W.cellsFrom_some _ _ _ (.inl c)⟩
  · subst he
    refine ⟨(e0.mod.nolimit.keeps bs).keeps ic.toInCall.keep, codeAny_func ?_⟩
    have ht := (pss_w (X := fx P w K mg base N qual st f cdv A outer s H E) (sts := defBody st)).nox
    refine wpAny_mono (ht.run [] s1 (L2.start N vs) H _ (inv_start S hr.r.hd e0 hl rv ic) (body cdv A outer s H vs Q E (hr.deeper _) hq)) (fun fl s' z => ?_) fun _ _ z => z
    cases fl with
    | next => obtain ⟨σ', H', J, q⟩ := z; exact ⟨V.non, H', J.os, J.bare, J.base, J.hok, rfl, q⟩
    | ret u => obtain ⟨v, σ', H', J, ru, q⟩ := z; exact ⟨v, H', J.os, J.bare, J.base, J.hok, ru, q⟩
    | brk => obtain ⟨_, _, _, q⟩ := z; exact q.elim
    | cont => obtain ⟨_, _, _, q⟩ := z; exact q.elim
end
/-- where nothing is shown: the def n keeps it -/
structure Gn {α : Type} (P : Program) (w : World) (K : PySem.W.Frag) (mg : Str → Option Value) (base : Heap) (n : Str) (k : Nat) (A : α → List V → Hp → Prop) (R : α → V → Hp → Prop) : Prop where
  ex : ∃ f : Addr, mg n = some (.ref f) ∧ PySem.W.keepIn K (.ref f) = true ∧ FnG P w K mg base k f (SpF A R)
/-- what is to be shown of its body -/
def BodyG {α : Type} (P : Program) (w : World) (K : PySem.W.Frag) (mg : Str → Option Value) (base : Heap) (N : List Str) (qual : Str) (st : Stmt) (f : Addr) (k : Nat) (A : α → List V → Hp → Prop) (R : α → V → Hp → Prop) : Prop :=
  ∀ (cdv : Value) (Ar : Around) (outer : List Env) (s : Shared) (H0 : Hp) (E : XK) (x : α) (vs : List V) (H Hc : Hp) (D : Ends), RoomG k (fx P w K mg base N qual st f cdv Ar outer s H0 E).A → Ex H Hc → Pz H (A x vs) →
    (∀ v Hn H2, Grow H Hc Hn H2 → Pz Hn (R x v) → D.rt v H2) → (∀ σ Hn H2, Grow H Hc Hn H2 → Pz Hn (R x .non) → D.nx σ H2) →
    wB (fx P w K mg base N qual st f cdv Ar outer s H0 E) (defBody st) D (L2.start N vs) Hc
section
variable {α : Type} {P : Program} {w : World} {K : PySem.W.Frag} {mg : Str → Option Value} {base : Heap} {x qual : Str} {st : Stmt} {f : Addr} {fd : FuncData} {N ps : List Str} {k : Nat} {A : α → List V → Hp → Prop} {R : α → V → Hp → Prop}
theorem okG_of (F : Fun K x qual st f fd) (S : FnScope N ps (defScope st)) (hb : Binds K fd ps []) (len : ∀ a vs H, A a vs H → vs.length = ps.length) (b : BodyG P w K mg base N qual st f k A R) : FnG P w K mg base (k + 1) f (SpF A R) :=
  fnG_of F S hb (fun vs H Q E ⟨a, H1, e, p, _⟩ => len a vs H1 p.now) fun cdv Ar outer s H vs Q E hr ⟨a, H1, e, p, q⟩ =>
    b cdv Ar outer s H E a vs H1 H _ hr e p (fun v Hn H2 g r => q v Hn H2 g r) fun _ Hn H2 g r => q .non Hn H2 g r
theorem Fn.gn {n : Str} (F : Fn P w K mg base n k A R) : Gn P w K mg base n k A R :=
  let ⟨f, a, b, c⟩ := F.ex
  ⟨f, a, b, FnG.of c⟩
end
section
variable {X : Cx} {pins : List (Addr × Obj)} {σ : L2.St} {H : Hp} {s : Shared} {f : Addr} {k : Nat} {sp : Sp} {E : XK}
theorem run_fnG {Q : VK} {us : List Value} {vs : List V} (F : FnG X.prog X.w X.K X.mg X.base k f sp) (hr : RoomG k X.A) (I : Inv X pins σ H s) (r : Vals vs us) (h : sp vs H Q E) :
    codeAny (model X.prog X.w) X.A (.call (.ref f) ⟨us, []⟩) (fun r s' => match r with | .ok (.ret v) => EP X pins σ Q v s' | .ok _ => False | .error e => X.xe e s') s := by
  refine codeAny_mono (F hr I.env0 r h) fun z s' q => ?_
  match z, q with
  | .error e, q => exact q.elim
  | .ok (.ret u), q => exact I.after q
  | .ok .next, q => exact q.elim
  | .ok .brk, q => exact q.elim
  | .ok .cont, q => exact q.elim
theorem pe_callG {x : Str} {pn pos : Pos} {e : Expr} {es : List Expr} {t : TA} (F : FnG X.prog X.w X.K X.mg X.base k f sp) (hr : RoomG k X.A) (hk : PySem.W.keepIn X.K (.ref f) = true) (hm : X.mg x = some (.ref f)) (ha : PA X (e :: es) t) (hg : Gl X x)
    (hd : (x == ("__debug__" : Str)) = false) (hs : starEach (e :: es) X.env = (false, eval e X.env) :: starEach es X.env) (hpl : (backTo pos (starEach es X.env)).any (·.1) = false) :
    PE X (.Call (.Name x pn) (e :: es) [] pos) (fun σ H Q => t σ H fun vs H1 => sp vs H1 Q E) := by
  refine ⟨fun pins s σ H Q I h => wpAny_Call_Name_kw (ld_glob I hg hm (PySem.W.callWith_K (h₀ := X.base) I.ok.mod.kin hk (thn (ha.run pos pins s σ H _ I h) fun us s2 z => ?_) hs hpl) hd)⟩
  obtain ⟨vs, H2, I2, r, q⟩ := z
  exact ⟨I2.kIn, wpAny_call (run_fnG F hr I2 r q)⟩
end
section
variable {α : Type} {A : α → List V → Hp → Prop} {R : α → V → Hp → Prop} {X : Cx} {σ : L2.St} {H : Hp} {P : V → Hp → Prop} {k : Nat} {n : Str} {e : Expr} {es : List Expr} {pos pn : Pos} {vs : List V} {Pa : List V → Hp → Prop}
theorem e_callG (F : Gn X.prog X.w X.K X.mg X.base n k A R) (hr : RoomG k X.A) (ha : Cm H Pa (wA X (e :: es) σ)) (hp : ∀ vs H1, Ex H H1 → Pz H1 (Pa vs) → ∃ x, Pz H1 (A x vs) ∧ ∀ v H2, Ex H1 H2 → R x v H2 → P v H2)
    (hg : Gl X n := by rfl) (hd : (n == ("__debug__" : Str)) = false := by decide) (hs : starEach (e :: es) X.env = (false, eval e X.env) :: starEach es X.env := by rfl) (hpl : (backTo pos (starEach es X.env)).any (·.1) = false := by rfl) :
    Cm H P (wE X (.Call (.Name n pn) (e :: es) [] pos) σ) := by
  obtain ⟨f, hm, hk, G⟩ := F.ex
  refine ce (pe_callG (E := E0) G hr hk hm pa_w hg hd hs hpl) (cm1 (u := fun vs H1 Q => SpF A R vs H1 Q E0) ha fun vs H1 e1 p1 => ?_)
  obtain ⟨x, h1, h2⟩ := hp vs H1 e1 p1
  exact (c_sp h1).imp h2
theorem e_callGD (x : α) (F : Gn X.prog X.w X.K X.mg X.base n k A R) (hr : RoomG k X.A) (ha : Cm H (is vs) (wA X (e :: es) σ)) (hp : Pz H (A x vs))
    (hg : Gl X n := by rfl) (hd : (n == ("__debug__" : Str)) = false := by decide) (hs : starEach (e :: es) X.env = (false, eval e X.env) :: starEach es X.env := by rfl) (hpl : (backTo pos (starEach es X.env)).any (·.1) = false := by rfl) :
    Cm H (R x) (wE X (.Call (.Name n pn) (e :: es) [] pos) σ) :=
  e_callG F hr ha (fun ws H1 e1 p1 => ⟨x, (show ws = vs from p1.now) ▸ hp.mono e1, fun _ _ _ z => z⟩) hg hd hs hpl
end
end LW
set_option Elab.async false
set_option linter.all false
set_option maxRecDepth 100000
set_option maxHeartbeats 2000000
/-! the end: a law's own call, where nothing is shown yet -/
namespace LW
open PySem PySem.Spec PyProof.Rows L2
theorem callerG {k : Nat} (h : Room k callerA) : RoomG k callerA := ⟨h, rfl⟩
section
variable {P : Program} {w : World} {K : PySem.W.Frag} {mg mb : Str → Option Value} {k : Nat} {fa a : Addr} {sp : Sp} {s : Shared} {vs : List Value} {ns : List Int}
/-- the script is all that is tracked, or nothing is -/
structure OneAt (K : PySem.W.Frag) (h : Heap) (a : Addr) (ns : List Int) (H : Hp) : Prop where
  only : Only H
  seq : SqL K H a (ns.map V.int)
  ok : ∀ {P : Program} {w : World}, HOk P w H h
  at_ : ∀ b, H b ≠ none → b = a
  out : H a ≠ none → K.lookup a = none
theorem oneAt (KX : K.In s.heap) (ha : s.heap.get? a = some { cls := .type "list", data := .seq vs.toArray }) (hi : IntsAre vs ns) (hl : ns.length ≤ sizeLine) : ∃ H, OneAt K s.heap a ns H := by
  have rv := vals_ints hi
  cases hk : K.lookup a with
  | some o =>
    have e := (KX a o hk).symm.trans ha
    cases e
    refine ⟨fun _ => none, ⟨fun _ => .inl rfl, .inr ⟨_, vs.toArray, _, hk, rfl, rfl, rfl, ?_, ?_⟩, fun {P w} b u z => (nomatch (show (none : Option HO) = some u from z)), fun b z => absurd rfl z, fun z => absurd rfl z⟩⟩
    · rw [List.size_toArray, hi.length]; exact hl
    · simpa using rv
  | none =>
    refine ⟨fun b => if b = a then some (.frz { cls := .type "list", data := .seq vs.toArray } (.lst (ns.map V.int))) else none, ⟨fun b => ?_, .inl (.inr ⟨_, if_pos rfl⟩), fun b u z => ?_, fun b z => ?_, fun _ => hk⟩⟩
    · rcases Decidable.em (b = a) with q | q
      · exact .inr ⟨_, _, if_pos q⟩
      · exact .inl (if_neg q)
    · rcases Decidable.em (b = a) with q | q
      · have z' := (if_pos q).symm.trans z
        cases z'
        subst q
        exact ⟨ha, by rw [List.length_map]; exact hl, vs, _, rv, ha⟩
      · exact nomatch (if_neg q).symm.trans z
    · exact Decidable.byContradiction fun q => z (if_neg q)
theorem law_callG (KX : K.In s.heap) (hns : s.heap.Ns mainGlobals mg) (hb : s.heap.Ns builtinsNs mb) (hbb : ∀ x : Str, x ≠ "__name__" → mb x = bootBuiltins x) (hlim : s.heap.NoLimit) (hg : s.gens = #[])
    (ha : s.heap.get? a = some { cls := .type "list", data := .seq vs.toArray }) (hi : IntsAre vs ns) (hl : ns.length ≤ sizeLine) (hr : Room k callerA) (F : ∀ base : Heap, K.In base → base.Ns mainGlobals mg → FnG P w K mg base k fa sp)
    (hsp : ∀ H : Hp, Only H → SqL K H a (ns.map V.int) → sp [.ref a] H (fun v _ => v = .bl true) fun _ _ _ => False) :
    codeAny (model P w) callerA (.call (.ref fa) ⟨[.ref a], []⟩) (fun r s' => r = .ok (.ret (.bool true)) ∧ OldK s.heap s'.heap ∧ s'.os = s.os ∧ AllBare s'.gens) s := by
  obtain ⟨H, O⟩ := oneAt KX ha hi hl
  have free : ∀ {b : Addr} {o : Obj}, s.heap.get? b = some o → o.cls ≠ .type "list" → H b = none := fun {b o} e n => Decidable.byContradiction fun z => by
    have q := O.at_ b z
    subst q
    cases e.symm.trans ha
    exact n rfl
  have dfree : ∀ {b : Addr} {o : Obj} {es : Array DictEntry} {ep : Nat}, s.heap.get? b = some o → o.data = .dict es ep → H b = none := fun {b o es ep} e d => Decidable.byContradiction fun z => by
    have q := O.at_ b z
    subst q
    cases e.symm.trans ha
    exact nomatch (show Data.seq vs.toArray _ = Data.dict es ep from d)
  have up : ∀ {b : Addr} {m : Str → Option Value}, s.heap.Ns b m → (hidT s.heap H).Ns b m := fun ⟨o, es, ep, e, d, r⟩ => ⟨o, es, ep, hidT_get e (dfree e d), d, r⟩
  have kb : K.In (hidT s.heap H) := fun b o e => hidT_get (KX b o e) (Decidable.byContradiction fun z => by
    have q := O.at_ b z
    subst q
    rw [O.out z] at e
    cases e)
  obtain ⟨ml, l1, l2⟩ := hlim
  have e0 : Env0 P w K mg (hidT s.heap H) callerA [] s H := ⟨rfl, ⟨kb, up hns, ⟨mb, up hb, hbb⟩, ml, up l1, l2⟩, fun _ _ e => of_hidT e, Nat.le_of_eq (hidT_size _ _), trivial, fun b hb => (nomatch (show b ∈ ([] : List Addr) from hb)), O.ok, .of_eq hg⟩
  refine codeAny_mono (F _ kb (up hns) (callerG hr) e0 (.cons (show RelV (V.ref a) (Value.ref a) from rfl) .nil) (hsp H O.only O.seq)) fun r s' h => ?_
  match r, h with
  | .error _, h => exact h.elim
  | .ok .next, h => exact h.elim
  | .ok .brk, h => exact h.elim
  | .ok .cont, h => exact h.elim
  | .ok (.ret u), ⟨v, H', os, bare, un, hok', r', q⟩ =>
    cases (show v = .bl true from q)
    cases (show u = Value.bool true from r')
    refine ⟨rfl, .of_keep fun b o e => ?_, os, bare⟩
    obtain z | ⟨ob, xs, z⟩ := O.only b
    · exact un.keep b o e z (fun y => nomatch (show b ∈ ([] : List Addr) from y)) (by simp)
    · have e1 := (O.ok (P := P) (w := w) b _ z).1
      cases e.symm.trans e1
      exact (hok' b _ (un.frzs b _ _ z)).1
end
/-- as walk_ofK, by a promise where nothing is shown -/
theorem walk_ofG {l : PySem.W.OpenLaw} {n k : Nat} {q : Program} {loose : List Str} {XP : (Str → Option Value) → Heap → Prop} {YP : World → Heap → Prop} {d : DefRec} {K : Params → PySem.W.Frag} {sp : PySem.W.Frag → Sp}
    (hn : l.most = some n) (hn2 : n ≤ sizeLine) (hdf : d.params.defaults = []) (hr : Room k callerA) (hY : ∀ (w : World) (h : Heap), YP w h → (K w.params).In h)
    (F : ∀ (w : World) (mg : Str → Option Value) (fa : Addr) (h : Heap), (K w.params).In h → h.Ns mainGlobals mg → mg d.name = some (.ref fa) → ∀ base : Heap, (K w.params).In base → base.Ns mainGlobals mg → FnG l.prog w (K w.params) mg base k fa (sp (K w.params)))
    (hsp : ∀ (K : PySem.W.Frag) (H : Hp) (a : Addr) (ns : List Int), ns.length ≤ n → Only H → SqL K H a (ns.map V.int) → sp K [.ref a] H (fun v _ => v = .bl true) fun _ _ _ => False) :
    PySem.W.WalkO q loose XP YP l.row.toRowW d [] (fun f vs => PySem.call f vs) := by
  refine Att.attach_call hn hdf fun w s₀ s₁ mg mb fa o pm cd doc a vs ns G Y ho hd hcd hmg hobj hints hlen hg => ?_
  exact law_callG (hY w _ Y) G.T.g G.T.b G.T.builtins G.T.nolimit hg hobj hints (Nat.le_trans hlen hn2) hr (F w mg fa _ (hY w _ Y) G.T.g hmg) fun H => hsp (K w.params) H a ns hlen
end LW
set_option Elab.async false
set_option linter.all false
set_option maxRecDepth 100000
set_option maxHeartbeats 2000000
/-! pots: lists of two numbers out of which numbers are drawn; a pot stays the same thing, whatever has been drawn -/
namespace LW
open PySem PySem.Spec PyProof.Rows L2
def PotO (p : Addr) : HO := .ext fun h => ∃ (a b : Int) (t u : Tok) (n : Nat), 0 ≤ a ∧ 0 ≤ b ∧ b < 2147483648 ∧ h.get? p = some { cls := .type "list", data := .seq #[.int a t, .int b u] n }
/-- it lies open -/
def PotAt (p : Addr) (H : Hp) : Prop := ∃ a b : Int, 0 ≤ a ∧ 0 ≤ b ∧ b < 2147483648 ∧ H p = some (.lst [.int a, .int b])
def off (H : Hp) (p : Addr) : Hp := fun b => if b = p then none else H b
theorem off_at {H : Hp} {p : Addr} : off H p p = none := if_pos rfl
theorem off_ne {H : Hp} {p b : Addr} (h : b ≠ p) : off H p b = H b := if_neg h
theorem off_some {H : Hp} {p b : Addr} {o : HO} (h : off H p b = some o) : b ≠ p ∧ H b = some o := by
  by_cases q : b = p
  · rw [q, off_at] at h; cases h
  · rw [off_ne q] at h; exact ⟨q, h⟩
section
variable {X : Cx} {pins : List (Addr × Obj)} {σ : L2.St} {H Hc Hn H2 : Hp} {s : Shared} {p : Addr} {o : HO}
theorem pot_open (I : Inv X pins σ H s) (h : H p = some (PotO p)) : ∃ a b : Int, (0 ≤ a ∧ 0 ≤ b ∧ b < 2147483648) ∧ Inv X pins σ (upd H p (.lst [.int a, .int b])) s := by
  obtain ⟨⟨a, b, t, u, n, h1, h2, h3, e⟩, _⟩ := I.hok p _ h
  exact ⟨a, b, ⟨h1, h2, h3⟩, I.write (x := p) (e := p) (t' := s.toks) (by rw [h]; trivial) (.inl rfl) (fun _ _ _ z => z) ⟨_, e⟩ ⟨by show 2 ≤ sizeLine; decide, [.int a t, .int b u], n, .cons ⟨t, rfl⟩ (.cons ⟨u, rfl⟩ .nil), e⟩⟩
theorem pot_new {P : Program} {w : World} {h : Heap} (e : ∃ (a b : Int) (t u : Tok) (n : Nat), 0 ≤ a ∧ 0 ≤ b ∧ b < 2147483648 ∧ h.get? p = some { cls := .type "list", data := .seq #[.int a t, .int b u] n }) : ObjOk P w H h p (PotO p) := by
  refine ⟨e, ?_, fun h1 h2 ⟨a, b, t, u, n, z1, z2, z3, z⟩ k => ⟨a, b, t, u, n, z1, z2, z3, k _ z⟩⟩
  obtain ⟨a, b, t, u, n, _, _, _, z⟩ := e
  exact ⟨_, z⟩
theorem pot_close (I : Inv X pins σ H s) (h : PotAt p H) : Inv X pins σ (upd H p (PotO p)) s := by
  obtain ⟨a, b, h1, h2, h3, e⟩ := h
  obtain ⟨its, n, r, ho, _⟩ := I.lst e
  cases r with
  | cons r0 r => cases r with
    | cons r1 r => cases r with
      | nil =>
        obtain ⟨t, rfl⟩ := r0
        obtain ⟨u, rfl⟩ := r1
        exact I.write (x := p) (e := p) (t' := s.toks) (by rw [e]; trivial) (.inl rfl) (fun _ _ _ z => z) ⟨_, ho⟩ (pot_new ⟨a, b, t, u, n, h1, h2, h3, ho⟩)
/-- the ends of a text that runs on an open pot -/
def shut (D : Ends) (p : Addr) : Ends := { nx := fun σ H => PotAt p H ∧ D.nx σ (upd H p (PotO p)), rt := fun v H => PotAt p H ∧ D.rt v (upd H p (PotO p)) }
theorem b_pot {sts : List Stmt} {D : Ends} (hp : Hc p = some (PotO p)) (h : ∀ a b : Int, 0 ≤ a → 0 ≤ b → b < 2147483648 → wB X sts (shut D p) σ (upd Hc p (.lst [.int a, .int b]))) : wB X sts D σ Hc := by
  intro pins s I
  obtain ⟨a, b, ⟨h1, h2, h3⟩, J⟩ := pot_open I hp
  refine wpAny_mono (h a b h1 h2 h3 pins s J) (fun fl s' z => ?_) fun _ _ z => z
  cases fl with
  | next => obtain ⟨σ', H', J', z1, z2⟩ := z; exact ⟨σ', _, pot_close J' z1, z2⟩
  | ret u => obtain ⟨v, σ', H', J', rv, z1, z2⟩ := z; exact ⟨v, σ', _, pot_close J' z1, rv, z2⟩
  | brk => obtain ⟨_, _, _, z⟩ := z; exact z.elim
  | cont => obtain ⟨_, _, _, z⟩ := z; exact z.elim
/-- what runs on an open pot begins so -/
theorem pot_begin (ex : Ex H Hc) : Grow (off H p) (off Hc p) (off H p) (upd Hc p o) :=
  ⟨Evl.Ex.refl _, fun a u h => by rw [upd_ne (off_some h).1]; exact ex _ _ (off_some h).2, fun a u h => by rw [upd_ne (off_some h).1]; exact (off_some h).2, fun _ _ _ _ h => h⟩
/-- .. and ends so -/
theorem pot_end (ex : Ex H Hc) (h : H p = some o) (g : Grow (off H p) (off Hc p) Hn H2) : Grow H Hc (upd Hn p o) (upd H2 p o) := by
  refine ⟨fun a u q => ?_, fun a u q => ?_, fun a u q => ?_, fun a u q m n => ?_⟩ <;> by_cases z : a = p
  · subst z; rw [h] at q; cases q; exact upd_same
  · rw [upd_ne z]; exact g.k a u (by rw [off_ne z]; exact q)
  · subst z; rw [upd_same] at q ⊢; exact q
  · rw [upd_ne z] at q ⊢; exact g.s a u q
  · subst z; rw [ex _ _ h] at q; cases q; exact upd_same
  · rw [upd_ne z]; exact g.c a u (by rw [off_ne z]; exact q)
  · subst z; rw [h] at n; cases n
  · rw [upd_ne z]; exact g.f a u (by rw [off_ne z]; exact q) m (by rw [off_ne z]; exact n)
end
/-- nothing new is known -/
theorem still {H Hc H2 : Hp} (e1 : Ex H H2) (e2 : Ex Hc H2) : Grow H Hc H H2 := ⟨Evl.Ex.refl _, e1, e2, fun _ _ _ _ h => h⟩
/-! ### any target -/
section
variable {X : Cx} {σ : L2.St} {H Hc : Hp} {P : V → Hp → Prop} {tg e : Expr} {g : TG} {rest : List Stmt} {D : Ends} {pos : Pos}
theorem b_asg (ex : Ex H Hc) (he : Cm H P (wE X e σ)) (hg : PG X tg g) (h : ∀ v Hn H2, Grow H Hc Hn H2 → Pz Hn (P v) → g v σ H2 (wB X rest D)) (hs : swapsWithSole [tg] e pos.line X.env = pure false := by rfl) (hw : swappedStores [tg] e X.env = pure none := by rfl)
    (h1 : (assignEach [tg] X.env).map (·.2) = [assign tg X.env] := by rfl) : wB X (.Assign [tg] e pos :: rest) D σ Hc := b_cons (w_s (ps_asg pe_w hg hs hw h1) (he Hc ex _ h))
end
/-! a new pot -/
section
variable {X : Cx} {σ : L2.St} {H Hc : Hp} {es : List Expr} {rest : List Stmt} {D : Ends} {pos lp : Pos} {a b : Int}
theorem b_retPot (ex : Ex H Hc) (ha : Cm H (is [V.int a, V.int b]) (wA X es σ)) (h1 : 0 ≤ a) (h2 : 0 ≤ b) (h3 : b < 2147483648) (h : ∀ p Hn H2, Grow H Hc Hn H2 → Hn p = some (PotO p) → D.rt (.ref p) H2) : wB X (.Return (some (.List es lp)) pos :: rest) D σ Hc := by
  have z : wB X (.Return (some (.List es lp)) pos :: rest) { nx := fun _ _ => False, rt := fun v H2 => ∃ p, v = .ref p ∧ PotAt p H2 ∧ D.rt v (upd H2 p (PotO p)) } σ Hc := by
    refine b_cons (w_s (ps_ret (pe_lst pa_w)) (ha Hc ex _ fun vs Hn H2 g q => ?_))
    obtain rfl : vs = [V.int a, V.int b] := q.now
    refine ⟨by show 2 ≤ sizeLine; decide, fun p hp => ⟨p, rfl, ⟨a, b, h1, h2, h3, upd_same⟩, ?_⟩⟩
    rw [upd_upd]
    exact h p _ _ (g.trans (Grow.new g.s hp)) upd_same
  intro pins s I
  refine wpAny_mono (z pins s I) (fun fl s' y => ?_) fun _ _ y => y
  cases fl with
  | next => obtain ⟨_, _, _, y⟩ := y; exact y.elim
  | ret u => obtain ⟨v, σ', H', J', rv, p, e, z1, z2⟩ := y; exact ⟨v, σ', _, pot_close J' z1, rv, z2⟩
  | brk => obtain ⟨_, _, _, y⟩ := y; exact y.elim
  | cont => obtain ⟨_, _, _, y⟩ := y; exact y.elim
end
/-! loops whose number of turns is only known to lie in Φ -/
def Cix (H : Hp) (Φ : Nat → Prop) (Y : Nat → V → Hp → Prop) (t : Hp → (It → Hp → Prop) → Prop) : Prop := ∀ Hc, Ex H Hc → ∀ R : It → Hp → Prop, (∀ J n Hn H2, Φ n → Grow H Hc Hn H2 → Over Hn J n Y → R J H2) → t Hc R
theorem i_rngX {X : Cx} {σ : L2.St} {H : Hp} {es : List Expr} {Φ : Nat → Prop} (h : Cm H (fun vs _ => ∃ n : Nat, vs = [V.int (n : Int)] ∧ n ≤ 1000000 ∧ Φ n) (wA X es σ)) : Cix H Φ (fun i x _ => x = .int (i : Int)) (iRng1 (wA X es) σ) := fun Hc e R r =>
  h Hc e _ fun v Hn H2 g p => by
    obtain ⟨n, rfl, hn, hφ⟩ := p.now
    refine ⟨n, rfl, by omega, by omega, r _ n Hn H2 hφ g ?_⟩
    have o := over_range (H := Hn) (lo := 0) (n := n)
    exact ⟨o.go, o.stop, fun i x Hc H' e hi y H1 e1 e2 => by
      obtain ⟨H3, g3, z⟩ := o.yld i x Hc H' e hi y H1 e1 e2
      exact ⟨H3, g3, z.imp fun _ _ q => by rw [q, Int.zero_add]⟩⟩
theorem b_forX {X : Cx} {σ : L2.St} {H Hc : Hp} {tg iter : Expr} {body rest : List Stmt} {pos : Pos} {D : Ends} {wi : TI} {g : TG} {Φ : Nat → Prop} {Y : Nat → V → Hp → Prop} (ex : Ex H Hc) (hp : PassesOwn (model X.prog X.w) X.A X.env X.xe) (hc : X.calm = true)
    (hi : PI X tg iter wi) (hci : Cix H Φ Y (wi σ)) (hg : PG X tg g) (h : ∀ n Hn H2, Φ n → Grow H Hc Hn H2 → Loop X g body rest D n Y σ Hn H2) (hf : ∀ x, foldedSetIterable iter X.env x = pure x := by intro x; rfl) :
    wB X (.For tg iter body [] pos :: rest) D σ Hc := by
  refine b_cons (w_s (ps_for hp hc hi hg pss_w hf) (hci Hc ex _ fun J n Hn H2 hφ g2 ov => ?_))
  obtain ⟨W, h0, hs, hd⟩ := h n Hn H2 hφ g2
  refine ⟨fun i m σ1 Hc1 => m = n - i ∧ i ≤ n ∧ ∃ H1, Ex Hn H1 ∧ Ex H1 Hc1 ∧ W i σ1 H1 Hc1, ⟨n, rfl, Nat.zero_le _, Hn, Evl.Ex.refl _, g2.s, h0⟩, ?_⟩
  rintro i m σ1 Hc1 ⟨rfl, hi, H1, e1, e2, w⟩
  by_cases hlt : i < n
  · refine .inr ⟨ov.go i Hc1 (e1.trans e2) hlt, fun σ3 H3 => ∃ H5, Ex Hn H5 ∧ Ex H5 H3 ∧ W (i + 1) σ3 H5 H3, fun σ3 H3 ⟨H5, a, b, c⟩ => ⟨n - (i + 1), by omega, rfl, hlt, H5, a, b, c⟩, fun x H' y => ?_⟩
    obtain ⟨H3, g3, z⟩ := ov.yld i x Hc1 H' (e1.trans e2) hlt y H1 e1 e2
    exact hs i σ1 H1 Hc1 hlt e1 e2 w x H3 H' g3 z
  · obtain rfl : i = n := by omega
    exact .inl ⟨ov.stop i Hc1 (e1.trans e2) (Nat.le_refl _), hd σ1 H1 Hc1 e1 e2 w⟩
end LW
set_option Elab.async false
set_option linter.all false
set_option maxRecDepth 100000
set_option maxHeartbeats 2000000
/-! repr of nested lists and tuples -/
namespace LW
open PySem PySem.Spec PyProof.Rows L2
mutual
/-- the value is this data -/
inductive Dv (K : PySem.W.Frag) (H : Hp) : V → PyData → Prop
  | non : Dv K H .non .none
  | bl (b : Bool) : Dv K H (.bl b) (.bool b)
  | int (i : Int) : Dv K H (.int i) (.int i)
  | str (x : Str) : Dv K H (.str x) (.str x)
  | list {a : Addr} {xs : List V} {ds : List PyData} : SqL K H a xs → Dvs K H xs ds → Dv K H (.ref a) (.list ds)
  | tuple {a : Addr} {xs : List V} {ds : List PyData} : SqT K H a xs → Dvs K H xs ds → Dv K H (.ref a) (.tuple ds)
inductive Dvs (K : PySem.W.Frag) (H : Hp) : List V → List PyData → Prop
  | nil : Dvs K H [] []
  | cons {v : V} {d : PyData} {xs : List V} {ds : List PyData} : Dv K H v d → Dvs K H xs ds → Dvs K H (v :: xs) (d :: ds)
end
mutual
theorem Dv.ex {K : PySem.W.Frag} {H H' : Hp} (e : Ex H H') : ∀ {v : V} {d : PyData}, Dv K H v d → Dv K H' v d
  | _, _, .non => .non
  | _, _, .bl b => .bl b
  | _, _, .int i => .int i
  | _, _, .str x => .str x
  | _, _, .list h hs => .list (Evl.ex_l e h) (hs.ex e)
  | _, _, .tuple h hs => .tuple (Evl.ex_t e h) (hs.ex e)
theorem Dvs.ex {K : PySem.W.Frag} {H H' : Hp} (e : Ex H H') : ∀ {xs : List V} {ds : List PyData}, Dvs K H xs ds → Dvs K H' xs ds
  | _, _, .nil => .nil
  | _, _, .cons h hs => .cons (h.ex e) (hs.ex e)
end
theorem Dvs.map {K : PySem.W.Frag} {H : Hp} {α : Type} {f : α → V} {g : α → PyData} : ∀ {l : List α}, (∀ x ∈ l, Dv K H (f x) (g x)) → Dvs K H (l.map f) (l.map g)
  | [], _ => .nil
  | x :: l, h => .cons (h x (List.mem_cons_self ..)) (Dvs.map fun y hy => h y (List.mem_cons_of_mem _ hy))
theorem Dvs.paired {K : PySem.W.Frag} {H : Hp} {α β : Type} {p : β → α → Prop} {f : β → V} {g : α → PyData} (h : ∀ y x, p y x → Dv K H (f y) (g x)) : ∀ {ys : List β} {xs : List α}, Paired p ys xs → Dvs K H (ys.map f) (xs.map g)
  | _, _, .nil => .nil
  | _, _, .cons a b => .cons (h _ _ a) (Dvs.paired h b)
section
variable {X : Cx} {pins : List (Addr × Obj)} {σ : L2.St} {H : Hp} {s : Shared}
mutual
theorem Dv.reads (I : Inv X pins σ H s) : ∀ {v : V} {d : PyData} {u : Value}, Dv X.K H v d → RelV v u → ∃ as, Reads s.heap u d as
  | _, _, u, .non, r => by
    cases (show u = Value.none from r)
    exact ⟨_, .none⟩
  | _, _, u, .bl b, r => by
    cases (show u = Value.bool b from r)
    exact ⟨_, .bool b⟩
  | _, _, u, .int i, r => by
    obtain ⟨t, rfl⟩ := (show ∃ t, u = Value.int i t from r)
    exact ⟨_, .int i t⟩
  | _, _, u, .str x, r => by
    obtain ⟨t, rfl⟩ := (show ∃ t, u = Value.str x t from r)
    exact ⟨_, .str x t⟩
  | _, _, u, .list (a := a) h hs, r => by
    cases (show u = Value.ref a from r)
    obtain ⟨its, rv, ⟨o, n, h1, h2, _, h3⟩, _⟩ := I.list h
    obtain ⟨as, q⟩ := hs.reads I rv
    exact ⟨_, .list h1 h2 h3 q⟩
  | _, _, u, .tuple (a := a) h hs, r => by
    cases (show u = Value.ref a from r)
    obtain ⟨its, rv, ⟨o, h1, h2, n, h3⟩, _⟩ := I.tuple h
    obtain ⟨as, q⟩ := hs.reads I rv
    exact ⟨_, .tuple h1 h2 h3 q⟩
theorem Dvs.reads (I : Inv X pins σ H s) : ∀ {xs : List V} {ds : List PyData} {us : List Value}, Dvs X.K H xs ds → Vals xs us → ∃ as, ReadsAll s.heap us ds as
  | _, _, _, .nil, .nil => ⟨_, .nil⟩
  | _, _, _, .cons h hs, .cons r rs => by
    obtain ⟨as, q⟩ := h.reads I r
    obtain ⟨bs, q2⟩ := hs.reads I rs
    exact ⟨_, .cons q q2⟩
end
/-- it may be shown -/
structure Shw (d : PyData) : Prop where
  ok : d.showable = true
  flat : d.hasDict = false
  deep : d.depth ≤ 40
  len : d.shown.length ≤ sizeLine
theorem cr_repr (hg : X.A.guards = some []) (hu : X.A.units + 64 < cLine) : CallR X (.builtin "repr") (fun xs H Q => ∃ a d, xs = [.ref a] ∧ Dv X.K H (.ref a) d ∧ Shw d ∧ Q (.str d.shown) H) := by
  intro pins s σ H xs us Q I r ⟨a, d, ex, h, w, q⟩
  subst ex
  obtain ⟨u, rfl, ru⟩ := vals1 r
  cases (show u = Value.ref a from ru)
  obtain ⟨as, rd⟩ := h.reads I (show RelV (V.ref a) (Value.ref a) from rfl)
  exact repr_of_reads' rd w.ok (PyData.noDict_hsm w.flat) hg (by have := w.deep; omega) (fun _ _ e => e) (fun h' u tk hk => ⟨.str d.shown, H, I.kept (t' := tk) hk, ⟨u, rfl⟩, q⟩) w.len
end
section
variable {X : Cx} {σ : L2.St} {H : Hp} {e : Expr} {pos pn : Pos} {d : PyData}
theorem e_repr (hg : X.A.guards = some []) (hu : X.A.units + 64 < cLine) (hm : X.mg "repr" = none) (h : Cm H (fun v H' => ∃ a, v = .ref a ∧ Dv X.K H' (.ref a) d) (wE X e σ)) (w : Shw d) (hgl : Gl X "repr" := by rfl)
    (hs : starEach [e] X.env = (false, eval e X.env) :: starEach [] X.env := by rfl) : Cm H (is (V.str d.shown)) (wE X (.Call (.Name "repr" pn) [e] [] pos) σ) :=
  e_blt (cr_repr hg hu) hm (a_cons h a_nil hs) (fun vs H1 e1 p => by
    obtain ⟨u, us, rfl, ⟨a, rfl, q⟩, rfl⟩ := p.now
    exact Cm.ret (fun Hc ex Q z => ⟨a, d, rfl, q.ex ex, w, z⟩) (.const rfl)) hgl (hs := hs)
end
/-! ### types -/
theorem ty_sqt {K : PySem.W.Frag} {H : Hp} {a : Addr} {xs : List V} (h : SqT K H a xs) : TyX K H (.ref a) (.type "tuple") := by
  rcases h with (h | ⟨o, h⟩) | ⟨o, its, n, hk, hc, _⟩
  · exact .base (.tup h)
  · exact .fTuple h
  · exact .kTuple hk hc
theorem ty_sql {K : PySem.W.Frag} {H : Hp} {a : Addr} {xs : List V} (h : SqL K H a xs) : TyX K H (.ref a) (.type "list") := by
  rcases h with (h | ⟨o, h⟩) | ⟨o, its, n, hk, hc, _⟩
  · exact .base (.lst h)
  · exact .base (.frz h)
  · exact .kList hk hc
/-! ### how long, how deep -/
structure ShN (n m : Nat) (d : PyData) : Prop where
  ok : d.showable = true
  flat : d.hasDict = false
  deep : d.depth ≤ n
  len : d.shown.length ≤ m
theorem ShN.shw {n m : Nat} {d : PyData} (h : ShN n m d) (hn : n ≤ 40) (hm : m ≤ 16777216) : Shw d := ⟨h.ok, h.flat, Nat.le_trans h.deep hn, Nat.le_trans h.len (Nat.le_trans hm (by decide))⟩
theorem ShN.mono {n n' m m' : Nat} {d : PyData} (h : ShN n m d) (hn : n ≤ n') (hm : m ≤ m') : ShN n' m' d := ⟨h.ok, h.flat, Nat.le_trans h.deep hn, Nat.le_trans h.len hm⟩
theorem shn_str {x : Str} {m : Nat} (h : ∀ c ∈ x.cps.toList, c < 16 ^ 8) (hm : x.length ≤ m) : ShN 0 (10 * m + 2) (.str x) :=
  ⟨by simp only [PyData.showable], by simp only [PyData.hasDict], by simp only [PyData.depth]; exact Nat.le_refl _, by
    rw [PyData.shown_str]
    have := StrLaws.reprText_len x h
    omega⟩
theorem shn_int {i : Int} {k : Nat} (hk : 0 < k) (hk2 : k ≤ 500) (h : i.natAbs < 10 ^ k) : ShN 0 (k + 1) (.int i) := by
  refine ⟨?_, by simp only [PyData.hasDict], by simp only [PyData.depth]; exact Nat.le_refl _, ?_⟩
  · simp only [PyData.showable, decide_eq_true_eq]
    have h2 : i.natAbs < 2 ^ 1920 := Nat.lt_of_lt_of_le h (Nat.le_trans (Nat.pow_le_pow_right (by decide) hk2) (by decide +kernel))
    exact Nat.lt_of_not_le fun q => by
      have hz : i.natAbs ≠ 0 := by
        intro e
        rw [e] at q
        exact absurd q (by decide)
      exact absurd ((Nat.le_log2 hz).mp q) (by omega)
  · rw [PyData.shown_int]
    have e : (((toString i : String)) : Str).length = (toString i).length := by
      exact PySem.ofString_length (toString i)
    rw [e]
    exact int_text_length_le10 hk h
theorem shn_all {n m : Nat} : ∀ {ds : List PyData}, (∀ d ∈ ds, ShN n m d) → PyData.showableAll ds = true ∧ PyData.hasDictAll ds = false ∧ PyData.depthAll ds ≤ n ∧ piled (PyData.shownAll ds) ≤ ds.length * (m + 2)
  | [], _ => by
    simp only [PyData.showableAll, PyData.hasDictAll, PyData.depthAll, PyData.shownAll, piled_nil]
    simp
  | d :: ds, h => by
    have h1 := h d (List.mem_cons_self ..)
    obtain ⟨a, b, c, e⟩ := shn_all (n := n) (m := m) (ds := ds) fun y hy => h y (List.mem_cons_of_mem _ hy)
    simp only [PyData.showableAll, PyData.hasDictAll, PyData.depthAll, PyData.shownAll, piled_cons, h1.ok, h1.flat, a, b, Bool.and_self, Bool.or_self, List.length_cons, Nat.add_mul, Nat.one_mul, Nat.max_le]
    exact ⟨trivial, trivial, ⟨h1.deep, c⟩, by have := h1.len; omega⟩
theorem join_le (ts : List Str) : (Str.join ", " ts).length ≤ piled ts := by
  cases ts with
  | nil => exact Nat.le_of_eq rfl
  | cons t r => have := join_length_add (t :: r) (by simp); omega
theorem shn_list {n m k : Nat} {ds : List PyData} (h : ∀ d ∈ ds, ShN n m d) (hk : ds.length ≤ k) : ShN (n + 1) (k * (m + 2) + 3) (.list ds) := by
  obtain ⟨a, b, c, e⟩ := shn_all h
  have hm := Nat.mul_le_mul_right (m + 2) hk
  refine ⟨by simp only [PyData.showable, a], by simp only [PyData.hasDict, b], by simp only [PyData.depth]; omega, ?_⟩
  rw [PyData.shown_list, strLen_append, strLen_append]
  have j := join_le (PyData.shownAll ds)
  have e1 : ((("[" : String)) : Str).length = 1 := rfl
  have e2 : ((("]" : String)) : Str).length = 1 := rfl
  rw [e1, e2]
  omega
theorem shn_tuple {n m k : Nat} {ds : List PyData} (h : ∀ d ∈ ds, ShN n m d) (hk : ds.length ≤ k) : ShN (n + 1) (k * (m + 2) + 3) (.tuple ds) := by
  obtain ⟨a, b, c, e⟩ := shn_all h
  have hm := Nat.mul_le_mul_right (m + 2) hk
  refine ⟨by simp only [PyData.showable, a], by simp only [PyData.hasDict, b], by simp only [PyData.depth]; omega, ?_⟩
  rw [PyData.shown_tuple, strLen_append, strLen_append]
  have j := join_le (PyData.shownAll ds)
  have e1 : ((("(" : String)) : Str).length = 1 := rfl
  have e2 : (((if ds.length == 1 then ",)" else ")" : String)) : Str).length ≤ 2 := by split <;> decide
  rw [e1]
  omega
end LW
set_option Elab.async false
set_option linter.all false
set_option maxRecDepth 100000
set_option maxHeartbeats 2000000
/-! texts put together, split -/
namespace LW
open PySem L2
section
variable {X : Cx} {σ : St} {H : Hp} {P : V → Hp → Prop} {e o a b c : Expr} {pos apos p1 p2 p3 : Pos} {x y z : Str} {k : Nat}
theorem c_fmt {te : TE} (h : Cm H (is (V.str x)) (te σ)) (hz : x.length ≤ 100000) : Cm H (is (V.str x)) (tFmt te σ) :=
  cm1D (u := fun v H1 (Q : VK) => (∃ y : Str, v = V.str y ∧ y.length ≤ sizeLine ∧ Q (.str y) H1) ∨ ∃ i : Int, v = V.int i ∧ i.natAbs.log2 < 1920 ∧ Q (.str (toString i)) H1) h (Cm.ret (fun _ _ _ q => .inl ⟨x, rfl, Evl.sz_of hz, q⟩) (.const rfl))
theorem str_e (x : Str) : Str.empty ++ x = x := tx_ext (by
  show (Str.empty.cps ++ x.cps).toList = _
  rw [Array.toList_append]
  have e : Str.empty.cps.toList = [] := by decide +kernel
  rw [e] <;> rfl)
theorem len_app (x y : Str) : (x ++ y).length = x.length + y.length := by
  show (x.cps ++ y.cps).size = _
  exact Array.size_append
/-- f'{a} {b}' -/
theorem e_f2 (ha : Cm H (is (V.str x)) (wE X a σ)) (hb : Cm H (is (V.str y)) (wE X b σ)) (hz : x.length ≤ 50 ∧ y.length ≤ 50) : Cm H (is (V.str (txt2 (x, y)))) (wE X (.JoinedStr [.FormattedValue a (-1) none p1, .Constant (.str " ") k p2, .FormattedValue b (-1) none p3] pos) σ) := by
  have l1 : (" " : Str).length = 1 := by decide +kernel
  refine ce (pe_joined (.cons (pe_fmt pe_w) (.cons (pe_w (e := .Constant (.str " ") k p2)) (.cons (pe_fmt pe_w) .nil)))) ?_
  refine cm1D (u := fun (v : V) H1 (Q : VK) => ∃ y' : Str, v = .str y' ∧ (Str.empty ++ y').length ≤ sizeLine ∧ tJs [wE X (.Constant (.str " ") k p2), tFmt (wE X b)] (Str.empty ++ y') σ H1 fun out H1 => Q (.str out) H1) (c_fmt ha (by omega)) ?_
  refine fun Hc ex Q q => ⟨x, rfl, by rw [str_e]; exact Evl.sz_of (by omega), ?_⟩
  rw [str_e]
  refine (e_str (s := " ")) Hc ex _ fun v Hn H2 g p => ⟨" ", p.now, by rw [len_app, l1]; exact Evl.sz_of (by omega), ?_⟩
  refine (c_fmt hb (by omega)).mono g.k H2 g.s _ fun v Hn2 H3 g2 p => ⟨y, p.now, by rw [len_app, len_app, l1]; exact Evl.sz_of (by omega), q _ Hn2 H3 (g.trans g2) (.const rfl)⟩
/-- tuple(t.split(" ")) of such a text -/
theorem e_tsp {pt ps : Pos} {j : Nat} {p : Str × Str} (hm : X.mg "tuple" = none) (ho : Cm H (is (V.str (txt2 p))) (wE X o σ)) (h1 : Nm p.1) (h2 : Nm p.2) (hg : Gl X "tuple" := by rfl)
    (hs : starEach [Expr.Call (.Attribute o "split" apos) [.Constant (.str " ") j ps] [] pos] X.env = (false, eval (.Call (.Attribute o "split" apos) [.Constant (.str " ") j ps] [] pos) X.env) :: starEach [] X.env := by rfl)
    (hs2 : starEach [Expr.Constant (.str " ") j ps] X.env = [(false, eval (Expr.Constant (.str " ") j ps) X.env)] := by rfl) (hbase : attributeBase o "split" X.env (eval o X.env) = eval o X.env := by rfl) (hline : (apos.endLine == pos.line) = true := by rfl) :
    Cm H (pr p) (wE X (.Call (.Name "tuple" pt) [.Call (.Attribute o "split" apos) [.Constant (.str " ") j ps] [] pos] [] p1) σ) := by
  refine e_ty call_tuple_of hm (a_cons (P := fun v H' => ∃ a, v = .ref a ∧ H' a = some (.lst [.str p.1, .str p.2])) (ce (pe_split pe_w pe_w hs2 hbase hline) ?_) a_nil hs) (fun vs H1 e1 z => ?_) hg (hv := by decide +kernel) (hs := hs)
  · refine cm1D (u := fun (v : V) H1 (Q : VK) => (∃ a, v = .str a) ∧ wE X (.Constant (.str " ") j ps) σ H1 fun y H2 => ∃ a b, v = .str a ∧ [y] = [.str b] ∧ (b.length == 0) = false ∧ a.length + 2 ≤ sizeLine ∧ rNewStrs (Txt.split a b) H2 Q) ho ?_
    refine fun Hc ex Q q => ⟨⟨_, rfl⟩, (e_str (s := " ")) Hc ex _ fun v Hn H2 g z => ?_⟩
    have l := txt2_len h1 h2
    refine ⟨_, " ", rfl, by rw [show v = V.str " " from z.now], by decide +kernel, Evl.sz_of (by omega), ?_⟩
    rw [txt2_split h1 h2]
    exact fun d hd => q _ _ _ (g.trans (Grow.new g.s hd)) fun H' e' => ⟨d, rfl, e' _ _ upd_same⟩
  · obtain ⟨u, us, rfl, ⟨d, rfl, hd⟩, rfl⟩ := z.now
    refine fun Hc ex Q q => ⟨d, _, rfl, .inl ⟨SqL.of (ex _ _ hd), fun l hl => q _ _ _ (Grow.new ex hl) fun H' e' => ⟨l, rfl, e' _ _ upd_same⟩⟩⟩
end
/-! what was put together, sorted -/
def untxt (t : Str) : Str × Str := match Txt.split t (" " : Str) with
  | [a, b] => (a, b)
  | _ => (t, t)
theorem untxt_of {p : Str × Str} (h1 : Nm p.1) (h2 : Nm p.2) : untxt (txt2 p) = p := by
  unfold untxt
  rw [txt2_split h1 h2]
theorem sorted_txts {ps : List (Str × Str)} {ys : List Str} (hn : ∀ p ∈ ps, Nm p.1 ∧ Nm p.2) (hp : ys.Perm (ps.map txt2)) (hs : SortN ys) : ∃ qs : List (Str × Str), ys = qs.map txt2 ∧ qs.Perm ps ∧ SortP qs := by
  have e1 : ys = (ys.map untxt).map txt2 := by
    rw [List.map_map]
    refine (List.map_id ys).symm.trans (List.map_congr_left fun y hy => ?_)
    obtain ⟨p, hp1, rfl⟩ := List.mem_map.mp (hp.mem_iff.mp hy)
    show txt2 p = txt2 (untxt (txt2 p))
    rw [untxt_of (hn p hp1).1 (hn p hp1).2]
  have e2 : (ys.map untxt).Perm ps := by
    refine (hp.map untxt).trans ?_
    rw [List.map_map]
    refine List.Perm.of_eq ((List.map_congr_left fun p hp1 => ?_).trans (List.map_id ps))
    exact untxt_of (hn p hp1).1 (hn p hp1).2
  refine ⟨_, e1, e2, ?_⟩
  have z : SortN ((ys.map untxt).map txt2) := e1 ▸ hs
  refine (List.pairwise_map.mp z).imp_of_mem fun {p q} hp1 hq1 h => fun c => h ((lt_txt2 (hn q (e2.mem_iff.mp hq1)).1 (hn p (e2.mem_iff.mp hp1)).1).mpr c)
/-! lists of pairs, one by one -/
theorem ts_get {H : Hp} : ∀ {ts : List Addr} {ps : List (Str × Str)} {i : Nat} {y : V}, TsAt H ts ps → (ts.map V.ref)[i]? = some y → ∃ t p, y = .ref t ∧ ts[i]? = some t ∧ ps[i]? = some p ∧ H t = some (.tup [.str p.1, .str p.2])
  | _, _, _, _, .nil, e => by simp at e
  | _, _, 0, y, .cons (a := t) (b := p) h r, e => ⟨t, p, by simpa using e.symm, rfl, rfl, h⟩
  | _, _, i + 1, y, .cons (a := t) (b := p) h r, e => by
    obtain ⟨t', p', e1, e2, e3, h'⟩ := ts_get (i := i) r (by simpa using e)
    exact ⟨t', p', e1, by simpa using e2, by simpa using e3, h'⟩
theorem ts_snoc {H : Hp} {t : Addr} {p : Str × Str} (h : H t = some (.tup [.str p.1, .str p.2])) : ∀ {ts : List Addr} {ps : List (Str × Str)}, TsAt H ts ps → TsAt H (ts ++ [t]) (ps ++ [p])
  | _, _, .nil => .cons h .nil
  | _, _, .cons a b => .cons a (ts_snoc h b)
theorem take_snoc {α : Type} {l : List α} {i : Nat} {x : α} (h : l[i]? = some x) : l.take (i + 1) = l.take i ++ [x] := by
  rw [List.take_add_one, h] <;> rfl
/-! a list (q) or a tuple, numbered -/
section
variable {X : Cx} {σ : St} {H : Hp} {e t1 t2 : Expr} {xs : List V} {pos p1 p2 p3 px : Pos} {k : Nat} {a : Addr}
theorem i_enumT {es : List Expr} (h : Cm H (fun ws H' => ∃ a, ws = [V.ref a] ∧ SqT X.K H' a xs) (wA X es σ)) : Ci H xs.length (fun i v H' => ∃ T x, v = .ref T ∧ H' T = some (.tup [.int i, x]) ∧ xs[i]? = some x) (iEnumT X.K (wA X es) σ) := fun Hc e R r =>
  h Hc e _ fun v Hn H2 g p => by
    obtain ⟨a, rfl, _⟩ := p.now
    have z : Pz Hn (fun H' => SqT X.K H' a xs) := fun H' e => by obtain ⟨b, q, z⟩ := p H' e; cases q; exact z
    exact ⟨a, xs, rfl, z _ g.s, r _ Hn H2 g (over_enumT z)⟩
theorem i_enumQ {q : Bool} (h : Cm H (fun v H' => ∃ a, v = .ref a ∧ Sq X.K q H' a xs) (wE X e σ)) (hs : starEach [e] X.env = (false, eval e X.env) :: starEach [] X.env := by rfl) :
    Ci H xs.length (fun i v H' => ∃ T x, v = .ref T ∧ H' T = some (.tup [.int i, x]) ∧ xs[i]? = some x) (fun R => fun Q => iEnum X.K (wA X [e]) σ R Q ∨ iEnumT X.K (wA X [e]) σ R Q) := by
  have z : Cm H (fun ws H' => ∃ a, ws = [V.ref a] ∧ Sq X.K q H' a xs) (wA X [e] σ) := (a_cons h a_nil hs).imp fun ws H' _ ⟨u, us, e1, ⟨a, e2, q⟩, e3⟩ => ⟨a, by rw [e1, e2, e3], q⟩
  cases q with
  | true => exact fun Hc ex R r => .inl (i_enum z Hc ex R r)
  | false => exact fun Hc ex R r => .inr (i_enumT z Hc ex R r)
/-- isinstance(x, (list, tuple)) -/
theorem e_isiLT {q : Bool} (hm : X.mg "isinstance" = none) (ml : X.mg "list" = none) (mt : X.mg "tuple" = none) (h : Cm H (is (V.ref a)) (wE X e σ)) (hq : Pz H (fun H' => Sq X.K q H' a xs)) (hg : Gl X "isinstance" := by rfl) (hgl : Gl X "list" := by rfl) (hgt : Gl X "tuple" := by rfl)
    (hs : starEach [e, .Tuple [.Name "list" p1, .Name "tuple" p2] k p3] X.env = (false, eval e X.env) :: starEach [.Tuple [.Name "list" p1, .Name "tuple" p2] k p3] X.env := by rfl)
    (hs2 : starEach [Expr.Tuple [.Name "list" p1, .Name "tuple" p2] k p3] X.env = (false, eval (.Tuple [.Name "list" p1, .Name "tuple" p2] k p3) X.env) :: starEach [] X.env := by rfl)
    (hs3 : starEach [Expr.Name "list" p1, .Name "tuple" p2] X.env = (false, eval (.Name "list" p1) X.env) :: starEach [.Name "tuple" p2] X.env := by rfl) (hs4 : starEach [Expr.Name "tuple" p2] X.env = (false, eval (.Name "tuple" p2) X.env) :: starEach [] X.env := by rfl) :
    Cm H (is (V.bl true)) (wE X (.Call (.Name "isinstance" px) [e, .Tuple [.Name "list" p1, .Name "tuple" p2] k p3] [] pos) σ) := by
  refine e_blt call_isiT hm (a_cons h (a_cons (P := fun v H' => ∃ tp, v = .ref tp ∧ H' tp = some (.tup [.ty "list", .ty "tuple"])) (e_tup (a_consD (e_bltn (v := .ty "list") hgl ml (by decide +kernel) rfl) (a_consD (e_bltn (v := .ty "tuple") hgt mt (by decide +kernel) rfl) a_nil hs4) hs3) (fun xs _ z => by rw [show xs = _ from z]; exact (by decide : 2 ≤ 100000)) fun xs p H1 e1 z hp => ?_) a_nil hs2) hs) (fun vs H1 e1 p => ?_) hg (hv := by decide +kernel) (hs := hs) (hpl := by rw [hs2] <;> rfl)
  · rw [show xs = _ from z.now] at hp
    exact fun H' e' => ⟨p, rfl, e' _ _ hp⟩
  · obtain ⟨u, us, rfl, rfl, v, vs, rfl, ⟨tp, rfl, htp⟩, rfl⟩ := p.now
    refine fun Hc ex Q z => ?_
    have hqc := hq Hc (e1.trans ex)
    cases q with
    | true => exact ⟨_, tp, _, .type "list", [.type "list", .type "tuple"], true, rfl, ex _ _ htp, .cons (.ty _) (.cons (.ty _) .nil), ty_sql hqc, kitAny_cons (b := true) (kit_ty (by decide +kernel)) (fun z => nomatch z) (fun _ => rfl), z _ _ _ (Grow.refl ex) (.const rfl)⟩
    | false => exact ⟨_, tp, _, .type "tuple", [.type "list", .type "tuple"], true, rfl, ex _ _ htp, .cons (.ty _) (.cons (.ty _) .nil), ty_sqt hqc, kitAny_cons (b := false) (kit_ty (by decide +kernel)) (fun _ => kitAny_cons (b := true) (kit_ty (by decide +kernel)) (fun z => nomatch z) (fun _ => rfl)) (fun z => nomatch z), z _ _ _ (Grow.refl ex) (.const rfl)⟩
end
/-! k in d as a test -/
section
variable {X : Cx} {σ : St} {H : Hp} {i o : Expr} {pos : Pos} {y : V} {a : Addr}
theorem t_din {op : Option V} (hu : X.A.units + 1 < cLine) (hi : Cm H (is y) (wE X i σ)) (ho : Cm H (is (V.ref a)) (wE X o σ)) (h : Pz H (fun H' => DGet H' a y op)) (hm : behindInMarks .In o = false := by rfl) : Cm H (is op.isSome) (wT X (.Compare i [.In] [o] pos) σ) :=
  ct (pt_cmp (pc_din hu pe_w pe_w) hm) (cm2D (r := fun y x H2 (Q : Bool → Hp → Prop) => ∃ a o, x = V.ref a ∧ DGet H2 a y o ∧ ∃ k, V.bl o.isSome = V.bl k ∧ Q k H2) hi ho (Cm.ret (fun Hc e _ q => ⟨a, op, rfl, h Hc e, _, rfl, q⟩) (.const rfl)))
theorem t_dnin {op : Option V} (hu : X.A.units + 1 < cLine) (hi : Cm H (is y) (wE X i σ)) (ho : Cm H (is (V.ref a)) (wE X o σ)) (h : Pz H (fun H' => DGet H' a y op)) (hm : behindInMarks .NotIn o = false := by rfl) : Cm H (is (!op.isSome)) (wT X (.Compare i [.NotIn] [o] pos) σ) :=
  ct (pt_cmp (pc_dnotin hu pe_w pe_w) hm) (cm2D (r := fun y x H2 (Q : Bool → Hp → Prop) => ∃ a o, x = V.ref a ∧ DGet H2 a y o ∧ ∃ k, V.bl (!o.isSome) = V.bl k ∧ Q k H2) hi ho (Cm.ret (fun Hc e _ q => ⟨a, op, rfl, h Hc e, _, rfl, q⟩) (.const rfl)))
end
/-! a text in a list or a tuple; x is None -/
theorem inV_txt {z : Str} {xs : List Str} : inV (.str z) (xs.map V.str) = decide (z ∈ xs) := by
  unfold inV
  induction xs with
  | nil => rfl
  | cons y r ih =>
    rw [List.map_cons, List.any_cons, ih]
    show ((y == z) || decide (z ∈ r)) = decide (z ∈ y :: r)
    by_cases e : y = z
    · subst e; simp
    · have e2 : (y == z) = false := by simpa using e
      rw [e2]
      simp [Ne.symm e]
theorem flat_txt (xs : List Str) : (xs.map V.str).all flatV = true := by
  rw [List.all_map, List.all_eq_true]
  exact fun _ _ => rfl
section
variable {X : Cx} {σ : St} {H : Hp} {i o : Expr} {pos p1 : Pos} {a : Addr} {z : Str} {xs : List Str} {v : V} {j : Nat}
theorem r_inS (h : Pz H (fun H' => SqL X.K H' a (xs.map V.str) ∨ SqT X.K H' a (xs.map V.str))) : Cm H (is (V.bl (decide (z ∈ xs)))) (rIn X.K false (.str z) (.ref a)) :=
  Cm.ret (fun Hc ex Q q => ⟨a, _, rfl, h Hc ex, rfl, flat_txt xs, by rw [inV_txt]; exact q⟩) (.const rfl)
theorem r_ninS (h : Pz H (fun H' => SqL X.K H' a (xs.map V.str) ∨ SqT X.K H' a (xs.map V.str))) : Cm H (is (V.bl (!decide (z ∈ xs)))) (rIn X.K true (.str z) (.ref a)) :=
  Cm.ret (fun Hc ex Q q => ⟨a, _, rfl, h Hc ex, rfl, flat_txt xs, by rw [inV_txt]; exact q⟩) (.const rfl)
theorem e_inS (hi : Cm H (is (V.str z)) (wE X i σ)) (ho : Cm H (is (V.ref a)) (wE X o σ)) (h : Pz H (fun H' => SqL X.K H' a (xs.map V.str) ∨ SqT X.K H' a (xs.map V.str))) (hm : behindInMarks .In o = false := by rfl) : Cm H (is (V.bl (decide (z ∈ xs)))) (wE X (.Compare i [.In] [o] pos) σ) :=
  e_cmpD op_in_seq hm hi ho (r_inS h)
theorem t_inS (hi : Cm H (is (V.str z)) (wE X i σ)) (ho : Cm H (is (V.ref a)) (wE X o σ)) (h : Pz H (fun H' => SqL X.K H' a (xs.map V.str) ∨ SqT X.K H' a (xs.map V.str))) (hm : behindInMarks .In o = false := by rfl) : Cm H (is (decide (z ∈ xs))) (wT X (.Compare i [.In] [o] pos) σ) :=
  t_cmpD op_in_seq hm hi ho (r_inS h)
theorem e_isN (h : Cm H (is v) (wE X i σ)) : Cm H (is (V.bl (decide (v = .non)))) (wE X (.Compare i [.Is] [.Constant .none j p1] pos) σ) :=
  ce (pe_cmp (pc_isN pe_w)) (cm1D (u := fun x H1 (Q : VK) => Q (.bl (decide (x = .non))) H1) h (Cm.ret (fun _ _ _ q => q) (.const rfl)))
end
/-! several objects of one's own become known at once -/
theorem Grow.knowL {H Hc H1 Hc1 : Hp} (g : Grow H Hc H1 Hc1) (as : List Addr) (h : ∀ a ∈ as, Hc a = none ∧ H1 a = none ∧ ∃ o, Hc1 a = some o) : ∃ H3, Grow H Hc H3 Hc1 ∧ Ex H1 H3 ∧ ∀ a ∈ as, H3 a = Hc1 a := by
  have out : ∀ a o, H1 a = some o → a ∉ as := fun a o e m => by rw [(h a m).2.1] at e; cases e
  have e3 : Ex H1 (fun a => if a ∈ as then Hc1 a else H1 a) := fun a o e => by
    show (if a ∈ as then _ else _) = _
    rw [if_neg (out a o e)]
    exact e
  refine ⟨fun a => if a ∈ as then Hc1 a else H1 a, ⟨g.k.trans e3, fun a o e => ?_, g.c, fun a o e m n => ?_⟩, e3, fun a m => if_pos m⟩
  · by_cases m : a ∈ as
    · rw [if_pos m] at e; exact e
    · rw [if_neg m] at e; exact g.s a o e
  · show (if a ∈ as then _ else _) = _
    rw [if_neg fun z => by rw [(h a z).1] at e; cases e]
    exact g.f a o e m n
section
variable {X : Cx} {σ : St} {H Hc : Hp} {o i : Expr} {sts : List Stmt} {pos pos' p2 : Pos} {D : Ends} {d : Addr}
/-- d[k] = [], d and the new list to be one's own -/
theorem b_dputL {kvs : List (Key × V)} {key : Key} (ex : Ex H Hc) (hu : X.A.units + 1 < cLine) (ho : Cm H (is (V.ref d)) (wE X o σ)) (hi : Cm H (is (kV key)) (wE X i σ)) (hl : Hc d = some (.dK kvs)) (hz : kvs.length < 100000)
    (h : ∀ p Hn H2, Hc p = none → Grow H (upd Hc p (.lst [])) Hn H2 → wB X sts D σ (upd H2 d (.dK (putK kvs key (.ref p))))) (hs : swapsWith (.List [] p2) (some (.Subscript o i pos')) pos.line X.env = pure false := by rfl) : wB X (.Assign [.Subscript o i pos'] (.List [] p2) pos :: sts) D σ Hc := by
  refine b_cons (w_s (ps_dput hu pe_w pe_w (pe_lst pa_nil) hs) ⟨Nat.zero_le _, fun p hp => ?_⟩)
  refine ho _ (ex.trans (Evl.Ex.new hp)) _ fun u Hm H3 g3 p3 => hi.mono g3.k H3 g3.s _ fun w Hk H4 g4 p4 => ?_
  obtain rfl : u = .ref d := p3.now
  obtain rfl : w = kV key := p4.now
  exact ⟨d, _, rfl, .inl ⟨kvs, key, g4.c _ _ (g3.c _ _ (Evl.Ex.new hp _ _ hl)), rfl, Evl.sz_lt hz, rfl⟩, h p Hk H4 hp (g3.trans g4)⟩
end
theorem txt_get {xs : List Str} {i : Nat} {x : V} (h : (xs.map V.str)[i]? = some x) : ∃ z, xs[i]? = some z ∧ x = V.str z := by
  rw [List.getElem?_map] at h
  cases e : xs[i]? with
  | none => rw [e] at h; cases h
  | some z => rw [e] at h; exact ⟨z, rfl, (Option.some.inj h).symm⟩
end LW
set_option Elab.async false
set_option linter.all false
set_option maxRecDepth 100000
set_option maxHeartbeats 2000000
/-! instances made: an __init__ by its body, stores to fields of one's own -/
namespace LW
open PySem L2
/-- what is to be shown of an __init__'s body -/
def BodyI {α : Type} (P : Program) (w : World) (K : PySem.W.Frag) (mg : Str → Option Value) (base : Heap) (C : Addr) (N : List Str) (qual : Str) (st : Stmt) (f : Addr) (k : Nat) (A : α → List V → Hp → Prop) (R : α → V → Hp → Prop) : Prop :=
  ∀ (cdv : Value) (Ar : Around) (outer : List Env) (s : Shared) (H0 : Hp) (E : XK) (x : α) (ws : List V) (H Hc : Hp) (p dx : Addr) (D : Ends), Room k (fx P w K mg base N qual st f cdv Ar outer s H0 E).A → Ex H Hc → Hc p = some (.ins C dx []) → H p = none → Pz H (A x ws) →
    (∀ σ Hn H2, Grow H (off Hc p) Hn H2 → Pz Hn (R x (.ref p)) → D.nx σ H2) →
    wB (fx P w K mg base N qual st f cdv Ar outer s H0 E) (defBody st) D (L2.start N (.ref p :: ws)) Hc
/-- the rule of a def, however its defaults stand -/
def DefOk (P : Program) (w : World) (K : PySem.W.Frag) (mg : Str → Option Value) (base : Heap) (N : List Str) (qual : Str) (st : Stmt) (f : Addr) (fd : FuncData) (ps : List Str) (k : Nat) : Prop :=
  ∀ sp : Sp, (∀ vs H Q E, sp vs H Q E → vs.length = ps.length) → (∀ (cdv : Value) (A : Around) (outer : List Env) (s : Shared) (H : Hp) (vs : List V) (Q : VK) (E : XK), Room k (A.deeper (PyProof.Rows.envOfC qual (defScope st) s.heap.objs.size f cdv)) → sp vs H Q E →
    ∃ t, PSs (cxOf CX0 P w K mg base N qual (defScope st) f cdv A outer s H E).nox (defBody st) t ∧ t { nx := fun _ H' => Q .non H', rt := Q } (L2.start N vs) H) → FnOk P w K mg base CX0 (k + 1) f fd ps sp
section
variable {α : Type} {P : Program} {w : World} {K : PySem.W.Frag} {mg : Str → Option Value} {base : Heap} {x qual : Str} {st : Stmt} {f C : Addr} {fd : FuncData} {N ps : List Str} {k : Nat} {A : α → List V → Hp → Prop} {R : α → V → Hp → Prop}
theorem init_of (F : DefOk P w K mg base N qual st f fd ps k) (hb : Binds K fd ps []) (len : ∀ a ws H, A a ws H → ws.length + 1 = ps.length) (b : BodyI P w K mg base C N qual st f k A R) : FnR P w K mg base CX0 (k + 1) f (SpI C A R) := by
  have G : FnOk P w K mg base CX0 (k + 1) f fd ps (SpI C A R) := F _ (fun vs H Q E h => by
    obtain ⟨a, H1, Hb, p, dx, ws, e, _, _, _, _, _, h, _⟩ := h
    rw [e]
    exact len a ws H1 h.now) fun cdv Ar outer s H vs Q E hr h => by
    obtain ⟨a, H1, Hb, p, dx, ws, e, ex, hp, hdx, ne, eH, h, q⟩ := h
    subst e eH
    have hdH : H1 dx = none := Evl.fresh_back ex hdx
    have hpH : H1 p = none := Evl.fresh_back ex hp
    have n1 : upd H1 dx (.own p) p = none := by rw [upd_ne ne.symm]; exact hpH
    have n2 : upd Hb dx (.own p) p = none := by rw [upd_ne ne.symm]; exact hp
    have g0 := Grow.new (o := .own p) ex hdx
    refine ⟨_, pss_w, b cdv Ar outer s _ E a ws (upd H1 dx (.own p)) _ p dx _ hr (g0.s.trans (Evl.Ex.new n2)) upd_same n1 (h.mono g0.k) fun σ Hn H2 g r => q Hn H2 ⟨g0.k.trans g.k, g.s, fun a u z => ?_, fun a u z m n => ?_⟩ r⟩
    · have y : a ≠ p := fun y => by rw [y, hp] at z; cases z
      exact g.c a u (by rw [off_ne y, upd_ne y]; exact g0.c a u z)
    · have y : a ≠ p := fun y => by rw [y, hp] at z; cases z
      exact g.f a u (by rw [off_ne y, upd_ne y]; exact g0.c a u z) m (by rw [upd_ne (fun e => by rw [e, hdx] at z; cases z)]; exact n)
  exact (G.raw hb .nil).imp fun vs H Q E h => by
    rw [List.append_nil]
    exact h
end
section
variable {X : Cx} {σ : St} {H Hc : Hp} {P : V → Hp → Prop} {o value : Expr} {sts : List Stmt} {pos pos' : Pos} {D : Ends} {p C dx : Addr} {fs : List (Str × V)} {f : Str}
/-- o.f = value, o an instance of one's own -/
theorem b_fld (c : Cls X.K C) (n : NoAttr X.K C f) (ex : Ex H Hc) (hv : Cm H P (wE X value σ)) (ho : Cm H (is (V.ref p)) (wE X o σ)) (hl : Hc p = some (.ins C dx fs)) (hz : fs.length < 1000) (h : ∀ v Hn H2, Grow H Hc Hn H2 → Pz Hn (P v) → wB X sts D σ (upd H2 p (.ins C dx (putF f v fs))))
    (hs : swapsWith value (some (.Attribute o f pos')) pos.line X.env = pure false := by rfl) : wB X (.Assign [.Attribute o f pos'] value pos :: sts) D σ Hc := by
  refine b_cons (w_s (ps_fld pe_w pe_w hs) (hv Hc ex _ fun v Hn H2 g q => ho.mono g.k H2 g.s _ fun u Hm H3 g3 q3 => ?_))
  obtain rfl : u = .ref p := q3.now
  exact ⟨p, C, dx, fs, rfl, g3.c _ _ (g.c _ _ hl), c, n, hz, h v Hm H3 (g.trans g3) (q.mono g3.k)⟩
end
/-! behind a look at an own object at p: what else has become known -/
theorem Grow.lookedK {H B H6 X H7 Hc7 : Hp} {p : Addr} {o : HO} (g : Grow H B H6 X) (n : H6 p = none) (g7 : Grow (upd H6 p o) X H7 Hc7) : Grow H B (off H7 p) Hc7 := by
  refine ⟨fun a u e => ?_, fun a u e => g7.s a u (off_some e).2, g.c.trans g7.c, fun a u e m z => ?_⟩
  · have ne : a ≠ p := fun q => by rw [q, Evl.fresh_back g.k n] at e; cases e
    rw [off_ne ne]
    exact g7.k a u (by rw [upd_ne ne]; exact g.k a u e)
  · by_cases q : a = p
    · rw [q]; exact off_at
    · rw [off_ne q]
      exact g7.f a u (g.c a u e) m (by rw [upd_ne q]; exact g.f a u e m z)
theorem off_keep {H7 : Hp} {p z : Addr} {o o' o2 : HO} (hp : H7 p = some o) (h : H7 z = some o') (ne : o ≠ o') : upd (off H7 p) p o2 z = some o' := by
  have q : z ≠ p := fun q => by
    rw [q, hp] at h
    exact ne (Option.some.inj h)
  rw [upd_ne q, off_ne q]
  exact h
/-- list(xs) of a list or a tuple that is known -/
theorem e_listOf {X : Cx} {σ : St} {H : Hp} {e : Expr} {a : Addr} {xs : List V} {px pos : Pos} (hm : X.mg "list" = none) (ho : Cm H (is (V.ref a)) (wE X e σ)) (h : Pz H (fun H' => SqL X.K H' a xs ∨ SqT X.K H' a xs)) (hg : Gl X "list" := by rfl)
    (hs : starEach [e] X.env = (false, eval e X.env) :: starEach [] X.env := by rfl) : Cm H (fun v H' => ∃ b, v = .ref b ∧ H' b = some (.lst xs)) (wE X (.Call (.Name "list" px) [e] [] pos) σ) :=
  e_tyD call_list_of hm (a_consD ho a_nil hs) (fun Hc ex Q q => ⟨a, xs, rfl, h Hc ex, fun l hl => q _ _ _ (Grow.new ex hl) fun H' e' => ⟨l, rfl, e' _ _ upd_same⟩⟩) hg (hv := by decide +kernel) (hs := hs)
/-! ### operators by the class's own methods -/
/-- the operator's method m of the class at C keeps its promise -/
structure Opx {α : Type} (P : Program) (w : World) (K : PySem.W.Frag) (mg : Str → Option Value) (base : Heap) (C : Addr) (m : Str) (k : Nat) (A : α → List V → Hp → Prop) (R : α → V → Hp → Prop) : Prop where
  ex : ∃ f : Addr, HasOp K C m f ∧ FnR P w K mg base CX0 k f (SpF A R)
section
variable {α : Type} {A : α → List V → Hp → Prop} {R : α → V → Hp → Prop} {X : Cx} {σ : St} {H : Hp} {P : V → Hp → Prop} {k : Nat} {C a b dx dy : Addr} {fs gs : List (Str × V)} {i o : Expr} {pos px : Pos} {x : V} {y : α} {c : Bool} {n : Int}
theorem r_ownIn (neg : Bool) (hi : Pz H (fun H' => H' a = some (.ins C dx fs))) (hp : Pz H (A y [.ref a, x])) (hR : ∀ v H', R y v H' → v = .bl c) : Cm H (is (V.bl (if neg then !c else c))) (rOwnIn neg C (SpF A R) E0 x (.ref a)) :=
  fun Hc ex Q q => ⟨a, dx, fs, rfl, hi Hc ex, y, H, ex, hp, fun v Hn H2 g r => ⟨c, hR v Hn r.now, q _ Hn H2 g (.const rfl)⟩⟩
theorem t_in (F : Opx X.prog X.w X.K X.mg X.base C "__contains__" k A R) (hr : Room k X.A) (hx : Cm H (is x) (wE X i σ)) (ho : Cm H (is (V.ref a)) (wE X o σ)) (hi : Pz H (fun H' => H' a = some (.ins C dx fs))) (hp : Pz H (A y [.ref a, x])) (hR : ∀ v H', R y v H' → v = .bl c) (hm : behindInMarks .In o = false := by rfl) :
    Cm H (is c) (wT X (.Compare i [.In] [o] pos) σ) := by
  obtain ⟨f, h, G⟩ := F.ex
  exact t_cmpD (op_ownIn h G hr pass0) hm hx ho (r_ownIn false hi hp hR)
theorem t_nin (F : Opx X.prog X.w X.K X.mg X.base C "__contains__" k A R) (hr : Room k X.A) (hx : Cm H (is x) (wE X i σ)) (ho : Cm H (is (V.ref a)) (wE X o σ)) (hi : Pz H (fun H' => H' a = some (.ins C dx fs))) (hp : Pz H (A y [.ref a, x])) (hR : ∀ v H', R y v H' → v = .bl c) (hm : behindInMarks .NotIn o = false := by rfl) :
    Cm H (is (!c)) (wT X (.Compare i [.NotIn] [o] pos) σ) := by
  obtain ⟨f, h, G⟩ := F.ex
  exact t_cmpD (op_ownNotIn h G hr pass0) hm hx ho (r_ownIn true hi hp hR)
theorem r_ownEq (neg : Bool) (hi : Pz H (fun H' => H' a = some (.ins C dx fs))) (hj : Pz H (fun H' => H' b = some (.ins C dy gs))) (hp : Pz H (A y [.ref a, .ref b])) (hR : ∀ v H', R y v H' → v = .bl c) : Cm H (is (V.bl (if neg then !c else c))) (rOwnEq neg C (SpF A R) E0 (.ref a) (.ref b)) :=
  fun Hc ex Q q => ⟨a, dx, fs, b, dy, gs, rfl, hi Hc ex, rfl, hj Hc ex, y, H, ex, hp, fun v Hn H2 g r => ⟨c, hR v Hn r.now, q _ Hn H2 g (.const rfl)⟩⟩
theorem e_eqO (F : Opx X.prog X.w X.K X.mg X.base C "__eq__" k A R) (hr : Room k X.A) (hx : Cm H (is (V.ref a)) (wE X i σ)) (ho : Cm H (is (V.ref b)) (wE X o σ)) (hi : Pz H (fun H' => H' a = some (.ins C dx fs))) (hj : Pz H (fun H' => H' b = some (.ins C dy gs))) (hp : Pz H (A y [.ref a, .ref b]))
    (hR : ∀ v H', R y v H' → v = .bl c) (hm : behindInMarks .Eq o = false := by rfl) : Cm H (is (V.bl c)) (wE X (.Compare i [.Eq] [o] pos) σ) := by
  obtain ⟨f, h, G⟩ := F.ex
  exact e_cmpD (op_ownEq h G hr pass0) hm hx ho (r_ownEq false hi hj hp hR)
theorem t_neO (F : Opx X.prog X.w X.K X.mg X.base C "__eq__" k A R) (nb : NeBy X.K C) (hr : Room (k + 1) X.A) (hx : Cm H (is (V.ref a)) (wE X i σ)) (ho : Cm H (is (V.ref b)) (wE X o σ)) (hi : Pz H (fun H' => H' a = some (.ins C dx fs))) (hj : Pz H (fun H' => H' b = some (.ins C dy gs))) (hp : Pz H (A y [.ref a, .ref b]))
    (hR : ∀ v H', R y v H' → v = .bl c) (hm : behindInMarks .NotEq o = false := by rfl) : Cm H (is (!c)) (wT X (.Compare i [.NotEq] [o] pos) σ) := by
  obtain ⟨f, h, G⟩ := F.ex
  exact t_cmpD (op_ownNe h nb G hr pass0) hm hx ho (r_ownEq true hi hj hp hR)
theorem e_lenO (F : Opx X.prog X.w X.K X.mg X.base C "__len__" k A R) (hr : Room (k + 1) X.A) (hm : X.mg "len" = none) (ho : Cm H (is (V.ref a)) (wE X o σ)) (hi : Pz H (fun H' => H' a = some (.ins C dx fs))) (hp : Pz H (A y [.ref a])) (hR : ∀ v H', R y v H' → v = .int n) (h0 : 0 ≤ n ∧ n < 1000000) (hg : Gl X "len" := by rfl)
    (hs : starEach [o] X.env = (false, eval o X.env) :: starEach [] X.env := by rfl) : Cm H (is (V.int n)) (wE X (.Call (.Name "len" px) [o] [] pos) σ) := by
  obtain ⟨f, h, G⟩ := F.ex
  exact e_bltD (call_ownLen h G hr pass0) hm (a_consD ho a_nil hs) (fun Hc ex Q q => ⟨a, dx, fs, rfl, hi Hc ex, y, H, ex, hp, fun v Hn H2 g r => ⟨n, hR v Hn r.now, h0.1, by omega, q _ Hn H2 g (.const rfl)⟩⟩) hg boot_len (by decide) (by decide) hs rfl
end
end LW
set_option Elab.async false
set_option linter.all false
set_option maxRecDepth 100000
set_option maxHeartbeats 2000000
/-! == of lists of texts, of lists of pairs -/
namespace LW
open PySem L2
theorem eqv_txts : ∀ xs ys : List Str, PyData.eqvAll (xs.map PyData.str) (ys.map PyData.str) = decide (xs = ys)
  | [], [] => by simp [PyData.eqvAll]
  | [], _ :: _ => by simp [PyData.eqvAll]
  | _ :: _, [] => by simp [PyData.eqvAll]
  | x :: xs, y :: ys => by
    rw [List.map_cons, List.map_cons, PyData.eqvAll, eqv_txts xs ys, PyData.eqv]
    by_cases h : x = y
    · subst h; simp
    · have : (x == y) = false := by simpa using h
      rw [this]
      simp [h]
def dPr (p : Str × Str) : PyData := .tuple [.str p.1, .str p.2]
theorem eqv_prs : ∀ ps qs : List (Str × Str), PyData.eqvAll (ps.map dPr) (qs.map dPr) = decide (ps = qs)
  | [], [] => by simp [PyData.eqvAll]
  | [], _ :: _ => by simp [PyData.eqvAll]
  | _ :: _, [] => by simp [PyData.eqvAll]
  | p :: ps, q :: qs => by
    rw [List.map_cons, List.map_cons, PyData.eqvAll, eqv_prs ps qs]
    have e : PyData.eqv (dPr p) (dPr q) = decide (p = q) := by
      unfold dPr
      rw [PyData.eqv, PyData.eqvAll, PyData.eqvAll, PyData.eqvAll, PyData.eqv, PyData.eqv, Bool.and_true]
      by_cases h : p = q
      · subst h; simp
      · rw [decide_eq_false h]
        by_cases h1 : p.1 = q.1
        · have h2 : ¬ p.2 = q.2 := fun z => h (Prod.ext h1 z)
          have : (p.2 == q.2) = false := by simpa using h2
          rw [this, Bool.and_false]
        · have : (p.1 == q.1) = false := by simpa using h1
          rw [this, Bool.false_and]
    rw [e]
    by_cases h : p = q
    · subst h; simp
    · simp [h]
theorem dp_txts {K : PySem.W.Frag} {H : Hp} : ∀ xs : List Str, DpAll K H (xs.map V.str) (xs.map PyData.str)
  | [] => .nil
  | x :: xs => .cons (.str x) (dp_txts xs)
theorem dp_prs {K : PySem.W.Frag} {H : Hp} : ∀ {ts : List Addr} {ps : List (Str × Str)}, TsAt H ts ps → DpAll K H (ts.map V.ref) (ps.map dPr)
  | _, _, .nil => .nil
  | _, _, .cons h r => .cons (.tup (SqT.of h) (.cons (.str _) (.cons (.str _) .nil))) (dp_prs r)
theorem ok_nm {x : Str} (h : Nm x) : PyData.strOk x = true := by
  unfold PyData.strOk
  rw [← Array.all_toList, List.all_eq_true]
  intro c hc
  have := h.2.2 c hc
  exact decide_eq_true (by omega)
theorem lay_all {ds : List PyData} (h : ∀ d ∈ ds, d.canLay0 = true ∧ d.depth ≤ 1) : PyData.canLayAll0 ds = true ∧ PyData.depthAll ds ≤ 1 := by
  induction ds with
  | nil => exact ⟨by rw [PyData.canLayAll0], by rw [PyData.depthAll]; exact Nat.zero_le _⟩
  | cons d r ih =>
    obtain ⟨a, b⟩ := ih fun y hy => h y (List.mem_cons_of_mem _ hy)
    obtain ⟨c, e⟩ := h d (List.mem_cons_self ..)
    exact ⟨by rw [PyData.canLayAll0, a, c] <;> rfl, by rw [PyData.depthAll]; exact Nat.max_le.mpr ⟨e, b⟩⟩
theorem sh_list {ds : List PyData} (h : ∀ d ∈ ds, d.canLay0 = true ∧ d.depth ≤ 1) : SeqAt.shaped (.list ds) = true := by
  obtain ⟨a, b⟩ := lay_all h
  unfold SeqAt.shaped
  rw [PyData.canLay0, a, Bool.true_and, PyData.depth]
  exact decide_eq_true (by omega)
theorem sh_txts {xs : List Str} (h : ∀ x ∈ xs, Nm x) : SeqAt.shaped (.list (xs.map PyData.str)) = true := sh_list fun d hd => by
  obtain ⟨x, hx, rfl⟩ := List.mem_map.mp hd
  exact ⟨by rw [PyData.canLay0]; exact ok_nm (h x hx), by rw [PyData.depth]; exact Nat.zero_le _⟩
theorem sh_prs {ps : List (Str × Str)} (h : ∀ p ∈ ps, Nm p.1 ∧ Nm p.2) : SeqAt.shaped (.list (ps.map dPr)) = true := sh_list fun d hd => by
  obtain ⟨p, hp, rfl⟩ := List.mem_map.mp hd
  unfold dPr
  refine ⟨?_, ?_⟩
  · rw [PyData.canLay0, PyData.canLayAll0, PyData.canLayAll0, PyData.canLayAll0, PyData.canLay0, PyData.canLay0, ok_nm (h p hp).1, ok_nm (h p hp).2] <;> rfl
  · rw [PyData.depth, PyData.depthAll, PyData.depthAll, PyData.depthAll, PyData.depth, PyData.depth]
    exact Nat.le_refl _
section
variable {X : Cx} {σ : St} {H : Hp} {i o : Expr} {pos : Pos} {a b : Addr} {xs ys : List Str} {ts us : List Addr} {ps qs : List (Str × Str)}
theorem e_eqTxts (hu : X.A.units + 64 < cLine) (hi : Cm H (is (V.ref a)) (wE X i σ)) (ho : Cm H (is (V.ref b)) (wE X o σ)) (h1 : Pz H (fun H' => SqL X.K H' a (xs.map V.str))) (h2 : Pz H (fun H' => SqL X.K H' b (ys.map V.str))) (n1 : ∀ x ∈ xs, Nm x) (n2 : ∀ x ∈ ys, Nm x)
    (hm : behindInMarks .Eq o = false := by rfl) : Cm H (is (V.bl (decide (xs = ys)))) (wE X (.Compare i [.Eq] [o] pos) σ) :=
  e_cmpD (op_eqD hu) hm hi ho (Cm.ret (fun Hc ex Q q => ⟨_, _, .lst (h1 Hc ex) (dp_txts xs), .lst (h2 Hc ex) (dp_txts ys), sh_txts n1, sh_txts n2, by rw [PyData.eqv, eqv_txts]; exact q⟩) (.const rfl))
theorem e_eqPrs (hu : X.A.units + 64 < cLine) (hi : Cm H (is (V.ref a)) (wE X i σ)) (ho : Cm H (is (V.ref b)) (wE X o σ)) (h1 : Pz H (fun H' => SqL X.K H' a (ts.map V.ref) ∧ TsAt H' ts ps)) (h2 : Pz H (fun H' => SqL X.K H' b (us.map V.ref) ∧ TsAt H' us qs)) (n1 : ∀ p ∈ ps, Nm p.1 ∧ Nm p.2) (n2 : ∀ p ∈ qs, Nm p.1 ∧ Nm p.2)
    (hm : behindInMarks .Eq o = false := by rfl) : Cm H (is (V.bl (decide (ps = qs)))) (wE X (.Compare i [.Eq] [o] pos) σ) :=
  e_cmpD (op_eqD hu) hm hi ho (Cm.ret (fun Hc ex Q q => ⟨_, _, .lst (h1 Hc ex).1 (dp_prs (h1 Hc ex).2), .lst (h2 Hc ex).1 (dp_prs (h2 Hc ex).2), sh_prs n1, sh_prs n2, by rw [PyData.eqv, eqv_prs]; exact q⟩) (.const rfl))
end
theorem eqv_pr (p q : Str × Str) : PyData.eqv (dPr p) (dPr q) = decide (p = q) := by
  have z : PyData.eqvAll [dPr p] [dPr q] = decide ([p] = [q]) := eqv_prs [p] [q]
  rw [PyData.eqvAll, PyData.eqvAll, Bool.and_true] at z
  rw [z]
  by_cases h : p = q
  · subst h; simp
  · simp [h]
theorem any_pr {ps : List (Str × Str)} {p : Str × Str} : ((ps.map dPr).any fun z => PyData.eqv z (dPr p)) = decide (p ∈ ps) := by
  induction ps with
  | nil => rfl
  | cons q r ih =>
    rw [List.map_cons, List.any_cons, ih, eqv_pr]
    by_cases h : q = p
    · subst h; simp
    · have h2 : ¬ p = q := fun e => h e.symm
      simp [h, h2]
theorem sh_pr {p : Str × Str} (h1 : Nm p.1) (h2 : Nm p.2) : SeqAt.shaped (dPr p) = true := by
  unfold SeqAt.shaped dPr
  rw [PyData.canLay0, PyData.canLayAll0, PyData.canLayAll0, PyData.canLayAll0, PyData.canLay0, PyData.canLay0, ok_nm h1, ok_nm h2, PyData.depth, PyData.depthAll, PyData.depthAll, PyData.depthAll, PyData.depth, PyData.depth] <;> rfl
end LW
set_option Elab.async false
set_option linter.all false
set_option maxRecDepth 100000
set_option maxHeartbeats 2000000
/-! defs with *args -/
namespace LW
open PySem L2
/-- n arguments, what is left over in a new tuple -/
def StarSp (n : Nat) (sp : Sp) : Sp := fun vs H Q E => ∃ ws rest, vs = ws ++ rest ∧ ws.length = n ∧ rest.length ≤ sizeLine ∧ ∀ p, H p = none → sp (ws ++ [V.ref p]) (upd H p (.tup rest)) Q E
/-- the rule of such a def -/
def StarOk (P : Program) (w : World) (K : PySem.W.Frag) (mg : Str → Option Value) (base : Heap) (N : List Str) (qual : Str) (st : Stmt) (f : Addr) (n k : Nat) : Prop :=
  ∀ sp : Sp, (∀ (cdv : Value) (A : Around) (outer : List Env) (s : Shared) (H : Hp) (vs : List V) (Q : VK) (E : XK), Room k (A.deeper (PyProof.Rows.envOfC qual (defScope st) s.heap.objs.size f cdv)) → sp vs H Q E →
    ∃ t, PSs (cxOf CX0 P w K mg base N qual (defScope st) f cdv A outer s H E).nox (defBody st) t ∧ t { nx := fun _ H' => Q .non H', rt := Q } (L2.start N vs) H) → FnR P w K mg base CX0 (k + 1) f (StarSp n sp)
section
variable {α : Type} {P : Program} {w : World} {K : PySem.W.Frag} {mg : Str → Option Value} {base : Heap} {qual : Str} {st : Stmt} {f : Addr} {N : List Str} {n k : Nat} {A : α → List V → Hp → Prop} {R : α → V → Hp → Prop} {H1 : Hp} {ws rest : List V}
theorem star_of (F : StarOk P w K mg base N qual st f n k) (b : Body P w K mg base N qual st f k A R) : FnR P w K mg base CX0 (k + 1) f (StarSp n (SpF A R)) :=
  F _ fun cdv Ar outer s H vs Q E hr h => by
    obtain ⟨a, H1, e, p, q⟩ := h
    exact ⟨_, pss_w, b cdv Ar outer s H E a vs H1 H _ hr e p (fun v Hn H2 g r => q v Hn H2 g r) fun _ Hn H2 g r => q .non Hn H2 g r⟩
theorem c_star (x : α) (hw : ws.length = n) (hz : rest.length ≤ 100000) (h : ∀ p H2, Ex H1 H2 → H2 p = some (.tup rest) → Pz H2 (A x (ws ++ [.ref p]))) : Cm H1 (R x) (fun Hc Q => StarSp n (SpF A R) (ws ++ rest) Hc Q E0) :=
  fun Hc ex Q q => ⟨ws, rest, rfl, hw, Evl.sz_of hz, fun p hp => ⟨x, upd H1 p (.tup rest), (Grow.new ex hp).s, h p _ (Ex.put (Evl.fresh_back ex hp)) upd_same, fun v Hn H2 g r => q v Hn H2 ((Grow.new ex hp).trans g) r⟩⟩
end
/-! *xs among arguments or items -/
section
variable {X : Cx} {σ : St} {H : Hp} {e : Expr} {es : List Expr} {p1 pos : Pos} {Pa : List V → Hp → Prop} {G : List V → Hp → Prop}
/-- what is starred: a list or a tuple of which G holds -/
theorem a_star (he : Cm H (fun v H' => ∃ a xs, v = .ref a ∧ Pz H' (fun H2 => SqT X.K H2 a xs ∨ SqL X.K H2 a xs) ∧ Pz H' (G xs)) (wE X e σ)) (hr : Cm H Pa (wA X es σ)) (hs : starEach (.Starred e p1 :: es) X.env = (true, eval e X.env) :: starEach es X.env := by rfl) :
    Cm H (fun ws H' => ∃ xs us, ws = xs ++ us ∧ G xs H' ∧ Pa us H') (wA X (.Starred e p1 :: es) σ) := by
  refine ca (StX.pa_star pe_w pa_w hs) fun Hc ex Q q => ?_
  refine he Hc ex _ fun v Hn H2 g pv => ?_
  obtain ⟨a, xs, rfl, e2, e3⟩ := pv.now
  refine ⟨a, xs, rfl, e2 H2 g.s, hr.mono g.k H2 g.s _ fun us Hm H3 g3 pu => q _ Hm H3 (g.trans g3) fun H' e' => ⟨xs, us, rfl, e3 H' (g3.k.trans e'), pu H' e'⟩⟩
theorem atI_neg1 {α : Type} {xs : List α} {x : α} (h : xs[xs.length - 1]? = some x) : atI xs (-1) = some x := by
  have hl := (List.getElem?_eq_some_iff.mp h).1
  unfold atI ixN
  rw [if_neg (by decide), if_pos (by omega)]
  show xs[(-1 + (xs.length : Int)).toNat]? = some x
  rw [show (-1 + (xs.length : Int)).toNat = xs.length - 1 by omega]
  exact h
end
theorem paired_swap {α β : Type} {F : α → β → Prop} : ∀ {l : List α} {r : List β}, Paired F l r → Paired (fun b a => F a b) r l
  | _, _, .nil => .nil
  | _, _, .cons h t => .cons h (paired_swap t)
/-- sorted(pairs) -/
theorem e_sortedPS {X : Cx} {σ : St} {H : Hp} {e : Expr} {a : Addr} {ts : List Addr} {ps qs : List (Str × Str)} {px pos : Pos} (hm : X.mg "sorted" = none) (ho : Cm H (is (V.ref a)) (wE X e σ)) (h : Pz H (fun H' => SqL X.K H' a (ts.map V.ref) ∧ TsAt H' ts ps)) (hp : qs.Perm ps) (hs : SortP qs)
    (hg : Gl X "sorted" := by rfl) (hst : starEach [e] X.env = (false, eval e X.env) :: starEach [] X.env := by rfl) : Cm H (fun v H' => ∃ d us, v = .ref d ∧ H' d = some (.lst (us.map V.ref)) ∧ TsAt H' us qs) (wE X (.Call (.Name "sorted" px) [e] [] pos) σ) :=
  e_bltD cr_sortedPS hm (a_consD ho a_nil hst) (fun Hc ex Q q => ⟨a, ts, ps, rfl, (h Hc ex).1, (h Hc ex).2, fun ts' ps' d ht hp2 hs2 hd => by
    obtain rfl : ps' = qs := sortP_uniq hs2 hs (hp2.trans hp.symm)
    have z := paired_swap (paired_ex (Evl.Ex.new (o := .lst (ts'.map V.ref)) hd) ht)
    obtain ⟨H3, g3, e3, y⟩ := (Grow.new (o := .lst (ts'.map V.ref)) ex hd).knowTs (f := fun p : Str × Str => [V.str p.1, V.str p.2]) z
    exact q _ H3 _ g3 fun H' e' => ⟨d, ts', rfl, e' _ _ (e3 _ _ upd_same), paired_ex e' (paired_swap y)⟩⟩) hg (hv := by decide +kernel) (hs := hst)
theorem e_sortedS {X : Cx} {σ : St} {H : Hp} {e : Expr} {a : Addr} {xs ys : List Str} {px pos : Pos} (hm : X.mg "sorted" = none) (ho : Cm H (is (V.ref a)) (wE X e σ)) (h : Pz H (fun H' => SqL X.K H' a (xs.map V.str))) (hz : xs.length < 64) (hp : ys.Perm xs) (hs : SortN ys)
    (hg : Gl X "sorted" := by rfl) (hst : starEach [e] X.env = (false, eval e X.env) :: starEach [] X.env := by rfl) : Cm H (fun v H' => ∃ d, v = .ref d ∧ H' d = some (.lst (ys.map V.str))) (wE X (.Call (.Name "sorted" px) [e] [] pos) σ) :=
  e_bltD cr_sortedS hm (a_consD ho a_nil hst) (fun Hc ex Q q => ⟨a, xs, rfl, h Hc ex, hz, fun zs d hp2 hs2 hd => by
    obtain rfl : zs = ys := sortN_uniq (sortN_of hs2) hs (hp2.trans hp.symm)
    exact q _ _ _ (Grow.new ex hd) fun H' e' => ⟨d, rfl, e' _ _ upd_same⟩⟩) hg (hv := by decide +kernel) (hs := hst)
end LW
set_option Elab.async false
set_option linter.all false
set_option maxRecDepth 100000
set_option maxHeartbeats 2000000
/-! comprehensions of two for -/
namespace LW
open PySem L2
/-- one row of such a comprehension: the inner walk, its turns -/
def Lc2Row (g g1 : TG) (wi1 : TI) (te : TE) (vs vs1 : List Nat) (σ : St) (n1 : Nat) (A : Nat → List V → Hp → Prop) (x : V) (H1 : Hp) : Prop :=
  ∃ (σ' : St) (Y1 : Nat → V → Hp → Prop), Bind g x (wipe σ vs) H1 σ' ∧ wipe σ' vs = wipe σ vs ∧ Ci H1 n1 Y1 (wi1 σ') ∧ ∀ j y acc H2, j < n1 → Ex H1 H2 → Pz H2 (Y1 j y) → Pz H2 (A j acc) →
    ∃ σ'' : St, Bind g1 y (wipe σ' vs1) H2 σ'' ∧ wipe σ'' vs1 = wipe σ' vs1 ∧ Cm H2 (fun z H' => A (j + 1) (acc ++ [z]) H') (te σ'')
theorem c_lc2 {wi wi1 : TI} {g g1 : TG} {te : TE} {vs vs1 : List Nat} {σ : St} {H : Hp} {n : Nat} {Y : Nat → V → Hp → Prop} {P : V → Hp → Prop} (hci : Ci H n Y (wi σ)) (hn : n ≤ 200) (n1 : Nat → Nat) (hn1 : ∀ i, i < n → n1 i ≤ 200) (A : Nat → Nat → List V → Hp → Prop) (h0 : ∀ H', A 0 0 [] H')
    (hs : ∀ i x H1, i < n → Ex H H1 → Pz H1 (Y i x) → Lc2Row g g1 wi1 te vs vs1 σ (n1 i) (A i) x H1) (hrow : ∀ i acc H1, A i (n1 i) acc H1 → A (i + 1) 0 acc H1)
    (hd : ∀ acc p H1, Ex H H1 → Pz H1 (A n 0 acc) → H1 p = some (.lst acc) → Pz H1 (P (.ref p))) : Cm H P (tLc2 wi g tYes wi1 g1 tYes te vs vs1 σ) := by
  intro Hc e Q q
  refine hci Hc e _ fun J Hn H2 g2 ov => fun Dl hD => ?_
  have hcD : Hc Dl = none := Evl.fresh_back g2.c hD
  refine ⟨fun i m Hc1 => m = n - i ∧ i ≤ n ∧ ∃ H1 acc, Ex Hn H1 ∧ Grow H Hc H1 Hc1 ∧ H1 Dl = none ∧ Hc1 Dl = some (.lst acc) ∧ acc.length ≤ i * 200 ∧ Pz H1 (A i 0 acc), ⟨n, rfl, Nat.zero_le _, Hn, [], Evl.Ex.refl _, g2.mut hcD (Evl.fresh_back g2.s hD), Evl.fresh_back g2.s hD, upd_same, Nat.le_refl _, fun H' _ => h0 H'⟩, ?_⟩
  rintro i m Hc1 ⟨rfl, hi, H1, acc, e1, g1', hD1, hl1, hlen, pacc⟩
  by_cases hlt : i < n
  · refine .inr ⟨ov.go i Hc1 (e1.trans g1'.s) hlt, fun Hc3 => ∃ H3 acc', Ex Hn H3 ∧ Grow H Hc H3 Hc3 ∧ H3 Dl = none ∧ Hc3 Dl = some (.lst acc') ∧ acc'.length ≤ (i + 1) * 200 ∧ Pz H3 (A (i + 1) 0 acc'), fun H' ⟨H3, acc', z1, z2, z3, z4, z5, z6⟩ => ⟨n - (i + 1), by omega, rfl, hlt, H3, acc', z1, z2, z3, z4, z5, z6⟩, fun x H' y => ?_⟩
    obtain ⟨H3, g3, zy⟩ := ov.yld i x Hc1 H' (e1.trans g1'.s) hlt y H1 e1 g1'.s
    obtain ⟨σ', Y1, hb, hw, hci1, ht⟩ := hs i x H3 hlt (g1'.trans g3).k zy
    refine hb H' g3.s _ ⟨hw, ?_⟩
    show wi1 σ' H' _
    have m1 := hn1 i hlt
    refine hci1 H' g3.s _ fun J1 H4 Hc4 g4 ov1 => ?_
    have hl4 := g4.c _ _ (g3.c _ _ hl1)
    have hD4 : H4 Dl = none := g4.un (g3.c _ _ hl1) (g3.un hl1 hD1)
    refine ⟨fun j k Hc5 => k = n1 i - j ∧ j ≤ n1 i ∧ ∃ H5 acc, Ex H4 H5 ∧ Grow H Hc H5 Hc5 ∧ H5 Dl = none ∧ Hc5 Dl = some (.lst acc) ∧ acc.length ≤ i * 200 + j ∧ Pz H5 (A i j acc), ⟨n1 i, rfl, Nat.zero_le _, H4, acc, Evl.Ex.refl _, (g1'.trans g3).trans g4, hD4, hl4, hlen, pacc.mono (g3.k.trans g4.k)⟩, ?_⟩
    rintro j k Hc5 ⟨rfl, hj, H5, acc5, e5, g5, hD5, hl5, hlen5, pacc5⟩
    by_cases hjt : j < n1 i
    · refine .inr ⟨ov1.go j Hc5 (e5.trans g5.s) hjt, fun Hc7 => ∃ H7 acc', Ex H4 H7 ∧ Grow H Hc H7 Hc7 ∧ H7 Dl = none ∧ Hc7 Dl = some (.lst acc') ∧ acc'.length ≤ i * 200 + (j + 1) ∧ Pz H7 (A i (j + 1) acc'), fun H' ⟨H7, acc', z1, z2, z3, z4, z5, z6⟩ => ⟨n1 i - (j + 1), by omega, rfl, hjt, H7, acc', z1, z2, z3, z4, z5, z6⟩, fun x1 H6 y1 => ?_⟩
      obtain ⟨H7, g7, zy7⟩ := ov1.yld j x1 Hc5 H6 (e5.trans g5.s) hjt y1 H5 e5 g5.s
      obtain ⟨σ'', hb2, hw2, hc2⟩ := ht j x1 acc5 H7 hjt ((g4.k.trans e5).trans g7.k) zy7 (pacc5.mono g7.k)
      refine hb2 H6 g7.s _ ⟨hw2, ?_⟩
      show te σ'' H6 _
      refine hc2 H6 g7.s _ fun z H8 Hc8 g8 pz => ?_
      have hl7 := g7.c _ _ hl5
      have hD7 : H7 Dl = none := g7.un hl5 hD5
      have hl8 := g8.c _ _ hl7
      have hD8 : H8 Dl = none := g8.un hl7 hD7
      have big : i * 200 ≤ 200 * 200 := Nat.mul_le_mul_right _ (by omega)
      refine ⟨acc5, hl8, Evl.sz_lt (by omega), H8, acc5 ++ [z], e5.trans (g7.k.trans g8.k), ((g5.trans g7).trans g8).mut hcD hD8, hD8, upd_same, by rw [List.length_append, List.length_singleton]; omega, pz⟩
    · obtain rfl : j = n1 i := by omega
      refine .inl ⟨ov1.stop _ Hc5 (e5.trans g5.s) (Nat.le_refl _), H5, acc5, (e1.trans (g3.k.trans g4.k)).trans e5, g5, hD5, hl5, by omega, pacc5.imp fun H' _ z => hrow i acc5 H' z⟩
  · obtain rfl : i = n := by omega
    refine .inl ⟨ov.stop _ Hc1 (e1.trans g1'.s) (Nat.le_refl _), ?_⟩
    exact q (.ref Dl) (upd H1 Dl (.lst acc)) Hc1 (g1'.know hcD hD1 hl1) (hd acc Dl _ (g1'.k.trans (Evl.Ex.new hD1)) (pacc.mono (Evl.Ex.new hD1)) upd_same)
section
variable {X : Cx}
/-- arguments, in whatever frame the block runs -/
def wAb (X : Cx) (scope : Scope) (es : List Expr) (σ : St) (H : Hp) (Q : List V → Hp → Prop) : Prop := ∀ (s : Shared) (H0 : Hp) (C : Addr) (cl : List (Str × Addr)) (fp : List Addr), wA (X.blk s H0 scope (compEnvC scope cl C X.env) fp) es σ H Q
theorem pa_b {scope : Scope} {es : List Expr} (s : Shared) (H : Hp) (C : Addr) (cl : List (Str × Addr)) (fp : List Addr) : PA (X.blk s H scope (compEnvC scope cl C X.env) fp) es (wAb X scope es) := ⟨fun pos pins s' _ _ _ I h => h s H C cl fp pos pins s' I⟩
theorem c_ab {scope : Scope} {es : List Expr} {σ : St} {H : Hp} {P : List V → Hp → Prop} (h : ∀ (s : Shared) (H0 : Hp) (C : Addr) (cl : List (Str × Addr)) (fp : List Addr), Cm H P (wA (X.blk s H0 scope (compEnvC scope cl C X.env) fp) es σ)) : Cm H P (wAb X scope es σ) :=
  fun Hc e Q q s H0 C cl fp => h s H0 C cl fp Hc e Q q
theorem i_rngB {scope : Scope} {es : List Expr} {σ : St} {H : Hp} {n : Nat} (h : Cm H (is [V.int (n : Int)]) (wAb X scope es σ)) (hb : n ≤ 1000000) : Ci H n (fun i x _ => x = .int (i : Int)) (iRng1 (wAb X scope es) σ) := fun Hc e R r =>
  h Hc e _ fun v Hn H2 g p => ⟨n, p.now, by omega, by omega, r _ Hn H2 g (by
    have o := over_range (H := Hn) (lo := 0) (n := n)
    exact ⟨o.go, o.stop, fun i x Hc H' e hi y H1 e1 e2 => by
      obtain ⟨H3, g3, z⟩ := o.yld i x Hc H' e hi y H1 e1 e2
      exact ⟨H3, g3, z.imp fun _ _ q => by rw [q, Int.zero_add]⟩⟩)⟩
end
end LW
set_option Elab.async false
set_option linter.all false
set_option maxRecDepth 100000
set_option maxHeartbeats 2000000
/-! name = {k: v for ..}: a statement of its own -/
namespace LW
open PySem PySem.Spec PyProof.Rows L2
section
variable {X : Cx} {i : Nat} {y : Str} {py pos spos : Pos} {kx vx tg iter : Expr} {ifs : List Expr} {scope : Scope} {own : List (Str × Nat)} {wi : TI} {g : TG} {tt : TT} {tk tv : TE}
theorem ps_setDc (hc : X.calm = true) (hN : X.N.Nodup) (hy : X.N[i]? = some y) (hyl : X.env.scope.names.lookup y = some .local) (hsw : swapsWith (.DictComp kx vx [⟨tg, iter, ifs, 0⟩] scope pos) (some (.Name y py)) spos.line X.env = pure true) (hi : PI X tg iter wi)
    (ok : BlkOk X.N X.env.scope scope own) (hg : ∀ (s : Shared) (H : Hp) (C : Addr) (cl : List (Str × Addr)) (fp : List Addr), PG (X.blk s H scope (compEnvC scope cl C X.env) fp) tg g)
    (ht : ∀ (s : Shared) (H : Hp) (C : Addr) (cl : List (Str × Addr)) (fp : List Addr), PTs (X.blk s H scope (compEnvC scope cl C X.env) fp) ifs tt) (hk : ∀ (s : Shared) (H : Hp) (C : Addr) (cl : List (Str × Addr)) (fp : List Addr), PE (X.blk s H scope (compEnvC scope cl C X.env) fp) kx tk)
    (hv : ∀ (s : Shared) (H : Hp) (C : Addr) (cl : List (Str × Addr)) (fp : List Addr), PE (X.blk s H scope (compEnvC scope cl C X.env) fp) vx tv) (hs : ∀ x, foldedSetIterable iter X.env x = pure x) :
    PS X (.Assign [.Name y py] (.DictComp kx vx [⟨tg, iter, ifs, 0⟩] scope pos) spos) (tAsg (tDc wi g tt tk tv (own.map (·.2))) (gName i)) := by
  refine ⟨fun pins s σ H D I h => ?_⟩
  rw [exec_Assign_Name_used _ _ _ _ hsw]
  refine wpAny_bind (wpAny_standAt (wpAny_bind ?_))
  show wpAny _ X.A (do let _ ← comprehension (.DictComp kx vx [⟨tg, iter, ifs, 0⟩] scope pos) scope X.env (firstIterPos [⟨tg, iter, ifs, 0⟩] pos) newDict false (eval iter X.env) (some (assign (.Name y py) X.env))) _ _ s
  have h' : tDc wi g tt tk tv (own.map (·.2)) σ H (fun x H1 => gName i x σ H1 D.nx) := h
  refine wpAny_bind (thn (dc_core (Qf := fun _ s' => SP X pins D .next s') hc hN I hi ok hg ht hk hv hs h' fun L C s' m H' J q hn fo => ?_) fun _ s' z => wpAny_pure (wpAny_pure z))
  show wpAny _ _ (assign (.Name y py) X.env (.ref L)) _ _ _
  obtain ⟨k0, k1, k2, k3, k4, k5⟩ := fo
  refine wpAny_assign_Name (store_ok2 (v := V.ref L) J hN hy (.inl hyl) rfl (fun s2 J2 ⟨a, sb, ha⟩ => ⟨m, hn.sameBut sb ?_, fun h3 sb3 => ⟨_, H', J2.turned (t' := s2.toks) (fun b o hb e => (sb3.2 b hb).trans e) k0 k1 k3 k4 k5, q⟩⟩) (.inr hyl))
  rcases ha with e | e
  · rw [e]; exact k1
  · exact fun z => k4 y a e z.symm
theorem b_setDc (i : Nat) {σ : L2.St} {H Hc : Hp} {P : V → Hp → Prop} {rest : List Stmt} {D : Ends} (ex : Ex H Hc) (hc : X.calm = true) (hN : X.N.Nodup) (hy : X.N[i]? = some y) (hyl : X.env.scope.names.lookup y = some .local) (hsw : swapsWith (.DictComp kx vx [⟨tg, iter, ifs, 0⟩] scope pos) (some (.Name y py)) spos.line X.env = pure true)
    (hi : PI X tg iter wi) (ok : BlkOk X.N X.env.scope scope own) (hg : ∀ (s : Shared) (H : Hp) (C : Addr) (cl : List (Str × Addr)) (fp : List Addr), PG (X.blk s H scope (compEnvC scope cl C X.env) fp) tg g)
    (ht : ∀ (s : Shared) (H : Hp) (C : Addr) (cl : List (Str × Addr)) (fp : List Addr), PTs (X.blk s H scope (compEnvC scope cl C X.env) fp) ifs tt) (h : Cm H P (tDc wi g tt (wEb X scope kx) (wEb X scope vx) (own.map (·.2)) σ))
    (k : ∀ v Hn H2, Grow H Hc Hn H2 → Pz Hn (P v) → wB X rest D (σ.set i (some v)) H2) (hf : ∀ x, foldedSetIterable iter X.env x = pure x := by intro x; rfl) : wB X (.Assign [.Name y py] (.DictComp kx vx [⟨tg, iter, ifs, 0⟩] scope pos) spos :: rest) D σ Hc :=
  b_cons (w_s (ps_setDc hc hN hy hyl hsw hi ok hg ht pe_b pe_b hf) (h Hc ex _ k))
end
section
variable {X : Cx} {σ : L2.St} {H Hc : Hp} {P : V → Hp → Prop} {o i value : Expr} {sts : List Stmt} {pos pos' : Pos} {D : Ends} {l : Addr}
/-- d[e] = v, e a tuple that is made there -/
theorem b_dputN {kvs : List (List Key × V)} {key : List Key} (ex : Ex H Hc) (hu : X.A.units + 1 < cLine) (hv : Cm H P (wE X value σ)) (ho : Cm H (is (V.ref l)) (wE X o σ)) (hi : Cm H (fun v H' => ∃ b, v = .ref b ∧ H' b = some (.tup (key.map kV))) (wE X i σ)) (hl : Hc l = some (.dT kvs)) (hz : kvs.length < 100000)
    (h : ∀ v Hn H2, Grow H Hc Hn H2 → Pz Hn (P v) → wB X sts D σ (upd H2 l (.dT (putK kvs key v)))) (hs : swapsWith value (some (.Subscript o i pos')) pos.line X.env = pure false := by rfl) : wB X (.Assign [.Subscript o i pos'] value pos :: sts) D σ Hc := by
  refine b_cons (w_s (ps_dput hu pe_w pe_w pe_w hs) (hv Hc ex _ fun v Hn H2 g p => ho.mono g.k H2 g.s _ fun u Hm H3 g3 p3 => hi.mono (g.trans g3).k H3 g3.s _ fun w Hk H4 g4 p4 => ?_))
  obtain rfl : u = .ref l := p3.now
  obtain ⟨b, rfl, hb⟩ := p4.now
  exact ⟨l, _, rfl, .inr ⟨kvs, key, b, g4.c _ _ (g3.c _ _ (g.c _ _ hl)), rfl, g4.s _ _ hb, Evl.sz_lt hz, rfl⟩, h v Hk H4 (g.trans (g3.trans g4)) (p.mono (g3.trans g4).k)⟩
end
end LW
set_option Elab.async false
set_option linter.all false
set_option maxRecDepth 100000
set_option maxHeartbeats 2000000
/-! o - t, t a tuple, by the class's own method -/
namespace LW
open PySem PySem.Spec PyProof.Rows L2
section
variable {X : Cx} {C f : Addr} {k : Nat} {sp : Sp} {E : XK}
def rOwnT (K : PySem.W.Frag) (C : Addr) (sp : Sp) (E : XK) : R2 := fun x y H Q => ∃ a dx fs b xs, x = .ref a ∧ H a = some (.ins C dx fs) ∧ y = .ref b ∧ SqT K H b xs ∧ sp [x, y] H Q E
theorem op_ownBinT {op : Operator} (c : BinBy X.K C f "tuple" op.info.2) (F : FnR X.prog X.w X.K X.mg X.base CX0 k f sp) (hr : Room k X.A) : OpR X (binaryOp op) (rOwnT X.K C sp E0) := by
  intro pins s σ H x y u v Q I rx ry h
  obtain ⟨a, dx, fs, b, xs, rfl, ha, rfl, hb, q⟩ := h
  cases (show u = Value.ref a from rx)
  cases (show v = Value.ref b from ry)
  obtain ⟨ox, od, J⟩ := inst_at I ha
  obtain ⟨its, rv, ⟨o, ho, hc, n, hd⟩, hz⟩ := I.tuple hb
  have L : PySem.W.Looks (model X.prog X.w) s.heap (typeOf (.ref b)) (.type "tuple") := fun A Q E s2 k q => wpAny_typeOf_ref (k b o ho) (by rw [hc] at *; exact q)
  exact bin_run I.kIn J c L (thn (wpAny_call (run_fnR (vs := [.ref a, .ref b]) F hr pass0 I (.cons (show RelV (.ref a) (.ref a) from rfl) (.cons (show RelV (.ref b) (.ref b) from rfl) .nil)) q)) fun w s' z => cmp_back z)
end
section
variable {α : Type} {A : α → List V → Hp → Prop} {R : α → V → Hp → Prop} {X : Cx} {σ : L2.St} {H : Hp} {k : Nat} {C f a dx : Addr} {fs : List (Str × V)} {i o : Expr} {pos : Pos} {op : Operator} {Pb : V → Hp → Prop} {xs : List V}
/-- o - t -/
theorem e_binT (c : BinBy X.K C f "tuple" op.info.2) (F : FnR X.prog X.w X.K X.mg X.base CX0 k f (SpF A R)) (hr : Room k X.A) (hx : Cm H (is (V.ref a)) (wE X i σ)) (hi : Pz H (fun H' => H' a = some (.ins C dx fs))) (ho : Cm H (fun v H' => ∃ b, v = .ref b ∧ H' b = some (.tup xs)) (wE X o σ)) (y : α)
    (hp : ∀ b H1, Ex H H1 → H1 b = some (.tup xs) → Pz H1 (A y [.ref a, .ref b])) : Cm H (R y) (wE X (.BinOp i op o pos) σ) :=
  e_op (op_ownBinT c F hr) hx ho fun u v H1 e1 p1 p2 => by
    obtain rfl : u = V.ref a := p1.now
    obtain ⟨b, rfl, hb⟩ := p2.now
    exact fun Hc ex Q q => ⟨a, dx, fs, b, xs, rfl, hi Hc (e1.trans ex), rfl, SqT.of (ex _ _ hb), y, H1, ex, hp b H1 e1 hb, fun v Hn H2 g r => q v Hn H2 g r⟩
end
end LW
set_option Elab.async false
set_option linter.all false
set_option maxRecDepth 100000
set_option maxHeartbeats 2000000
/-! the lesser of two texts -/
namespace LW
open PySem PyProof.Rows L2
section
variable {prog : Program} {w : World} {A : Around} {E : Value → Shared → Prop} {s : Shared} {a b : Str} {t u : Tok}
def twoS (a b : Str) (t u : Tok) : Array Value := #[.str a t, .str b u]
def pick (a b : Str) : Nat → Str
  | 0 => a
  | _ => b
theorem two_at {i : Nat} {v : Value} (h : (twoS a b t u)[i]? = some v) : ∃ t', v = .str (pick a b i) t' := by
  match i, h with
  | 0, h => exact ⟨t, (Option.some.inj h).symm⟩
  | 1, h => exact ⟨u, (Option.some.inj h).symm⟩
  | i + 2, h => simp [twoS] at h
theorem cmp_txt : CmpOf prog w A .Lt (fun i v => (twoS a b t u)[i]? = some v) (fun i j => decide ((pick a b i).cps.toList < (pick a b j).cps.toList)) := fun i j vi vj s Q E hi hj h => by
  obtain ⟨t1, rfl⟩ := two_at hi
  obtain ⟨t2, rfl⟩ := two_at hj
  exact richCompare_gives (op := .Lt) (typeIs_str s _ t1) (typeIs_str s _ t2) PySem.F.slot_str_lt PySem.F.entry_str_lt (PySem.F.args_str_lt_2 _ _) (gives_str_lt _ _ t1 t2) (fun x => nomatch x) h
theorem min_txt {Q : Value → Shared → Prop} (hh : A.handled = none) (h : ∀ h' tk, (∀ c o, s.heap.get? c = some o → h'.get? c = some o) → Q (if b.cps.toList < a.cps.toList then .str b u else .str a t) { s with heap := h', toks := tk }) :
    wpAny (model prog w) A (call (.builtin "min") [.str a t, .str b u]) Q E s := by
  have hT : (s.heap.push { cls := .type "tuple", data := .seq #[.str a t, .str b u] }).IsTuple s.heap.objs.size (twoS a b t u) := ⟨_, Heap.get?_push_size _ rfl, rfl, 0, rfl⟩
  have hz : (s.heap.push { cls := .type "tuple", data := .seq #[.str a t, .str b u] }).objs.size = s.heap.objs.size + 1 := Heap.size_push ..
  refine call_min_two (wpAny_pyIter_tuple hT ⟨_, [_, s.heap.objs.size], [_], _, _, _, _, rfl, Walks.tuple (A := A.in1) hh _ s.heap.objs.size (by rw [hz]; exact Nat.ne_of_lt (Nat.lt_succ_self _)) (twoS a b t u), ⟨⟨_, Heap.get?_push_size _ rfl, rfl, rfl⟩, hT.push _⟩, fun c hc => ?_, by exact (by decide : 0 < 2), cmp_txt, fun v h' tk hP hk => ?_⟩)
  · show c < ((s.heap.push _).push _).objs.size
    rw [Heap.size_push, hz]
    simp only [List.mem_cons, List.not_mem_nil, or_false] at hc
    rcases hc with e | e <;> rw [e]
    · rw [hz]; exact Nat.lt_succ_self _
    · exact Nat.lt_succ_of_lt (Nat.lt_succ_self _)
  · have old : ∀ c o, s.heap.get? c = some o → h'.get? c = some o := fun c o e => hk c o (fun hm => by
      have z := Heap.lt_size e
      rw [List.mem_singleton.mp hm, hz] at z
      exact Nat.lt_irrefl _ (Nat.lt_of_succ_lt z)) (Heap.get?_push_of_some _ (Heap.get?_push_of_some _ e))
    have hv : v = if b.cps.toList < a.cps.toList then Value.str b u else Value.str a t := by
      have hP : (twoS a b t u)[argBest (fun i j => decide ((pick a b i).cps.toList < (pick a b j).cps.toList)) 1]? = some v := hP
      by_cases c : b.cps.toList < a.cps.toList
      · rw [show argBest (fun i j => decide ((pick a b i).cps.toList < (pick a b j).cps.toList)) 1 = 1 by simp [argBest, pick, c]] at hP
        rw [if_pos c]
        exact (Option.some.inj hP).symm
      · rw [show argBest (fun i j => decide ((pick a b i).cps.toList < (pick a b j).cps.toList)) 1 = 0 by simp [argBest, pick, c]] at hP
        rw [if_neg c]
        exact (Option.some.inj hP).symm
    rw [hv]
    exact h h' tk old
end
section
variable {X : Cx} {σ : L2.St} {H : Hp} {e1 e2 : Expr} {px pos : Pos} {a b : Str}
theorem call_minS (hc : X.calm = true) : CallR X (.builtin "min") (fun xs H Q => ∃ a b, xs = [.str a, .str b] ∧ Q (.str (if Lt b a then b else a)) H) := by
  intro pins s σ H xs us Q I r h
  obtain ⟨a, b, rfl, q⟩ := h
  obtain ⟨u1, u2, rfl, ⟨t, rfl⟩, ⟨t', rfl⟩⟩ := vals2 r
  refine min_txt (I.ok.hd hc) fun h' tk k => ⟨_, H, I.kept k, ?_, q⟩
  by_cases c : Lt b a
  · rw [if_pos c, if_pos (show b.cps.toList < a.cps.toList from c)]; exact ⟨_, rfl⟩
  · rw [if_neg c, if_neg (show ¬ b.cps.toList < a.cps.toList from c)]; exact ⟨_, rfl⟩
end
end LW
set_option Elab.async false
set_option linter.all false
set_option maxRecDepth 100000
set_option maxHeartbeats 2000000
/-! lists cut, reversed, put together -/
namespace LW
open PySem L2
section
variable {X : Cx} {σ : St} {H Hc : Hp} {o i e e1 e2 : Expr} {pos p1 p2 p3 : Pos} {a : Addr} {xs ys : List V} {n k : Nat} {Pa Pb : V → Hp → Prop}
/-- a new list of xs, known -/
abbrev nl (xs : List V) : V → Hp → Prop := fun v H => ∃ b, v = .ref b ∧ H b = some (.lst xs)
theorem cut_lo {xs : List V} {n : Nat} (h : n ≤ xs.length) : cutV xs (some (n : Int)) none = xs.drop n := by
  unfold cutV
  rw [HT.sIx_none, HT.sIx_nat, Nat.min_eq_left h]
  exact List.take_of_length_le (by rw [List.length_drop]; exact Nat.le_refl _)
theorem cut_hi {xs : List V} {n : Nat} (h : n ≤ xs.length) : cutV xs none (some (n : Int)) = xs.take n := by
  unfold cutV
  rw [HT.sIx_none, HT.sIx_nat, List.drop_zero, Nat.sub_zero, Nat.min_eq_left h]
theorem e_slLo (ho : Cm H (is (V.ref a)) (wE X o σ)) (hi : Cm H (is (V.int (n : Int))) (wE X i σ)) (h : Pz H (fun H' => SqL X.K H' a xs)) (hn : n ≤ xs.length) : Cm H (nl (xs.drop n)) (wE X (.Subscript o (.Slice (some i) none none p2) pos) σ) := by
  refine ce (pe_slice sl_list pe_w (po_some pe_w) po_none) fun Hc ex Q q => ho Hc ex _ fun v Hn H2 g p => ?_
  obtain rfl : v = V.ref a := p.now
  show wE X i σ H2 _
  refine hi.mono g.k H2 g.s _ fun w Hm H3 g3 p3 => ?_
  obtain rfl : w = V.int (n : Int) := p3.now
  refine ⟨(n : Int), rfl, a, xs, rfl, h H3 ((g.k.trans g3.k).trans g3.s), fun b hb => ?_⟩
  rw [cut_lo hn]
  exact q _ _ _ ((g.trans g3).trans (Grow.new g3.s hb)) fun H' e => ⟨b, rfl, e _ _ upd_same⟩
theorem e_slHi (ho : Cm H (is (V.ref a)) (wE X o σ)) (hi : Cm H (is (V.int (n : Int))) (wE X i σ)) (h : Pz H (fun H' => SqL X.K H' a xs)) (hn : n ≤ xs.length) : Cm H (nl (xs.take n)) (wE X (.Subscript o (.Slice none (some i) none p2) pos) σ) := by
  refine ce (pe_slice sl_list pe_w po_none (po_some pe_w)) fun Hc ex Q q => ho Hc ex _ fun v Hn H2 g p => ?_
  obtain rfl : v = V.ref a := p.now
  show wE X i σ H2 _
  refine hi.mono g.k H2 g.s _ fun w Hm H3 g3 p3 => ?_
  obtain rfl : w = V.int (n : Int) := p3.now
  refine ⟨(n : Int), rfl, a, xs, rfl, h H3 ((g.k.trans g3.k).trans g3.s), fun b hb => ?_⟩
  rw [cut_hi hn]
  exact q _ _ _ ((g.trans g3).trans (Grow.new g3.s hb)) fun H' e => ⟨b, rfl, e _ _ upd_same⟩
theorem e_revL (ho : Cm H (is (V.ref a)) (wE X o σ)) (h : Pz H (fun H' => SqL X.K H' a xs)) : Cm H (nl xs.reverse) (wE X (.Subscript o (.Slice none none (some (.UnaryOp .USub (.Constant (.int 1) k p1) p2)) p3) pos) σ) := by
  refine ce (pe_revL pe_w) fun Hc ex Q q => ho Hc ex _ fun v Hn H2 g p => ?_
  obtain rfl : v = V.ref a := p.now
  exact ⟨a, xs, rfl, h H2 (g.k.trans g.s), fun b hb => q _ _ _ (g.trans (Grow.new g.s hb)) fun H' e => ⟨b, rfl, e _ _ upd_same⟩⟩
/-- xs + ys, both new lists -/
theorem e_cat (h1 : Cm H (nl xs) (wE X e1 σ)) (h2 : Cm H (nl ys) (wE X e2 σ)) (hz : xs.length + ys.length ≤ 100000) : Cm H (nl (xs ++ ys)) (wE X (.BinOp e1 .Add e2 pos) σ) :=
  e_op op_cat h1 h2 fun u v H1 e z1 z2 => by
    obtain ⟨b, rfl, hb⟩ := z1.now
    obtain ⟨c, rfl, hc⟩ := z2.now
    exact fun Hc ex Q q => ⟨b, c, xs, ys, rfl, rfl, ex _ _ hb, ex _ _ hc, Evl.sz_of hz, fun p hp => q _ _ _ (Grow.new ex hp) fun H' e => ⟨p, rfl, e _ _ upd_same⟩⟩
end
end LW
set_option Elab.async false
set_option linter.all false
set_option maxRecDepth 100000
set_option maxHeartbeats 2000000
/-! a, b = x, y of locals; l.extend(..) of one's own list -/
namespace LW
open PySem L2
section
variable {X : Cx} {σ : St} {H Hc : Hp} {P : V → Hp → Prop} {Pa : List V → Hp → Prop} {a b o e : Expr} {rest sts : List Stmt} {pos px py pt pt2 apos cpos : Pos} {D : Ends} {x y : Str} {l : Addr} {xs : List V}
theorem b_par (i j : Nat) {kt k2} (ex : Ex H Hc) (hc : X.calm = true) (hN : X.N.Nodup) (ha : Cm H Pa (wA X [a, b] σ)) (hP : ∀ vs H', Pa vs H' → ∃ v w, vs = [v, w]) (h : ∀ v w Hn H2, Grow H Hc Hn H2 → Pz Hn (Pa [v, w]) → wB X rest D ((σ.set i (some v)).set j (some w)) H2)
    (hi : X.N[i]? = some x := by rfl) (hj : X.N[j]? = some y := by rfl) (hij : i ≠ j := by decide) (hx : X.env.scope.names.lookup x = some .local := by rfl) (hy : X.env.scope.names.lookup y = some .local := by rfl)
    (hw : swappedStores [.Tuple [.Name x px, .Name y py] kt pt] (.Tuple [a, b] k2 pt2) X.env = pure (some [x, y]) := by rfl) (hs : swapsWithSole [.Tuple [.Name x px, .Name y py] kt pt] (.Tuple [a, b] k2 pt2) pos.line X.env = pure false := by rfl) :
    wB X (.Assign [.Tuple [.Name x px, .Name y py] kt pt] (.Tuple [a, b] k2 pt2) pos :: rest) D σ Hc :=
  b_cons (w_s (ps_par hc hN hi hj hij hx hy pa_w hw hs) (ha Hc ex _ fun vs Hn H2 g p => by
    obtain ⟨v, w, rfl⟩ := hP vs Hn p.now
    exact ⟨v, w, rfl, h v w Hn H2 g p⟩))
theorem b_ext (ex : Ex H Hc) (ho : Cm H (is (V.ref l)) (wE X o σ)) (hv : Cm H P (wE X e σ)) (hP : ∀ v H', P v H' → ∃ b zs, v = .ref b ∧ H' b = some (.lst zs) ∧ zs.length ≤ 1000) (hl : Hc l = some (.lst xs)) (hz : xs.length ≤ 90000)
    (h : ∀ b zs Hn H2, Grow H Hc Hn H2 → Pz Hn (P (.ref b)) → Hn b = some (.lst zs) → wB X sts D σ (upd H2 l (.lst (xs ++ zs))))
    (hb : attributeBase o "extend" X.env (eval o X.env) = eval o X.env := by rfl)
    (h1 : (((((backTo cpos (starEach [e] X.env)).all fun x => !x.fst) && (backToKw cpos (keywordEach [] X.env)).all fun x => x.fst.isSome) && decide (([e] : List Expr).length + ([] : List Nat).length + (if ([] : List Nat).isEmpty = true then 0 else 1) < 30)) = true) := by rfl)
    (h2 : (apos.endLine == cpos.line) = true := by rfl) (h3 : starEach [e] X.env = (false, eval e X.env) :: starEach [] X.env := by rfl) (hs : swapsWith (.Call (.Attribute o "extend" apos) [e] [] cpos) none pos.line X.env = pure false := by rfl) :
    wB X (.Expr (.Call (.Attribute o "extend" apos) [e] [] cpos) pos :: sts) D σ Hc := by
  refine b_cons (w_s (ps_expr (pe_bm PySem.F.plainAttrs_list PySem.F.slot_list_extend PySem.F.type_list_extend mt_extend pe_w (pa_cons pe_w pa_nil h3) hb h1 h2 h3) hs) ?_)
  refine ho Hc ex _ fun u Hn H2 g p => ?_
  have q : u = .ref l := p.now
  subst q
  refine ⟨.inl ⟨rfl, _, SqL.of (g.c _ _ hl)⟩, hv.mono g.k H2 g.s _ fun v Hm H3 g3 p3 => ?_⟩
  obtain ⟨b, zs, rfl, hbz, hlen⟩ := hP v Hm p3.now
  exact ⟨l, b, xs, zs, rfl, rfl, g3.c _ _ (g.c _ _ hl), g3.s _ _ hbz, Evl.sz_of (by omega), h b zs Hm H3 (g.trans g3) p3 hbz⟩
end
end LW
set_option Elab.async false
set_option linter.all false
set_option maxRecDepth 100000
set_option maxHeartbeats 4000000
/-! sets of texts: set(texts), sorted of such a set -/
namespace LWS
open PySem PySem.Spec PyProof.Rows L2
def txOf (e : Int × Value) : Str := match e.2 with
  | .str x _ => x
  | _ => Str.empty
section
variable {P : Program} {w : World} {A : Around} {E : Value → Shared → Prop} {s : Shared} {h h' : Heap} {a : Addr} {ks : List Str} {x : Str} {u : Tok}
abbrev skd (P : Program) (w : World) : PySem.KeyKind P w Str := PySem.strKind P w
def TxE (P : Program) (w : World) (e : Int × Value) : Prop := ∃ x u, e = ((skd P w).hash x, Value.str x u)
theorem txE_is {e : Int × Value} (g : TxE P w e) (x : Str) : (skd P w).is x e.2 = true ↔ txOf e = x := by
  obtain ⟨y, u, rfl⟩ := g
  simp [PySem.strKind, Value.isStrOf, txOf]
theorem txE_elems {l : List (Int × Value)} (g : ∀ e ∈ l, TxE P w e) : ElemsOf (skd P w) l := fun e he => by
  obtain ⟨x, u, rfl⟩ := g e he
  exact ⟨⟨x, strKind_is P w x u, rfl⟩, rfl⟩
/-- the texts ks, each once, are what the set at a holds; its table can be walked -/
def TxS (P : Program) (w : World) (h : Heap) (a : Addr) (ks : List Str) : Prop :=
  ∃ o es ep t, h.get? a = some o ∧ o.ExactSet ∧ o.data = .set es ep t ∧ ((∀ e ∈ es.toList, TxE P w e) ∧ (es.toList.map txOf).Perm ks ∧ ks.Nodup) ∧ es.size < scanBound ∧ t.fits es.size = true ∧ (Ris t.place.toList ∧ (w.params.followText "set-order" = true ∨ t.led = true))
theorem TxS.at (R : TxS P w h a ks) (k : ∀ o, h.get? a = some o → h'.get? a = some o) : TxS P w h' a ks := let ⟨o, es, ep, t, ho, r⟩ := R; ⟨o, es, ep, t, k o ho, r⟩
theorem TxS.new (P : Program) (w : World) (h : Heap) : TxS P w (h.push { cls := .type "set", dict := none, data := .set #[] 0 (.fresh 0 0 (!w.params.followText "set-order")) }) h.objs.size [] := by
  refine ⟨_, #[], 0, _, Heap.get?_push_size _ rfl, ⟨rfl, rfl, rfl⟩, rfl, ⟨fun e he => absurd he (by simp), List.Perm.refl _, List.nodup_nil⟩, by unfold scanBound; decide, by rfl, ?_, ?_⟩
  · exact ris_range 0
  · show _ ∨ (!w.params.followText "set-order") = true
    cases w.params.followText "set-order" <;> simp
/-- the table with one more, laid anew if it is too full -/
theorem tx_tail {g : Bool → Sem Unit} (hg : ∀ b s₁ (Q' : Unit → Shared → Prop), Q' () s₁ → wpAny (model P w) A (g b) Q' E s₁) {o : Obj} {es es1 : Array (Int × Value)} {ep : Nat} {t t2 : SetTable} (ho : s.heap.get? a = some o) (hex : o.ExactSet) (hd : o.data = .set es ep t)
    (good : (∀ e ∈ es1.toList, TxE P w e) ∧ (es1.toList.map txOf).Perm ks ∧ ks.Nodup) (hb : es1.size < scanBound) (hf : t2.fits es1.size = true) (hr : Ris t2.place.toList ∧ (w.params.followText "set-order" = true ∨ t2.led = true)) {wd : Bool} {R : Option Bool → Shared → Prop}
    (hR : ∀ h', Heap.SameBut a s.heap h' → TxS P w h' a ks → R (some true) { s with heap := h' }) :
    wpAny (model P w) A (storeSet a es1 t2 >>= fun _ => if (!wd && t2.tooFull) = true then g (relayAll t2 es1 (SetTable.grown es1.size)).2.2 >>= fun _ => storeSet a (relayAll t2 es1 (SetTable.grown es1.size)).1 (relayAll t2 es1 (SetTable.grown es1.size)).2.1 >>= fun _ => pure (some true) else pure (some true)) R E s := by
  have sb := Heap.SameBut.update s.heap a (Obj.putSet es1 t2)
  have ho1 := L2.store_at (es' := es1) (t' := t2) ho hd
  refine wpAny_bind (wpAny_storeSet_of ho hd (?_ : _) (fits_of_scanBound hb))
  by_cases full : (!wd && t2.tooFull) = true
  · rw [if_pos full]
    have p := relayAll_perm t2 es1 (SetTable.grown es1.size)
    have f := relayAll_fits t2 es1 (SetTable.grown es1.size)
    have r := relayAll_ris t2 es1 (SetTable.grown es1.size)
    have l := relayAll_led t2 es1 (SetTable.grown es1.size)
    revert p f r l
    generalize relayAll t2 es1 (SetTable.grown es1.size) = Z
    intro p f r l
    have z : Z.1.size = es1.size := by rw [← Array.length_toList, ← Array.length_toList]; exact p.length_eq
    have hb' : Z.1.size < scanBound := z ▸ hb
    refine wpAny_bind (hg _ _ _ (wpAny_bind (wpAny_storeSet_of ho1 rfl (wpAny_pure (hR _ (sb.trans (Heap.SameBut.update _ a _)) ?_)) (fits_of_scanBound hb'))))
    exact ⟨_, Z.1, _, Z.2.1, L2.store_at (es' := Z.1) (t' := Z.2.1) ho1 rfl, hex, rfl, ⟨fun e he => good.1 e (p.mem_iff.mp he), (p.map txOf).trans good.2.1, good.2.2⟩, hb', f, r, hr.2.imp id fun q => l.trans q⟩
  · rw [if_neg full]
    exact wpAny_pure (hR _ sb ⟨_, es1, _, t2, ho1, hex, rfl, good, hb, hf, hr⟩)
def more (ks : List Str) (x : Str) : List Str := if x ∈ ks then ks else ks ++ [x]
theorem tx_add {Q : Bool → Shared → Prop} (R : TxS P w s.heap a ks) (room : ks.length + 1 < scanBound) (hQ : ∀ b h', Heap.SameBut a s.heap h' → TxS P w h' a (more ks x) → Q b { s with heap := h' }) : wpAny (model P w) A (setAddHashed a (.str x u) ((skd P w).hash x)) Q E s := by
  obtain ⟨o, es, ep, t, ho, hex, hd, ⟨g, pm, nd⟩, hb, hf, hr, hl⟩ := R
  have el : ElemsOf (skd P w) es.toList := txE_elems g
  have sc : (Value.str x u).scannable = true := rfl
  have mem : x ∈ ks ↔ ∃ e ∈ es.toList, (skd P w).is x e.2 = true := by
    rw [← pm.mem_iff, List.mem_map]
    exact ⟨fun ⟨e, he, q⟩ => ⟨e, he, (txE_is (g e he) x).mpr q⟩, fun ⟨e, he, q⟩ => ⟨e, he, (txE_is (g e he) x).mp q⟩⟩
  unfold setAddHashed setAddHashedIn
  refine wpAny_holding (wpAny_bind (wpAny_setState_of ho hd hf ?_))
  dsimp only
  rw [byScan_of sc hb el, if_pos rfl]
  unfold setAddByScan
  refine wpAny_bind (wpAny_bind (wpAny_rule (wpAny_bind (wpAny_setScan_of (strKind_is P w x u) ho hd hf el ?_))))
  cases hfi : List.findIdx? (fun e => (skd P w).is x e.2) es.toList with
  | some j =>
    obtain ⟨hj, pj, _⟩ := List.findIdx?_eq_some_iff_getElem.mp hfi
    have m : x ∈ ks := mem.mpr ⟨_, List.getElem_mem hj, pj⟩
    refine wpAny_pure (wpAny_pure (hQ _ s.heap (.refl a s.heap) ?_))
    rw [more, if_pos m]
    exact ⟨o, es, ep, t, ho, hex, hd, ⟨g, pm, nd⟩, hb, hf, hr, hl⟩
  | none =>
    have m : x ∉ ks := fun z => by
      obtain ⟨e, he, q⟩ := mem.mp z
      exact absurd (List.findIdx?_eq_none_iff.mp hfi e he) (by rw [q]; decide)
    have em : more ks x = ks ++ [x] := if_neg m
    rw [em] at hQ
    have p1 := layNew_perm t es ((skd P w).hash x) (.str x u)
    have f1 := layNew_fits t es ((skd P w).hash x) (.str x u)
    have r1 := layNew_ris t es ((skd P w).hash x) (.str x u) hr
    have l1 := layNew_led t es ((skd P w).hash x) (.str x u)
    dsimp only
    revert p1 f1 r1 l1
    generalize layNew t es ((skd P w).hash x) (.str x u) = Z
    obtain ⟨e1, t1, wd, gave⟩ := Z
    intro p1 f1 r1 l1
    dsimp only at p1 f1 r1 l1 ⊢
    have pc : e1.toList.Perm (es.toList ++ [((skd P w).hash x, Value.str x u)]) := by rw [Array.toList_push] at p1; exact p1
    have good : (∀ e ∈ e1.toList, TxE P w e) ∧ (e1.toList.map txOf).Perm (ks ++ [x]) ∧ (ks ++ [x]).Nodup := by
      refine ⟨fun e he => ?_, ?_, ?_⟩
      · rcases List.mem_append.mp (pc.mem_iff.mp he) with z | z
        · exact g e z
        · exact ⟨x, u, List.mem_singleton.mp z⟩
      · refine (pc.map txOf).trans ?_
        rw [List.map_append]
        exact List.Perm.append pm (List.Perm.refl _)
      · exact List.nodup_append.mpr ⟨nd, by simp, fun b hb c hc q => m (by rw [List.mem_singleton.mp hc] at q; exact q ▸ hb)⟩
    have sz : e1.size = ks.length + 1 := by
      have q := pc.length_eq
      have q2 := pm.length_eq
      rw [List.length_append, List.length_singleton, Array.length_toList] at q
      rw [List.length_map] at q2
      omega
    have hb1 : e1.size < scanBound := by omega
    have led : w.params.followText "set-order" = true ∨ t1.led = true := hl.imp id fun z => l1.trans z
    have gv : ∀ (b : Bool) (s₁ : Shared) (Q' : Unit → Shared → Prop), Q' () s₁ → wpAny (model P w) A (match b with | true => rule "set.scan.the-table-gave-way" | false => pure ()) Q' E s₁ := fun b s₁ Q' q => by
      cases b
      · exact wpAny_pure q
      · exact wpAny_rule q
    refine wpAny_bind (gv _ _ _ ?_)
    split
    · refine wpAny_bind ?_
      rw [hashByValue_scannable 8 sc]
      refine wpAny_pure (tx_tail gv ho hex hd good hb1 ?_ ?_ fun h' sb r => ?_)
      · split
        · exact f1
        · exact SetTable.fits_plain_off f1
      · split <;> exact ⟨r1, led⟩
      · dsimp only
        exact wpAny_pure (hQ _ h' sb r)
    · refine wpAny_bind (wpAny_pure ?_)
      simp only [↓reduceIte]
      exact tx_tail gv ho hex hd good hb1 f1 ⟨r1, led⟩ fun h' sb r => by
        dsimp only
        exact wpAny_pure (hQ _ h' sb r)
end
end LWS
set_option Elab.async false
set_option linter.all false
set_option maxRecDepth 100000
set_option maxHeartbeats 4000000
namespace LWS
open PySem PySem.Spec PyProof.Rows L2
theorem mem_more {ks : List Str} {x y : Str} : y ∈ more ks x ↔ y ∈ ks ∨ y = x := by
  unfold more
  by_cases h : x ∈ ks
  · rw [if_pos h]
    exact ⟨.inl, fun z => z.elim id fun e => e ▸ h⟩
  · rw [if_neg h, List.mem_append, List.mem_singleton]
theorem len_more {ks : List Str} {x : Str} : (more ks x).length ≤ ks.length + 1 := by
  unfold more
  split <;> simp
section
variable {P : Program} {w : World} {A : Around} {R : Result → Shared → Prop} {I : Addr} {fp wr : List Addr} {G : Array GenState → Array GenState → Prop} {n : Nat} {Y : Nat → Value → Prop} {St : Nat → Shared → Prop}
theorem tx_loop (W : WalksS P w A.in1 I fp wr G n Y St) (S : Addr) (hSf : S ∉ fp) {xs : List Str} (hn : xs.length = n) (hv : ∀ i v, Y i v → ∃ t, v = .str (xs.getD i Str.empty) t) (hb : n + 1 < scanBound) :
    ∀ (k i : Nat) (s : Shared) (ks : List Str), n - i = k → i ≤ n → St i s → TxS P w s.heap S ks → (∀ x, x ∈ ks ↔ x ∈ xs.take i) → ks.length ≤ i →
      (∀ s' ks', Moved (S :: wr) G s s' → TxS P w s'.heap S ks' → (∀ x, x ∈ ks' ↔ x ∈ xs) → ks'.length ≤ n → R (.ok (.ret .none)) s') → codeAny (model P w) A (.builtin "set.update.loop" ⟨[.ref S, .ref I], []⟩) R s := by
  have out : S ∉ wr := fun h => hSf (W.sub _ h)
  have up : ∀ b ∈ wr, b ∈ S :: wr := fun b hb => List.mem_cons_of_mem _ hb
  have go : ∀ {s : Shared}, wpAny (model P w) A.in1 (Builtin.«set.update.loop» ⟨[.ref S, .ref I], []⟩) (fun f s' => match f with | .done f => R (.ok f) s' | .again c => c.quiet = true ∧ codeAny (model P w) A c R s') (fun e s' => R (.error e) s') s → codeAny (model P w) A (.builtin "set.update.loop" ⟨[.ref S, .ref I], []⟩) R s := fun q => by
    refine codeAny_builtin F.entry_set_update_loop ?_
    rw [Around.under_plainId F.plain_set_update_loop _]
    exact q
  intro k
  induction k with
  | zero =>
    intro i s ks hk hi hst T hm hl hR
    obtain rfl : i = n := by omega
    refine go ?_
    show wpAny _ A.in1 (pyNext (.ref I) >>= fun x => _) _ _ s
    refine wpAny_bind (W.done s _ _ hst fun s' mv => wpAny_pure (hR s' ks (mv.mono up) (T.at fun o => mv.heap S o out) (fun x => ?_) hl))
    rw [hm x, ← hn, List.take_length]
  | succ k ih =>
    intro i s ks hk hi hst T hm hl hR
    have lt : i < n := by omega
    refine go ?_
    show wpAny _ A.in1 (pyNext (.ref I) >>= fun x => _) _ _ s
    refine wpAny_bind (W.item i s _ _ lt hst fun v s' hY hst' mv => ?_)
    obtain ⟨t, rfl⟩ := hv i v hY
    show wpAny _ A.in1 (holding _ (setAdd S (.str (xs.getD i Str.empty) t)) >>= fun x => _) _ _ s'
    refine wpAny_bind (wpAny_holding ?_)
    unfold setAdd
    refine wpAny_holding (wpAny_bind ((skd P w).pyHash (k := xs.getD i Str.empty) (strKind_is _ _ _ _) ?_))
    refine tx_add (s := { s' with toks := s'.toks + 1 }) (T.at fun o => mv.heap S o out) (by omega) fun b h' sb T2 => ?_
    refine wpAny_pure ⟨plainId_quiet F.plain_set_update_loop _, ih (i + 1) _ _ (by omega) lt (W.frame _ s' _ _ hst' (Nat.le_succ _) fun b hb o e => (sb.2 b fun z => hSf (z ▸ hb)).trans e) T2 (fun x => ?_) (Nat.le_trans len_more (by omega)) fun s2 ks2 mv2 => hR s2 ks2 (Moved.trans W.gtrans ((mv.mono up).then_heap (Nat.le_succ _) fun b o hb e => (sb.2 b fun z => hb (z ▸ List.mem_cons_self)).trans e) mv2)⟩
    have at_ : xs[i]? = some (xs.getD i Str.empty) := by rw [List.getD_eq_getElem?_getD, List.getElem?_eq_getElem (by omega)] <;> rfl
    rw [mem_more, hm x, LW.take_snoc at_, List.mem_append, List.mem_singleton]
end
section
variable {P : Program} {w : World} {A : Around} {E : Value → Shared → Prop} {s : Shared}
/-- set(a): made, then filled -/
theorem set_made (a : Value) {Q Q₁ : Value → Shared → Prop} (hnew : codeAny (model P w) A.in1 (.call (.builtin "set.__new__") ⟨[.type "set", a], []⟩) (wants Q₁ E) s)
    (hnext : ∀ obj s₁, Q₁ obj s₁ → s₁.TypeIs obj "set" ∧ wpAny (model P w) A.in1.in1 (Builtin.«set.__init__» ⟨[obj, a], []⟩) (fun fin s' => match fin with | .done f => wants (fun r s₂ => r = .none ∧ Q obj s₂) E (.ok f) s' | .again c' => c'.quiet = true ∧ codeAny (model P w) A.in1 c' (wants (fun r s₂ => r = .none ∧ Q obj s₂) E) s')
        (fun e s' => wants (fun r s₂ => r = .none ∧ Q obj s₂) E (.error e) s') s₁) : wpAny (model P w) A (call (.type "set") [a]) Q E s := by
  have ft := F.called_set
  obtain ⟨c, tl, hmro⟩ := ft.mro
  have i1 := ft.made
  have i2 := ft.sub
  have i3 := ft.notType
  have i4 := ft.canCreate
  have i5 := F.typeCall_set_1 a
  refine wpAny_call (codeAny_of_tree (?_ : wpAny _ _ (callAny (.type "set") _) _ _ _))
  refine wpAny_pure ⟨Code.quiet_builtin _ (by decide +kernel), codeAny_builtin F.entry_type_call (?_ : _)⟩
  rw [Around.under_plain (weight_type_call_type "set" [a] []) rfl]
  repeat (any_goals (first | wp_step | assumption))
  refine codeAny_mono hnew fun r s₁ hr => ?_
  match r, hr with
  | .ok (.ret obj), hr =>
    obtain ⟨hT, hi⟩ := hnext _ _ hr
    have i6 := ft.init.lookup
    have i7 := ft.init.bind obj
    repeat (any_goals (first | wp_step | assumption))
    refine codeAny_mono (codeAny_call_builtin ft.init.plain F.entry_set_init (check_set_init_1 hT hi)) fun r₂ s₂ hr₂ => ?_
    match r₂, hr₂ with
    | .ok (.ret r), hr₂ =>
      obtain ⟨rfl, hq⟩ := hr₂
      repeat (any_goals (first | wp_step | assumption))
    | .error e, hr₂ => exact hr₂
    | .ok .next, hr₂ => exact hr₂.elim
    | .ok .brk, hr₂ => exact hr₂.elim
    | .ok .cont, hr₂ => exact hr₂.elim
  | .error e, hr => exact hr
  | .ok .next, hr => exact hr.elim
  | .ok .brk, hr => exact hr.elim
  | .ok .cont, hr => exact hr.elim
theorem call_setS {l : Addr} {items : Array Value} {xs : List Str} {Q : Value → Shared → Prop} (hh : A.handled = none) (hl : s.heap.IsList l items) (hi : StrsAre items.toList xs) (hb : xs.length + 1 < scanBound)
    (h : ∀ (h' : Heap) (tk : Nat) ks, TxS P w h' s.heap.objs.size ks → (∀ x, x ∈ ks ↔ x ∈ xs) → ks.length ≤ xs.length → (∀ b o, s.heap.get? b = some o → h'.get? b = some o) → Q (.ref s.heap.objs.size) { s with heap := h', toks := tk }) : wpAny (model P w) A (call (.type "set") [.ref l]) Q E s := by
  have sz : xs.length = items.size := by rw [← StrsAre.len_eq hi, Array.length_toList]
  let h1 := s.heap.push { cls := .type "set", dict := none, data := .set #[] 0 (.fresh 0 0 (!w.params.followText "set-order")) }
  have hS : h1.get? s.heap.objs.size = some { cls := .type "set", dict := none, data := .set #[] 0 (.fresh 0 0 (!w.params.followText "set-order")) } := Heap.get?_push_size _ rfl
  refine set_made (.ref l) (Q₁ := fun obj s₁ => obj = .ref s.heap.objs.size ∧ s₁ = { s with heap := h1 }) (code_set_led1 (.ref l) ⟨rfl, rfl⟩) fun obj s₁ ⟨e1, e2⟩ => ?_
  subst e1 e2
  refine ⟨⟨_, hS, rfl⟩, ?_⟩
  obtain ⟨⟨oc, odi, oda, osl⟩, ho, hc, nl, hd⟩ := hl
  replace hc : oc = .type "list" := hc
  replace hd : oda = .seq items nl := hd
  subst hc hd
  have ho' : h1.get? l = some { cls := .type "list", dict := odi, data := .seq items nl, slots := osl } := Heap.get?_push_of_some _ ho
  have s1 := F.sub_list_set
  have s2 := F.sub_list_frozenset
  have s3 : (Value.type "list" == Value.type "dict") = false := by decide
  have hl1 : h1.IsList l items := ⟨_, ho', rfl, nl, rfl⟩
  have T0 : TxS P w h1 s.heap.objs.size [] := TxS.new P w s.heap
  have z1 : h1.objs.size = s.heap.objs.size + 1 := Heap.size_push ..
  have k1 : ∀ b o, s.heap.get? b = some o → h1.get? b = some o := fun b o e => Heap.get?_push_of_some _ e
  have lS : l < s.heap.objs.size := Heap.lt_size ho
  clear_value h1
  unfold Builtin.«set.__init__» noKeywords Builtin.Frozenset.updateFrom
  generalize hPI : pyIter = PI
  wp_walk
  subst hPI
  refine wpAny_pyIter_list hl1 (wpAny_bind (wpAny_runValue ?_))
  have h3 : A.in1.in1.in1.handled = none := by simp [hh]
  have ne : l ≠ h1.objs.size := Nat.ne_of_lt (by rw [z1]; exact Nat.lt_succ_of_lt lS)
  refine tx_loop ((Walks.list h3 _ l ne items).toS) s.heap.objs.size (fun m => ?_) sz (fun i v hv => SS.strs_at hi i v (by rw [Array.getElem?_toList]; exact hv)) (by omega) (items.size - 0) 0 _ [] (by omega) (Nat.zero_le _) ⟨⟨_, Heap.get?_push_size _ rfl, rfl, rfl⟩, hl1.push _⟩ (T0.at fun o e => Heap.get?_push_of_some _ e) (fun x => by simp) (Nat.zero_le _) fun s' ks mv T hm hlen => ?_
  · rcases List.mem_cons.mp m with m | m
    · rw [z1] at m
      exact absurd m (Nat.ne_of_lt (Nat.lt_succ_self _))
    · exact absurd (List.mem_singleton.mp m) (Nat.ne_of_gt lS)
  · obtain ⟨h', g', d', tk', os'⟩ := s'
    obtain rfl : g' = s.gens := mv.gens
    obtain rfl : d' = s.drawn := mv.drawn
    obtain rfl : os' = s.os := mv.os
    refine wpAny_pure (wpAny_pure ⟨rfl, h h' tk' ks T hm (by omega) fun b o e => ?_⟩)
    have lb := Heap.lt_size e
    exact mv.heap b o (fun m => by
      rcases List.mem_cons.mp m with m | m
      · exact absurd m (Nat.ne_of_lt lb)
      · rw [List.mem_singleton.mp m, z1] at lb; exact absurd lb (Nat.not_lt_of_le (Nat.le_succ _))) (Heap.get?_push_of_some _ (k1 b o e))
end
end LWS
set_option Elab.async false
set_option linter.all false
set_option maxRecDepth 100000
set_option maxHeartbeats 4000000
namespace LWS
open PySem PySem.Spec PyProof.Rows L2
section
variable {P : Program} {w : World} {A : Around} {E : Value → Shared → Prop} {s : Shared} {a : Addr} {ks : List Str}
theorem strs_txs : ∀ {l : List (Int × Value)}, (∀ e ∈ l, TxE P w e) → StrsAre (l.map (·.2)) (l.map txOf)
  | [], _ => .nil
  | e :: r, g => by
    obtain ⟨x, u, rfl⟩ := g e List.mem_cons_self
    exact .cons x u (strs_txs fun e he => g e (List.mem_cons_of_mem _ he))
/-- sorted(s) of fewer than 64 texts -/
theorem sorted_txs {Q : Value → Shared → Prop} (R : TxS P w s.heap a ks) (hh : A.handled = none) (h64 : ks.length < 64)
    (hQ : ∀ s' p (out : Array Value) (c : Nat) (ys : List Str), (∀ b o, s.heap.get? b = some o → s'.heap.get? b = some o) → s'.gens = s.gens ∧ s'.os = s.os → s.heap.objs.size ≤ p → s'.heap.get? p = some (seqObj "list" out c) → StrsAre out.toList ys → ys.Perm ks → sortedS ys = true → Q (.ref p) s') :
    wpAny (model P w) A (call (.builtin "sorted") [.ref a]) Q E s := by
  obtain ⟨o, es, ep, t, ho, hex, hd, ⟨g, pm, nd⟩, hb, hf, hr, hl⟩ := R
  refine Calls.call_function_entry kind_sorted plain_sorted entry_sorted (args_sorted1 _) ?_
  unfold Builtin.«sorted»
  refine wpAny_bind (m := checkCount "sorted" 1 1 _) (wpAny_pure (wpAny_bind (collect_set (A := A.in1) hh ⟨o, ho, hex.1, hd⟩ hf hb hr hl fun s1 vs k1 hz g1 o1 pv => ?_)))
  have lv : vs.length = ks.length := by rw [pv.length_eq, List.length_map, ← pm.length_eq, List.length_map]
  have g' : ∀ e ∈ vs, ∃ x u, e = Value.str x u := fun v hv => by
    obtain ⟨e, he, rfl⟩ := List.mem_map.mp (pv.mem_iff.mp hv)
    obtain ⟨x, u, rfl⟩ := g e he
    exact ⟨x, u, rfl⟩
  have hS : StrsAre vs (vs.map fun v => txOf (0, v)) := by
    clear lv pv
    induction vs with
    | nil => exact .nil
    | cons v r ih =>
      obtain ⟨x, u, rfl⟩ := g' v List.mem_cons_self
      exact .cons x u (ih fun e he => g' e (List.mem_cons_of_mem _ he))
  have pk : (vs.map fun v => txOf (0, v)).Perm ks := by
    refine ((pv.map fun v => txOf (0, v)).trans ?_).trans pm
    rw [List.map_map]
    exact List.Perm.of_eq (List.map_congr_left fun e _ => rfl)
  refine wpAny_bind (wpAny_newList ?_ (by rw [lv, sizeLine_eq]; omega))
  have hoL : (s1.heap.push (seqObj "list" vs.toArray 0)).get? s1.heap.objs.size = some (seqObj "list" vs.toArray 0) := Heap.get?_push_size _ rfl
  refine wpAny_bind (wpAny_holding (wpAny_call_entry slot_list_sort ⟨_, hoL, rfl⟩ entry_list_sort (list_sort_treeK strKind_oneLt hoL hS.keysOf (fun v₁ v₂ rest e => keyKind_strs (by rw [← e]; exact hS)) (by rw [lv]; exact h64) fun st' hp hs => ?_) (args_list_sort _)))
  obtain ⟨ys, y1, y2, y3⟩ := sorted_out_str hS hp hs
  obtain ⟨c, hc⟩ := sortedHeap_at (vs := vs) (out := (arrOf st').map (·.2)) hoL
  refine ⟨_, rfl, wpAny_pure ⟨_, rfl, hQ _ s1.heap.objs.size _ c ys (fun b u e => ?_) ⟨g1, o1⟩ hz hc y1 (y2.trans pk) y3⟩⟩
  have q := k1 b u e
  have hlt := Heap.lt_size q
  exact (sortedHeap_old (Nat.ne_of_lt hlt) (by rw [size_push']; exact Nat.lt_succ_of_lt hlt)).trans (Heap.get?_push_of_some _ q)
end
/-- the set of these texts at a -/
def TxO (P : Program) (w : World) (a : Addr) (ks : List Str) : HO := .ext fun h => TxS P w h a ks
theorem txO_new {w : World} {P : Program} {H : Hp} {h : Heap} {a : Addr} {ks : List Str} (R : TxS P w h a ks) : ObjOk P w H h a (TxO P w a ks) := by
  have ⟨o, _, _, _, ho, _⟩ := R
  exact ⟨R, ⟨o, ho⟩, fun h1 h2 p k => TxS.at p k⟩
def rSetS (X : Cx) : List V → Hp → VK → Prop := fun vs H Q => ∃ (l : Addr) (xs : List Str), vs = [V.ref l] ∧ SqL X.K H l (xs.map V.str) ∧ xs.length ≤ 60 ∧ ∀ p ks, H p = none → (∀ x, x ∈ ks ↔ x ∈ xs) → ks.Nodup → ks.length ≤ xs.length → Q (.ref p) (upd H p (TxO X.prog X.w p ks))
theorem cr_setS {X : Cx} (hc : X.calm = true) : CallR X (.type "set") (rSetS X) := by
  intro pins s σ H vs us Q I r h
  obtain ⟨l, xs, rfl, hs, hz, q⟩ := h
  obtain ⟨its, rv, hl, _⟩ := I.list hs
  rw [Vals.ref1 r]
  refine call_setS (I.ok.hd hc) hl.isList (by rw [List.toList_toArray]; exact rv.strs) (by unfold scanBound; omega) fun h' tk ks T hm hlen k => ?_
  have nd : ks.Nodup := by obtain ⟨_, _, _, _, _, _, _, ⟨_, _, nd⟩, _⟩ := T; exact nd
  exact ⟨.ref _, upd H s.heap.objs.size (TxO X.prog X.w s.heap.objs.size ks), I.laid (t' := tk) k (Nat.le_refl _) (txO_new T), rfl, q _ ks (I.hok.fresh (Nat.le_refl _)) hm nd hlen⟩
def rSortTx (X : Cx) : List V → Hp → VK → Prop := fun vs H Q => ∃ (a : Addr) (ks : List Str), vs = [V.ref a] ∧ H a = some (TxO X.prog X.w a ks) ∧ ks.length < 64 ∧ ∀ ys p, ys.Perm ks → sortedS ys = true → H p = none → Q (.ref p) (upd H p (.lst (ys.map V.str)))
theorem cr_sortTx {X : Cx} (hc : X.calm = true) : CallR X (.builtin "sorted") (rSortTx X) := by
  intro pins s σ H vs us Q I r h
  obtain ⟨a, ks, rfl, ha, h64, q⟩ := h
  rw [Vals.ref1 r]
  refine sorted_txs (P := X.prog) (w := X.w) (I.hok a _ ha).1 (I.ok.hd hc) h64 fun s' p out c ys k ⟨g, o⟩ hp hg h1 h2 h3 => ?_
  have hlen : (ys.map V.str).length ≤ sizeLine := by rw [List.length_map, h2.length_eq]; exact small64 h64
  have hn : H p = none := I.hok.fresh hp
  have J : Inv X pins σ (upd H p (.lst (ys.map V.str))) { s with heap := s'.heap, gens := s'.gens, drawn := s'.drawn, toks := s'.toks } :=
    I.call (ch := []) (Un.laid k hp hn) (I.hok.laid k hp ⟨hlen, out.toList, c, vals_of_strs h1, hg⟩) (by rw [g]; exact I.bare) (fun _ z => nomatch z)
  have e : s' = { s with heap := s'.heap, gens := s'.gens, drawn := s'.drawn, toks := s'.toks } := by
    cases s'; cases s; cases o; rfl
  rw [e]
  exact ⟨.ref p, _, J, rfl, q ys p h2 h3 hn⟩
end LWS
namespace LW
open PySem L2
/-- sorted(set(e)), e a list of texts -/
theorem e_sortSet {X : Cx} {σ : St} {H : Hp} {e : Expr} {xs : List Str} {p1 p2 p3 pos : Pos} (hc : X.calm = true) (m1 : X.mg "sorted" = none) (m2 : X.mg "set" = none) (h : Cm H (nl (xs.map V.str)) (wE X e σ)) (hz : xs.length ≤ 60) (g1 : Gl X "sorted" := by rfl) (g2 : Gl X "set" := by rfl)
    (s1 : starEach [Expr.Call (.Name "set" p1) [e] [] p2] X.env = (false, eval (.Call (.Name "set" p1) [e] [] p2) X.env) :: starEach [] X.env := by rfl) (s2 : starEach [e] X.env = (false, eval e X.env) :: starEach [] X.env := by rfl) :
    Cm H (fun v H' => ∃ d ys, v = .ref d ∧ H' d = some (.lst (ys.map V.str)) ∧ ys.Nodup ∧ SortN ys ∧ ∀ x, x ∈ ys ↔ x ∈ xs) (wE X (.Call (.Name "sorted" p3) [.Call (.Name "set" p1) [e] [] p2] [] pos) σ) := by
  refine e_blt (LWS.cr_sortTx hc) m1 (a_cons (P := fun v H' => ∃ d ks, v = .ref d ∧ H' d = some (LWS.TxO X.prog X.w d ks) ∧ (∀ x, x ∈ ks ↔ x ∈ xs) ∧ ks.Nodup ∧ ks.length ≤ 60) (e_ty (LWS.cr_setS hc) m2 (a_cons h a_nil s2) (fun vs H1 e1 z => ?_) g2 (by decide +kernel) (by decide) (by decide) s2 (by rfl)) a_nil s1) (fun vs H1 e1 z => ?_) g1 (by decide +kernel) (by decide) (by decide) s1 (by rfl)
  · obtain ⟨_, _, rfl, ⟨b, rfl, hb⟩, rfl⟩ := z.now
    exact fun Hc ex Q q => ⟨b, xs, rfl, SqL.of (ex _ _ hb), hz, fun p ks hp hm nd hl => q _ _ _ (Grow.new ex hp) fun H' e' => ⟨p, ks, rfl, e' _ _ upd_same, hm, nd, Nat.le_trans hl hz⟩⟩
  · obtain ⟨_, _, rfl, ⟨d, ks, rfl, hd, hm, nd, hl⟩, rfl⟩ := z.now
    exact fun Hc ex Q q => ⟨d, ks, rfl, ex _ _ hd, by omega, fun ys p hp hs hn => q _ _ _ (Grow.new ex hn) fun H' e' => ⟨p, ys, rfl, e' _ _ upd_same, hp.nodup_iff.mpr nd, sortN_of hs, fun x => hp.mem_iff.trans (hm x)⟩⟩
end LW
set_option Elab.async false
set_option linter.all false
set_option maxRecDepth 100000
set_option maxHeartbeats 2000000
/-! tests whose outcome is drawn; xs[a:b] -/
namespace LW
open PySem L2
section
variable {X : Cx} {σ : St} {H Hc : Hp} {P : V → Hp → Prop} {a b c o i j : Expr} {pos p2 : Pos} {op : CmpOp} {r : R2} {Pa Pb : V → Hp → Prop} {ad : Addr} {xs : List V} {n m : Nat}
/-- true or false -/
abbrev any2 : Bool → Hp → Prop := fun _ _ => True
theorem t_cmpX (ho : OpR X (compareOp op) r) (hm : behindInMarks op b = false) (ha : Cm H Pa (wE X a σ)) (hb : Cm H Pb (wE X b σ)) (hr : ∀ x y H1, Ex H H1 → Pz H1 (Pa x) → Pz H1 (Pb y) → ∃ k, Cm H1 (is (V.bl k)) (r x y)) : Cm H any2 (wT X (.Compare a [op] [b] pos) σ) :=
  ct (pt_cmpR ho pe_w pe_w hm) (cm1 (Pa := fun v _ => ∃ k, v = V.bl k) (u := fun v Hc Q => ∃ c, v = .bl c ∧ Q c Hc) (cm2 ha hb fun x y H1 e p q => by
    obtain ⟨k, z⟩ := hr x y H1 e p q
    exact z.imp fun v H' _ e => ⟨k, e⟩) fun v H1 e p => by
    obtain ⟨k, rfl⟩ := p.now
    exact Cm.ret (fun _ _ _ q => ⟨k, rfl, q⟩) (.const trivial))
theorem e_ifX (h : Cm H any2 (wT X c σ)) (h1 : Cm H P (wE X a σ)) (h2 : Cm H P (wE X b σ)) : Cm H P (wE X (.IfExp c a b pos) σ) :=
  ce (pe_ifExp pt_w pe_w pe_w) (cm1 (u := fun k Hc Q => if k = true then wE X a σ Hc Q else wE X b σ Hc Q) h fun k H1 e _ => by
    cases k with
    | true => exact h1.mono e
    | false => exact h2.mono e)
theorem cut_lh {xs : List V} {n m : Nat} (h : n ≤ xs.length) (h2 : m ≤ xs.length) : cutV xs (some (n : Int)) (some (m : Int)) = (xs.drop n).take (m - n) := by
  unfold cutV
  rw [HT.sIx_nat, HT.sIx_nat, Nat.min_eq_left h, Nat.min_eq_left h2]
theorem e_slLH (ho : Cm H (is (V.ref ad)) (wE X o σ)) (hi : Cm H (is (V.int (n : Int))) (wE X i σ)) (hj : Cm H (is (V.int (m : Int))) (wE X j σ)) (h : Pz H (fun H' => SqL X.K H' ad xs)) (hn : n ≤ xs.length) (hm : m ≤ xs.length) : Cm H (nl ((xs.drop n).take (m - n))) (wE X (.Subscript o (.Slice (some i) (some j) none p2) pos) σ) := by
  refine ce (pe_slice sl_list pe_w (po_some pe_w) (po_some pe_w)) fun Hc ex Q q => ho Hc ex _ fun v Hn H2 g p => ?_
  obtain rfl : v = V.ref ad := p.now
  show wE X i σ H2 _
  refine hi.mono g.k H2 g.s _ fun w Hm H3 g3 p3 => ?_
  obtain rfl : w = V.int (n : Int) := p3.now
  refine ⟨(n : Int), rfl, ?_⟩
  show wE X j σ H3 _
  refine hj.mono (g.k.trans g3.k) H3 g3.s _ fun w Hm H4 g4 p4 => ?_
  obtain rfl : w = V.int (m : Int) := p4.now
  refine ⟨(m : Int), rfl, ad, xs, rfl, h H4 (((g.k.trans g3.k).trans g4.k).trans g4.s), fun b hb => ?_⟩
  rw [cut_lh hn hm]
  exact q _ _ _ (((g.trans g3).trans g4).trans (Grow.new g4.s hb)) fun H' e => ⟨b, rfl, e _ _ upd_same⟩
end
end LW
set_option Elab.async false
set_option linter.all false
set_option maxRecDepth 100000
set_option maxHeartbeats 2000000
/-! a head's facts: defs by where they stand, whatever holds them; tests of one's own -/
namespace LW
open PySem PySem.Spec PyProof.Rows L2 He
/-- one def: where it stands, its names, its text -/
structure DfY where
  ad : PySem.W.Frag → Addr
  nm : Str
  qual : Str
  st : Stmt
def fdOf (K : PySem.W.Frag) (a : Addr) : Option FuncData := (K.lookup a).bind fun o => match o.data with
  | .func fd => some fd
  | _ => none
theorem fdOf_some {K : PySem.W.Frag} {a : Addr} {fd : FuncData} (h : fdOf K a = some fd) : ∃ oc od osl, K.lookup a = some ⟨oc, od, .func fd, osl⟩ := by
  obtain ⟨o, e1, e2⟩ := Option.bind_eq_some_iff.mp h
  obtain ⟨oc, od, dt, osl⟩ := o
  cases dt with
  | func fd' =>
    have e3 : fd' = fd := Option.some.inj e2
    exact ⟨oc, od, osl, by rw [e1, e3]⟩
  | _ => cases e2
def fdW (fd : FuncData) : Str × Str × Arguments × FuncBody × Scope × Addr × List (Str × Addr) × Addr := (fd.name, fd.qualname, fd.params, fd.body, fd.scope, fd.globals, fd.closure, fd.builtins)
def fnAt (K : PySem.W.Frag) (a : Addr) : FnW := (fdOf K a).map fdW
def DfY.val (d : DfY) : FnW := some (d.nm, d.qual, defArgs d.st, .stmts (defBody d.st), defScope d.st, mainGlobals, [], builtinsNs)
def isNo : Value → Bool
  | .none => true
  | _ => false
def fdB (K : PySem.W.Frag) (q : Str) (o : Option FuncData) : Bool := o.any fun fd => PySem.W.codeIn K fd.code q && isNo fd.defaults
def DfY.ok (K : PySem.W.Frag) (d : DfY) : Bool := PySem.W.keepIn K (.ref (d.ad K)) && fdB K d.qual (fdOf K (d.ad K))
theorem fd_split {fd : FuncData} {x q : Str} {ps : Arguments} {b : List Stmt} {sc : Scope} (h : fdW fd = (x, q, ps, .stmts b, sc, mainGlobals, [], builtinsNs)) (n : isNo fd.defaults = true) : fd = PySem.W.fnOf x q ps b sc .none fd.kwdefaults fd.doc fd.pyModule fd.annotations fd.code fd.closureTuple := by
  obtain ⟨n1, n2, n3, n4, n5, n6, n7, n8, n9, n10, n11, n12, n13, n14, n15⟩ := fd
  unfold fdW at h
  simp only [Prod.mk.injEq] at h
  obtain ⟨h1, h2, h3, h4, h5, h6, h7, h8⟩ := h
  subst h1 h2 h3 h4 h5 h6 h7 h8
  have e : n8 = Value.none := by
    cases n8 with
    | none => rfl
    | _ => exact absurd (show false = true from n) Bool.false_ne_true
  subst e
  rfl
theorem DfY.fun_ {K : PySem.W.Frag} {d : DfY} (e : fnAt K (d.ad K) = d.val) (c : d.ok K = true) : ∃ fd, L2.Fun K d.nm d.qual d.st (d.ad K) fd := by
  unfold DfY.ok at c
  obtain ⟨kp, c2⟩ := Bool.and_eq_true_iff.mp c
  unfold fnAt at e
  obtain ⟨fd, e1, e2⟩ := Option.map_eq_some_iff.mp e
  rw [e1] at c2
  unfold fdB at c2
  rw [Option.any_some] at c2
  obtain ⟨k1, k2⟩ := Bool.and_eq_true_iff.mp c2
  obtain ⟨oc, od, osl, lk⟩ := fdOf_some e1
  have s := fd_split e2 k2
  refine ⟨fd, ⟨oc, od, fd.kwdefaults, fd.doc, fd.pyModule, fd.annotations, fd.code, fd.closureTuple, osl, s, lk, k1⟩, kp⟩
abbrev AlY : Type := AlD × (Bool × List FnW)
def obsY (fa : List Fa) (fn : List DefD) (ds : List DfY) (ex : PySem.W.Frag → Bool) (K : PySem.W.Frag) : AlY := (obsD fa fn K, (ex K && ds.all fun d => d.ok K, ds.map fun d => fnAt K (d.ad K)))
def valY (fn : List DefD) (ds : List DfY) : AlY := (valD fn, (true, ds.map DfY.val))
def SaysY (fa : List Fa) (fn : List DefD) (ds : List DfY) (ex : PySem.W.Frag → Bool) (K : PySem.W.Frag) : Prop := obsY fa fn ds ex K = valY fn ds
def asY (g : Addr → Option Obj) : Nat → List Addr
  | 0 => [mainGlobals, cStatics]
  | n + 1 => growD g (asY g n)
def obsYG (n : Nat) (fa : List Fa) (fn : List DefD) (ds : List DfY) (ex : PySem.W.Frag → Bool) (g : Addr → Option Obj) : AlY := obsY fa fn ds ex (frG g (asY g n))
def hookY (n : Nat) (fa : List Fa) (fn : List DefD) (ds : List DfY) (ex : PySem.W.Frag → Bool) : PySem.W.Hook where
  α := AlY
  obs := fun s => obsYG n fa fn ds ex s.heap.get?
  val := fun _ => valY fn ds
  says := fun _ h => ∃ K : PySem.W.Frag, K.In h ∧ SaysY fa fn ds ex K
  of := fun _ _ e => ⟨_, frG_in, e⟩
  keeps := fun _ _ _ ⟨K, hK, c⟩ k => ⟨K, hK.keeps k, c⟩
theorem obsYG_eq {n : Nat} {fa : List Fa} {fn : List DefD} {ds : List DfY} {ex : PySem.W.Frag → Bool} {g : Addr → Option Obj} {s : Shared} (h : ∀ a, g a = s.heap.get? a) : obsYG n fa fn ds ex g = (hookY n fa fn ds ex).obs s := by
  obtain rfl : g = s.heap.get? := funext h
  rfl
section
variable {fa : List Fa} {fn : List DefD} {ds : List DfY} {ex : PySem.W.Frag → Bool} {K : PySem.W.Frag}
theorem SaysY.d (c : SaysY fa fn ds ex K) : SaysD fa fn K := congrArg (fun z : AlY => z.1) c
theorem SaysY.fact (c : SaysY fa fn ds ex K) (i : Nat) {f : Fa} (h : fa[i]? = some f := by rfl) : f.ok K = true := c.d.fact i h
theorem SaysY.two (c : SaysY fa fn ds ex K) : ex K = true ∧ (ds.all fun d => d.ok K) = true := ba (show (ex K && ds.all fun d => d.ok K) = true from congrArg (fun z : AlY => z.2.1) c)
theorem SaysY.def_ (c : SaysY fa fn ds ex K) (i : Nat) {d : DfY} (h : ds[i]? = some d := by rfl) : ∃ fd, L2.Fun K d.nm d.qual d.st (d.ad K) fd := by
  have e : ds.map (fun d => fnAt K (d.ad K)) = ds.map DfY.val := congrArg (fun z : AlY => z.2.2) c
  have e2 : (ds.map fun d => fnAt K (d.ad K))[i]? = (ds.map DfY.val)[i]? := by rw [e]
  rw [List.getElem?_map, List.getElem?_map, h] at e2
  exact DfY.fun_ (Option.some.inj e2) (List.all_eq_true.mp c.two.2 d (List.mem_of_getElem? h))
end
/-! where things stand -/
/-- the module's name x; the class x's m; what the record of that m holds -/
def atG (x : Str) (K : PySem.W.Frag) : Addr := ga K x
def atM (x m : Str) (K : PySem.W.Frag) : Addr := ma K (ga K x) m
def refs1 : Option (List Value) → Option Addr
  | some (.ref g :: _) => some g
  | _ => none
theorem refs1_some {r : Option (List Value)} {g : Addr} (h : refs1 r = some g) : ∃ rest, r = some (.ref g :: rest) := by
  cases r with
  | none => cases h
  | some l =>
    cases l with
    | nil => cases h
    | cons v rest =>
      cases v with
      | ref a =>
        have e : a = g := Option.some.inj h
        exact ⟨rest, by rw [e]⟩
      | _ => cases h
def atR (T : String) (x m : Str) (K : PySem.W.Frag) : Addr := (refs1 (PySem.W.recIn K (atM x m K) T)).getD 0
def recB (K : PySem.W.Frag) (T : String) (x m : Str) : Bool := (refs1 (PySem.W.recIn K (atM x m K) T)).isSome
theorem recB_ok {K : PySem.W.Frag} {T : String} {x m : Str} (h : recB K T x m = true) : ∃ rest, PySem.W.recIn K (atM x m K) T = some (.ref (atR T x m K) :: rest) := by
  obtain ⟨g, e⟩ := Option.isSome_iff_exists.mp h
  obtain ⟨rest, r⟩ := refs1_some e
  refine ⟨rest, ?_⟩
  unfold atR
  rw [e, r]
  rfl
/-- what a class gives for its name m by a record's __get__; a class's number -/
def got1 : Option PySem.W.CFound → Option (String × Addr × Addr)
  | some (.get (.builtin i) (.ref p) .none (.ref c)) => some (i, p, c)
  | _ => none
theorem got1_some {r : Option PySem.W.CFound} {i : String} {p c : Addr} (h : got1 r = some (i, p, c)) : r = some (.get (.builtin i) (.ref p) .none (.ref c)) := by
  unfold got1 at h
  split at h
  · simp only [Option.some.injEq, Prod.mk.injEq] at h
    obtain ⟨h1, h2, h3⟩ := h
    rw [h1, h2, h3]
  · cases h
def gotB (K : PySem.W.Frag) (id : String) (x m : Str) : Bool := decide (got1 (PySem.W.findCls K (.ref (ga K x)) (.type "type") m) = some (id, atM x m K, ga K x))
theorem gotB_ok {K : PySem.W.Frag} {id : String} {x m : Str} (h : gotB K id x m = true) : PySem.W.findCls K (.ref (ga K x)) (.type "type") m = some (.get (.builtin id) (.ref (atM x m K)) .none (.ref (ga K x))) := got1_some (of_decide_eq_true h)
def num1 : Option PySem.W.CFound → Option Int
  | some (.val (.int j _)) => some j
  | _ => none
theorem num1_some {r : Option PySem.W.CFound} {j : Int} (h : num1 r = some j) : ∃ t, r = some (.val (.int j t)) := by
  unfold num1 at h
  split at h
  · exact ⟨_, by rw [Option.some.inj h]⟩
  · cases h
def numB (K : PySem.W.Frag) (x m : Str) (i : Int) : Bool := decide (num1 (PySem.W.findCls K (.ref (ga K x)) (.type "type") m) = some i)
theorem numB_ok {K : PySem.W.Frag} {x m : Str} {i : Int} (h : numB K x m i = true) : ∃ u, ClX.CVal K (ga K x) (.type "type") m (.int i) u := by
  obtain ⟨t, e⟩ := num1_some (of_decide_eq_true h)
  exact ⟨_, e, ⟨t, rfl⟩⟩
def opB {α : Type} [DecidableEq α] (a b : Option α) : Bool := decide (a = b)
theorem opB_ok {α : Type} [DecidableEq α] {a b : Option α} (h : opB a b = true) : a = b := of_decide_eq_true h
/-! ### rules of defs, of their texts -/
section
variable {P : Program} {w : World} {K : PySem.W.Frag} {mg : Str → Option Value} {base : Heap} {x qual : Str} {st : Stmt} {f : Addr} {fd : FuncData} {N ps : List Str} {k : Nat}
theorem starOk_of {pv : Str} (F : L2.Fun K x qual st f fd) (S : FnScope N (ps ++ [pv]) (defScope st)) (hb : ∀ (kV doc pm : Value) (an : Option Addr) (cdv ct : Value) (us rest : List Value), us.length = ps.length →
      bindArgs (PySem.W.fnOf x qual (defArgs st) (defBody st) (defScope st) .none kV doc pm an cdv ct) ⟨us ++ rest, []⟩ = (newTuple rest >>= fun t => pure (ps.zip us ++ [(pv, t)]))) : StarOk P w K mg base N qual st f ps.length k := by
  intro sp body
  obtain ⟨oc, od, kV, doc, pm, an, cdv, ct, osl, rfl, lk, hcd⟩ := F.ex
  exact StX.fn_star lk hcd S StX.cxUp_none (hb kV doc pm an cdv ct) fun A outer s H vs Q E hr h => by
    obtain ⟨t, h1, h2⟩ := body cdv A outer s H vs Q E hr h
    exact ⟨t, h1.nox, h2⟩
theorem defOk_of {dvs : List V} (F : FunD K x qual (defArgs st) (defBody st) (defScope st) dvs [] f fd) (S : FnScope N ps (defScope st)) : DefOk P w K mg base N qual st f fd ps k := fun sp len body =>
  F.ok S len fun cdv A outer s H vs Q E hr h => by
    obtain ⟨t, h1, h2⟩ := body cdv A outer s H vs Q E hr h
    exact ⟨t, h1.nox, h2⟩
end
end LW
set_option Elab.async false
set_option linter.all false
set_option maxRecDepth 100000
set_option maxHeartbeats 2000000
namespace K19
open PySem L2 LW
def top (i : Nat) : Stmt := PySem.Challenge.pw_outsigns_k19_paths_rings_and_full_nets.main.body.getD i (.Pass ⟨0, 0, 0, 0⟩)
abbrev sName : Stmt := top 19
abbrev sIsLink : Stmt := top 20
abbrev sLinkOf : Stmt := top 21
abbrev sSortN : Stmt := top 23
abbrev sSortL : Stmt := top 24
/-- the module's names that stand for built-ins, and the constants -/
structure Blt (K : PySem.W.Frag) (mg : Str → Option Value) : Prop where
  isi : mg "isinstance" = none
  len : mg "len" = none
  all : mg "all" = none
  «str» : mg "str" = none
  «tuple» : mg "tuple" = none
  list : mg "list" = none
  sorted : mg "sorted" = none
  enum : mg "enumerate" = none
  range : mg "range" = none
  letters : ∃ t, mg "LETTERS" = some (.str "abcdefghijklmnopqrstuvwxyz" t)
  longest : ∃ t, mg "LONGEST_NAME" = some (.int 8 t)
section
variable {P : Program} {w : World} {K : PySem.W.Frag} {mg : Str → Option Value} {base : Heap} {f : Addr} {fd : FuncData}
theorem scName : FnScope ["value", "sign"] ["value"] (defScope sName) := ⟨rfl, rfl, rfl, by decide +kernel, rfl, by decide +kernel, by decide +kernel⟩
theorem letter_in {c : Nat} (h : 97 ≤ c ∧ c ≤ 122) : c ∈ ("abcdefghijklmnopqrstuvwxyz" : Str).cps.toList := by
  have e : ("abcdefghijklmnopqrstuvwxyz" : Str).cps.toList = (List.range 26).map (· + 97) := by decide +kernel
  rw [e]
  exact List.mem_map.mpr ⟨c - 97, List.mem_range.mpr (by omega), by omega⟩
theorem b_name (B : Blt K mg) : Body P w K mg base ["value", "sign"] "is_name" sName f 0 (fun (x : Str) vs _ => vs = [.str x] ∧ Nm x) (fun _ v _ => v = .bl true) := by
  intro cdv Ar outer s H0 E x vs H Hc D hr ex pa rt nx
  obtain ⟨rfl, h1, h2, h3⟩ := pa.now
  obtain ⟨tl, hL⟩ := B.letters
  obtain ⟨tn, hN⟩ := B.longest
  refine b_ifF ex (t_w (w_or (k := false) (k' := false) (t_not (k := true) (t_val (e_isi (ty := .type "str") (u := .type "str") B.isi (e_var 0) (e_bltn (v := .ty "str") rfl B.«str» (by decide +kernel) rfl) (fun _ _ => TyX.base (TyOf.str x)) (.ty _) (kit_ty (by decide +kernel))))) fun _ =>
    w_or1 (t_not (k := true) ?_))) fun Hn H2 g => b_nil (b_ret (P := is (V.bl true)) g.s (Cm.imp (e_all (bs := List.replicate x.cps.size true) rfl B.all ?_) fun v H' _ q => ?_) fun v Hn2 H3 g3 p => rt v _ _ (g.trans g3) p)
  · refine t_is (t_chainI op_le op_le e_int (e_lenS B.len (e_var (v := V.str x) 0) (by omega)) (e_glob (v := V.int 8) rfl hN ⟨tn, rfl⟩)) ?_
    rw [decide_eq_true (by omega), decide_eq_true (by omega)] <;> rfl
  · refine e_lc (own := [("sign", 1)]) (g := gName 1) rfl scName.nd (pi_str pe_w) (blkOk_by (N := ["value", "sign"]) (sc := defScope sName) (by decide +kernel)) (fun _ _ _ _ _ => pg_name (i := 1) scName.nd rfl (.inl rfl)) (fun _ _ _ _ _ => pts_nil)
      (c_lc (i_str (e_var (v := V.str x) 0)) (show x.length ≤ 100000 by omega) (fun i acc _ => acc = (List.replicate i true).map V.bl) (fun _ => rfl) (fun i y acc H1 hi e1 py pacc => ?_) fun acc p H1 e1 pacc hp => ?_)
    · obtain ⟨c, hc, rfl⟩ := py.now
      have hm : c ∈ x.cps.toList := by
        obtain ⟨q1, q2⟩ := Array.getElem?_eq_some_iff.mp hc
        rw [← q2]; exact Array.mem_toList_iff.mpr (Array.getElem_mem q1)
      refine ⟨_, true, bind_name, rfl, c_yes, fun _ => c_eb fun s H0 C cl fp => ?_, fun q => nomatch q⟩
      refine Cm.imp (e_cmpD (x := V.str ⟨#[c]⟩) op_in_sign (by rfl) (e_var 1) (e_glob (v := V.str "abcdefghijklmnopqrstuvwxyz") rfl hL ⟨tl, rfl⟩) (P := is (V.bl true)) (Cm.ret (fun _ _ _ q => ⟨c, _, rfl, rfl, by rw [decide_eq_true (letter_in (h3 c hm))]; exact q⟩) (.const rfl))) fun v H' _ q => ?_
      have ea : acc = (List.replicate i true).map V.bl := pacc.now
      rw [ea, q, List.replicate_succ', List.map_append] <;> rfl
    · have ea : acc = (List.replicate _ true).map V.bl := pacc.now
      subst ea
      exact fun H' e' => ⟨p, rfl, SqL.of (e' _ _ hp)⟩
  · rw [q]
    congr 1
    exact List.all_eq_true.mpr fun b hb => (List.eq_of_mem_replicate hb)
end
end K19
set_option Elab.async false
set_option linter.all false
set_option maxRecDepth 100000
set_option maxHeartbeats 2000000
namespace K19
open PySem L2 LW
abbrev sPot : Stmt := top 39
abbrev sDraw : Stmt := top 40
abbrev sLink : Stmt := top 42
abbrev sLabel : Stmt := top 43
abbrev sLabels : Stmt := top 44
/-- built-ins of the law's own part -/
structure BltL (mg : Str → Option Value) : Prop where
  dm : mg "divmod" = none
  int : mg "int" = none
  max : mg "max" = none
  abs : mg "abs" = none
  len : mg "len" = none
  range : mg "range" = none
section
variable {P : Program} {w : World} {K : PySem.W.Frag} {mg : Str → Option Value} {base : Heap} {f : Addr} {fd : FuncData}
/-- a number is drawn -/
def AD : Addr × Int → List V → Hp → Prop := fun x vs H => vs = [.ref x.1, .int x.2] ∧ H x.1 = some (PotO x.1) ∧ 0 < x.2 ∧ x.2 < 1073741824
def RD : Addr × Int → V → Hp → Prop := fun x v _ => ∃ r : Int, v = .int r ∧ 0 ≤ r ∧ r < x.2
theorem scDraw : FnScope ["_law_pot_here", "_law_size", "_law_digit"] ["_law_pot_here", "_law_size"] (defScope sDraw) := ⟨rfl, rfl, rfl, by decide +kernel, rfl, by decide +kernel, by decide +kernel⟩
theorem b_draw (B : BltL mg) : Body P w K mg base ["_law_pot_here", "_law_size", "_law_digit"] "_law_draw" sDraw f 0 AD RD := by
  intro cdv Ar outer s H0 E x vs H Hc D hr ex pa rt nx
  obtain ⟨p, n⟩ := x
  obtain ⟨rfl, hp, h1, h2⟩ := pa.now
  refine b_pot (p := p) (ex _ _ hp) fun a b ha hb hb2 => ?_
  have g0 := pot_begin (p := p) (o := .lst [V.int a, V.int b]) ex
  have own : Ex (upd (off H p) p (.lst [V.int a, V.int b])) (upd Hc p (.lst [V.int a, V.int b])) := g0.s.own upd_same
  have ix : ∀ {H'}, Ex (upd (off H p) p (.lst [V.int a, V.int b])) H' → Pz H' (fun H' => SqL K H' p [V.int a, V.int b]) := fun e => .sql (SqL.of (e _ _ upd_same))
  refine b_if own (k := decide (0 < a)) (t_cmpD op_gt (by rfl) (e_item (j := 0) (e_var 0) e_int (ix (Evl.Ex.refl _)) rfl) e_int (r_I0 (g := fun i j => V.bl (decide (j < i))) (i := a) (j := 0))) (fun hk Hn H2 g => ?_) fun hk Hn H2 g => ?_
  · have g1 := g0.looked (n := off_at) g
    refine b_asg (H := upd (off H p) p (.lst [V.int a, V.int b])) (g := gTup K 2 (gCons (gSub (wE _ _) (wE _ _) rSetL) (gCons (gName 2) gNil))) (P := fun v H' => ∃ t, v = .ref t ∧ SqT K H' t [V.int (a / n), V.int (a % n)]) (g.k.trans g.s)
      (e_bltD (P := fun v H' => ∃ t, v = .ref t ∧ SqT K H' t [V.int (a / n), V.int (a % n)]) call_divmod B.dm (a_consD (e_item (j := 0) (e_var 0) e_int (ix (Evl.Ex.refl _)) rfl) (a_consD (e_var 1) a_nil)) ?_) (pg_tup rfl (pgs_cons (pg_sub pe_w pe_w set_list) (pgs_cons (pg_name (i := 2) scDraw.nd rfl (.inl rfl)) pgs_nil))) ?_
    · exact Cm.fresh (o := .tup [V.int (a / n), V.int (a % n)]) (fun _ _ Q q => ⟨a, n, rfl, ⟨h1, h2⟩, q⟩) fun t _ H' e => ⟨t, rfl, .of (e _ _ upd_same)⟩
    · intro v Hm H3 g3 pv
      obtain ⟨t, rfl, hq⟩ := pv H3 g3.s
      have hp3 : H3 p = some (.lst [V.int a, V.int b]) := g3.c _ _ (g.c _ _ upd_same)
      refine ⟨t, _, rfl, hq, rfl, _, _, rfl, ?_⟩
      refine (e_var (H := Hm) (v := V.ref p) 0) H3 g3.s _ fun u Hk H4 g4 q => (e_int (H := Hk) (i := 0)) H4 g4.s _ fun u2 Hl H5 g5 q2 => ?_
      obtain rfl : u = V.ref p := q.now
      obtain rfl : u2 = V.int 0 := q2.now
      refine ⟨p, _, 0, 0, rfl, rfl, g5.c _ _ (g4.c _ _ hp3), by rfl, V.int (a % n), [], rfl, rfl, ?_⟩
      have hm : 0 ≤ a / n := Int.ediv_nonneg ha (Int.le_of_lt h1)
      refine b_ret (P := is (V.int (a % n))) (Evl.Ex.refl _) (e_var 2) fun v Hz H6 g6 p6 => ?_
      obtain rfl : v = V.int (a % n) := p6.now
      have hp6 : H6 p = some (.lst [V.int (a / n), V.int b]) := g6.c _ _ upd_same
      refine ⟨⟨a / n, b, hm, hb, hb2, hp6⟩, rt _ _ _ (pot_end (Hn := off H p) ex hp (still ?_ ?_)) fun _ _ => ⟨_, rfl, Int.emod_nonneg _ (by omega), Int.emod_lt_of_pos _ h1⟩⟩
      · exact ((((g1.s.trans g3.c).trans g4.c).trans g5.c).mut off_at).trans g6.c
      · exact ((((g1.c.trans g3.c).trans g4.c).trans g5.c).mut off_at).trans g6.c
  · have g1 := g0.looked (n := off_at) g
    refine b_nil ?_
    generalize hb' : (b * 48271 + 12161) % 2147483587 = b'
    have hb0 : 0 ≤ b' := by rw [← hb']; exact Int.emod_nonneg _ (by decide)
    have hb1 : b' < 2147483587 := by rw [← hb']; exact Int.emod_lt_of_pos _ (by decide)
    refine b_asg (H := upd (off H p) p (.lst [V.int a, V.int b])) (g := gSub (wE _ _) (wE _ _) rSetL) (P := is (V.int b')) (g.k.trans g.s)
      (e_opD op_mod (e_tyD (P := is (V.int (b * 48271 + 12161))) call_int1 B.int (a_consD (e_opD op_add (e_opD op_mul (e_item (j := 1) (e_var 0) e_int (ix (Evl.Ex.refl _)) rfl) e_int (r_I (g := fun i j => V.int (i * j)) (i := b) (j := 48271) (.inr ⟨by decide, by decide⟩))) e_int (r_I0 (g := fun i j => V.int (i + j)) (i := b * 48271) (j := 12161))) a_nil)
        (Cm.ret (fun _ _ _ q => .inl ⟨_, rfl, q⟩) (.const rfl))) e_int (t_is (r_I (g := fun i j => V.int (i % j)) (i := b * 48271 + 12161) (j := 2147483587) (by decide)) (by rw [hb']))) (pg_sub pe_w pe_w set_list) fun v Hm H3 g3 pv => ?_
    obtain rfl : v = V.int b' := pv.now
    refine (e_var (H := Hm) (v := V.ref p) 0) H3 g3.s _ fun u Hk H4 g4 q => (e_int (H := Hk) (i := 1)) H4 g4.s _ fun u2 Hl H5 g5 q2 => ?_
    obtain rfl : u = V.ref p := q.now
    obtain rfl : u2 = V.int 1 := q2.now
    refine ⟨p, _, 1, 1, rfl, rfl, g5.c _ _ (g4.c _ _ (g3.c _ _ (g.c _ _ upd_same))), by rfl, ?_⟩
    have own5 : Ex (upd (off H p) p (.lst [V.int a, V.int b'])) (upd H5 p (.lst [V.int a, V.int b'])) := Ex.own (((((g1.s.trans g3.c).trans g4.c).trans g5.c).mut off_at)) upd_same
    have ix5 : ∀ {H'}, Ex (upd (off H p) p (.lst [V.int a, V.int b'])) H' → Pz H' (fun H' => SqL K H' p [V.int a, V.int b']) := fun e => .sql (SqL.of (e _ _ upd_same))
    refine b_ret (P := is (V.int (b' * b' % 2147483549 / 13 % n))) own5 (e_opD op_mod (e_tyD (P := is (V.int (b' * b' % 2147483549 / 13))) call_int1 B.int (a_consD (e_opD op_fdiv (e_opD op_mod (e_tyD (P := is (V.int (b' * b'))) call_int1 B.int
      (a_consD (e_opD op_mul (e_item (j := 1) (e_var 0) e_int (ix5 (Evl.Ex.refl _)) rfl) (e_item (j := 1) (e_var 0) e_int (ix5 (Evl.Ex.refl _)) rfl) (r_I (g := fun i j => V.int (i * j)) (i := b') (j := b') (.inr ⟨by omega, by omega⟩))) a_nil) (Cm.ret (fun _ _ _ q => .inl ⟨_, rfl, q⟩) (.const rfl)))
      e_int (r_I (g := fun i j => V.int (i % j)) (i := b' * b') (j := 2147483549) (by decide))) e_int (r_I (g := fun i j => V.int (i / j)) (i := b' * b' % 2147483549) (j := 13) ⟨by decide, by decide⟩)) a_nil) (Cm.ret (fun _ _ _ q => .inl ⟨_, rfl, q⟩) (.const rfl)))
      (e_var 1) (r_I (g := fun i j => V.int (i % j)) (i := b' * b' % 2147483549 / 13) (j := n) h1)) fun v Hz H6 g6 p6 => ?_
    obtain rfl : v = V.int (b' * b' % 2147483549 / 13 % n) := p6.now
    refine ⟨⟨a, b', ha, hb0, by omega, g6.c _ _ upd_same⟩, rt _ _ _ (pot_end (Hn := off H p) ex hp (still ?_ ?_)) fun _ _ => ⟨_, rfl, Int.emod_nonneg _ (by omega), Int.emod_lt_of_pos _ h1⟩⟩
    · exact ((((g1.s.trans g3.c).trans g4.c).trans g5.c).mut off_at).trans g6.c
    · exact ((((g1.c.trans g3.c).trans g4.c).trans g5.c).mut off_at).trans g6.c
end
end K19
set_option Elab.async false
set_option linter.all false
set_option maxRecDepth 100000
set_option maxHeartbeats 2000000
namespace K19
open PySem L2 LW
section
variable {P : Program} {w : World} {K : PySem.W.Frag} {mg : Str → Option Value} {base : Heap} {f : Addr} {fd : FuncData}
def AName : Str → List V → Hp → Prop := fun x vs _ => vs = [.str x] ∧ Nm x
def RTrue {α : Type} : α → V → Hp → Prop := fun _ v _ => v = .bl true
/-- two different names -/
def Lk (p : Str × Str) : Prop := Nm p.1 ∧ Nm p.2 ∧ p.1 ≠ p.2
def AIsL (K : PySem.W.Frag) : Str × Str → List V → Hp → Prop := fun p vs H => ∃ t, vs = [.ref t] ∧ SqT K H t [.str p.1, .str p.2] ∧ Lk p
theorem scIsL : FnScope ["value"] ["value"] (defScope sIsLink) := ⟨rfl, rfl, rfl, by decide +kernel, rfl, by decide +kernel, by decide +kernel⟩
theorem b_isLink (B : Blt K mg) (FN : Fn P w K mg base "is_name" 1 AName RTrue) : Body P w K mg base ["value"] "is_link" sIsLink f 1 (AIsL K) RTrue := by
  intro cdv Ar outer s H0 E x vs H Hc D hr ex pa rt nx
  obtain ⟨t, rfl, h1, h2, h3, h4⟩ := pa.now
  have tq : Pz H (fun H' => SqT K H' t [V.str x.1, V.str x.2]) := .sqt h1
  refine b_ifF ex (t_w (w_or (k := false) (k' := false) (t_not (k := true) (t_val (e_isi (ty := .type "tuple") (u := .type "tuple") B.isi (e_var 0) (e_bltn (v := .ty "tuple") rfl B.«tuple» (by decide +kernel) rfl) ?_ (.ty _) (kit_ty (by decide +kernel))))) fun _ =>
    w_or1 ?_)) fun Hn H2 g => b_nil (b_ret (P := is (V.bl true)) g.s ?_ fun v Hn2 H3 g3 p => rt v _ _ (g.trans g3) p)
  · exact tq.imp fun _ _ z => ty_sqt z
  · exact t_is (t_cmpD op_ne (by rfl) (e_len B.len (e_var 0) (tq.imp fun _ _ z => .inr z)) e_int (r_ne (x := V.int 2) (y := V.int 2) rfl)) rfl
  · have q := tq.mono g.k
    exact e_and (k := true) (k' := true) (e_callD x.1 FN hr (a_consD (e_itemT (j := 0) (e_var 0) e_int q rfl) a_nil) (.const ⟨rfl, h2⟩)) fun _ =>
      e_and (k := true) (k' := true) (e_callD x.2 FN hr (a_consD (e_itemT (j := 1) (e_var 0) e_int q rfl) a_nil) (.const ⟨rfl, h3⟩)) fun _ =>
        e_one (t_is (e_cmpD op_ne (by rfl) (e_itemT (j := 0) (e_var 0) e_int q rfl) (e_itemT (j := 1) (e_var 0) e_int q rfl) (r_ne (x := V.str x.1) (y := V.str x.2) rfl)) (by rw [decide_eq_false (fun z => h4 (V.str.inj z))] <;> rfl))
def ALkO : Str × Str → List V → Hp → Prop := fun p vs _ => vs = [.str p.1, .str p.2] ∧ Lk p
def RLkO : Str × Str → V → Hp → Prop := fun p => pr (lnk p.1 p.2)
theorem scLkO : FnScope ["one", "other"] ["one", "other"] (defScope sLinkOf) := ⟨rfl, rfl, rfl, by decide +kernel, rfl, by decide +kernel, by decide +kernel⟩
theorem b_linkOf (B : Blt K mg) (FN : Fn P w K mg base "is_name" 1 AName RTrue) : Body P w K mg base ["one", "other"] "link_of" sLinkOf f 1 ALkO RLkO := by
  intro cdv Ar outer s H0 E x vs H Hc D hr ex pa rt nx
  obtain ⟨rfl, h2, h3, h4⟩ := pa.now
  refine b_ifF ex (t_not (k := true) (t_val (e_callD x.1 FN hr (a_consD (e_var 0) a_nil) (.const ⟨rfl, h2⟩)))) fun Hn H2 g => b_nil ?_
  refine b_ifF g.s (t_w (w_or (k := false) (k' := false) (t_not (k := true) (t_val (e_callD x.2 FN hr (a_consD (e_var 1) a_nil) (.const ⟨rfl, h3⟩)))) fun _ => w_or1 (t_is (t_cmpD op_eq (by rfl) (e_var 0) (e_var 1) (r_eq (x := V.str x.1) (y := V.str x.2) rfl)) (decide_eq_false fun z => h4 (V.str.inj z))))) fun Hn2 H3 g2 => b_nil ?_
  refine b_ret (P := pr (lnk x.1 x.2)) g2.s (e_if (k := decide (Lt x.1 x.2)) (t_cmpD op_lt_str (by rfl) (e_var 0) (e_var 1) (Cm.ret (fun _ _ _ q => ⟨x.1, x.2, rfl, rfl, q⟩) (.const rfl))) (fun hk => ?_) fun hk => ?_) fun v Hn3 H4 g3 p => rt v _ _ (g.trans (g2.trans g3)) p
  · refine e_tup (a_consD (e_var 0) (a_consD (e_var 1) a_nil)) (fun xs _ z => by rw [show xs = _ from z]; exact (by decide : 2 ≤ 100000)) fun xs p H1 e1 z hp => ?_
    rw [show xs = _ from z.now] at hp
    exact fun H' e' => ⟨p, rfl, by rw [show lnk x.1 x.2 = (x.1, x.2) from if_pos (of_decide_eq_true hk)]; exact e' _ _ hp⟩
  · refine e_tup (a_consD (e_var 1) (a_consD (e_var 0) a_nil)) (fun xs _ z => by rw [show xs = _ from z]; exact (by decide : 2 ≤ 100000)) fun xs p H1 e1 z hp => ?_
    rw [show xs = _ from z.now] at hp
    exact fun H' e' => ⟨p, rfl, by rw [show lnk x.1 x.2 = (x.2, x.1) from if_neg (of_decide_eq_false hk)]; exact e' _ _ hp⟩
end
end K19
set_option Elab.async false
set_option linter.all false
set_option maxRecDepth 100000
set_option maxHeartbeats 2000000
namespace K19
open PySem L2 LW
section
variable {P : Program} {w : World} {K : PySem.W.Frag} {mg : Str → Option Value} {base : Heap} {f : Addr} {fd : FuncData}
/-- a list (q) or a tuple of few texts -/
def ANs (K : PySem.W.Frag) : Bool × List Str → List V → Hp → Prop := fun x vs H => ∃ a, vs = [.ref a] ∧ Sq K x.1 H a (x.2.map V.str) ∧ x.2.length ≤ 60
def RSortN (K : PySem.W.Frag) : Bool × List Str → V → Hp → Prop := fun x v H => ∃ a ys, v = .ref a ∧ H a = some (.lst (ys.map V.str)) ∧ ys.Perm x.2 ∧ SortN ys
theorem scSortN : FnScope ["names", "name"] ["names"] (defScope sSortN) := ⟨rfl, rfl, rfl, by decide +kernel, rfl, by decide +kernel, by decide +kernel⟩
theorem b_sortN (B : Blt K mg) : Body P w K mg base ["names", "name"] "sorted_names" sSortN f 0 (ANs K) (RSortN K) := by
  intro cdv Ar outer s H0 E x vs H Hc D hr ex pa rt nx
  obtain ⟨q, xs⟩ := x
  obtain ⟨a, rfl, h1, hz⟩ := pa.now
  have hz : xs.length ≤ 60 := hz
  have hs : Pz H (fun H' => Sq K q H' a (xs.map V.str)) := fun H' e => h1.ex e
  refine b_ret ex (e_blt cr_sortedS B.sorted (a_cons (P := fun v H' => ∃ a, v = .ref a ∧ SqL K H' a (xs.map V.str)) (e_lc (own := [("name", 1)]) (g := gName 1) rfl scSortN.nd (pi_or (pi_list pe_w) (pi_tup pe_w)) (blkOk_by (N := ["names", "name"]) (sc := defScope sSortN) (by decide +kernel)) (fun _ _ _ _ _ => pg_name (i := 1) scSortN.nd rfl (.inl rfl)) (fun _ _ _ _ _ => pts_nil)
    (c_lc (i_sq (q := q) (xs := xs.map V.str) (Cm.imp (e_var (v := V.ref a) 0) fun v H' e z => ⟨a, z, hs H' e⟩)) (by simp; omega) (fun i acc _ => acc = (xs.take i).map V.str) (fun _ => rfl) (fun i y acc H1 hi e1 py pacc => ?_) fun acc p H1 e1 pacc hp => ?_)) a_nil) fun vs H1 e1 p1 => ?_) fun v Hn H2 g p => rt v _ _ g p
  · have hi' : i < xs.length := by simpa using hi
    obtain rfl : y = V.str xs[i] := by
      have z := py.now
      rw [List.getElem?_map, List.getElem?_eq_getElem hi'] at z
      exact (Option.some.inj z).symm
    refine ⟨_, true, bind_name, rfl, c_yes, fun _ => c_eb fun s H0 C cl fp => ?_, fun q => nomatch q⟩
    refine Cm.imp (e_tyD (P := is (V.str xs[i])) SkE.call_str_str B.«str» (a_consD (e_var 1) a_nil) (Cm.ret (fun _ _ _ q => ⟨_, rfl, q⟩) (.const rfl))) fun v H' _ z => ?_
    have ea : acc = (xs.take i).map V.str := pacc.now
    rw [ea, z, List.take_succ_eq_append_getElem hi', List.map_append] <;> rfl
  · have ea : acc = (xs.take xs.length).map V.str := by simpa using pacc.now
    rw [List.take_length] at ea
    subst ea
    exact fun H' e' => ⟨p, rfl, SqL.of (e' _ _ hp)⟩
  · obtain ⟨u, us, rfl, ⟨b, rfl, _⟩, rfl⟩ := p1.now
    refine fun Hc ex Q q => ?_
    obtain ⟨_, _, e, ⟨_, rfl, z⟩, rfl⟩ := p1 Hc ex
    cases e
    refine ⟨b, xs, rfl, z, by omega, fun ys p hp hs hn => q _ _ _ (Grow.new ex hn) fun H' e' => ⟨p, ys, rfl, e' _ _ upd_same, hp, sortN_of hs⟩⟩
/-- a list of few pairs of names -/
def APs (K : PySem.W.Frag) : List (Str × Str) → List V → Hp → Prop := fun ps vs H => ∃ a ts, vs = [.ref a] ∧ SqL K H a (ts.map V.ref) ∧ TsAt H ts ps ∧ ps.length ≤ 60 ∧ ∀ p ∈ ps, Lk p
def RSortP (K : PySem.W.Frag) : List (Str × Str) → V → Hp → Prop := fun ps v H => ∃ a ts qs, v = .ref a ∧ H a = some (.lst (ts.map V.ref)) ∧ TsAt H ts qs ∧ qs.Perm ps ∧ SortP qs
theorem scSortL : FnScope ["links", "texts", "one", "other", "text"] ["links"] (defScope sSortL) := ⟨rfl, rfl, rfl, by decide +kernel, rfl, by decide +kernel, by decide +kernel⟩
theorem b_sortL (B : Blt K mg) : Body P w K mg base ["links", "texts", "one", "other", "text"] "sorted_links" sSortL f 0 (APs K) (RSortP K) := by
  intro cdv Ar outer s H0 E ps vs H Hc D hr ex pa rt nx
  obtain ⟨a, ts, rfl, h1, h2, hz, hn⟩ := pa.now
  have hlen := h2.length
  have hs : Pz H (fun H' => SqL K H' a (ts.map V.ref)) := .sql h1
  refine b_set 1 ex (P := fun v H' => ∃ b ys, v = .ref b ∧ H' b = some (.lst (ys.map V.str)) ∧ ys.Perm (ps.map txt2) ∧ SortN ys) (e_blt cr_sortedS B.sorted (a_cons (P := txts K (ps.map txt2)) (e_lc (own := [("one", 2), ("other", 3)]) (g := gTup K 2 (gCons (gName 2) (gCons (gName 3) gNil))) rfl scSortL.nd (pi_list pe_w)
    (blkOk_by (N := ["links", "texts", "one", "other", "text"]) (sc := defScope sSortL) (by decide +kernel)) (fun _ _ _ _ _ => pg_tup rfl (pgs_cons (pg_name (i := 2) scSortL.nd rfl (.inl rfl)) (pgs_cons (pg_name (i := 3) scSortL.nd rfl (.inl rfl)) pgs_nil))) (fun _ _ _ _ _ => pts_nil)
    (c_lc (i_list (xs := ts.map V.ref) (Cm.imp (e_var (v := V.ref a) 0) fun v H' e z => ⟨a, z, hs H' e⟩)) (by simp; omega) (fun i acc _ => acc = ((ps.take i).map txt2).map V.str) (fun _ => rfl) (fun i y acc H1 hi e1 py pacc => ?_) fun acc p H1 e1 pacc hp => ?_)) a_nil) fun vs H1 e1 p1 => ?_) (fun v Hn H2 g p => ?_) scSortL.nd
  · obtain ⟨t, p, rfl, ht, hp, hH⟩ := ts_get h2 py.now
    have hm : p ∈ ps := List.mem_of_getElem? hp
    refine ⟨_, true, bind_two (.sqt (SqT.of (e1 _ _ hH))), rfl, c_yes, fun _ => c_eb fun s H0 C cl fp => ?_, fun q => nomatch q⟩
    refine Cm.imp (e_f2 (x := p.1) (y := p.2) (e_var 2) (e_var 3) ⟨by have := (hn p hm).1.2.1; omega, by have := (hn p hm).2.1.2.1; omega⟩) fun v H' _ z => ?_
    have ea : acc = ((ps.take i).map txt2).map V.str := pacc.now
    rw [ea, z, take_snoc hp, List.map_append, List.map_append] <;> rfl
  · have ea : acc = ((ps.take (ts.map V.ref).length).map txt2).map V.str := pacc.now
    rw [List.length_map, hlen, List.take_length] at ea
    subst ea
    exact fun H' e' => ⟨p, rfl, SqL.of (e' _ _ hp)⟩
  · obtain ⟨u, us, rfl, ⟨b, rfl, _⟩, rfl⟩ := p1.now
    refine fun Hc ex Q q => ?_
    obtain ⟨_, _, e, ⟨_, e3, z⟩, rfl⟩ := p1 Hc ex
    cases e
    cases e3
    refine ⟨b, ps.map txt2, rfl, z, by simp; omega, fun ys p hp hs hn => q _ _ _ (Grow.new ex hn) fun H' e' => ⟨p, ys, rfl, e' _ _ upd_same, hp, sortN_of hs⟩⟩
  · obtain ⟨b, ys, rfl, hb, hp, hsn⟩ := p.now
    obtain ⟨qs, rfl, hq, hsp⟩ := sorted_txts (fun p hp => ⟨(hn p hp).1, (hn p hp).2.1⟩) hp hsn
    refine b_ret (P := RSortP K ps) g.s (e_lc (own := [("text", 4)]) (g := gName 4) rfl scSortL.nd (pi_list pe_w) (blkOk_by (N := ["links", "texts", "one", "other", "text"]) (sc := defScope sSortL) (by decide +kernel)) (fun _ _ _ _ _ => pg_name (i := 4) scSortL.nd rfl (.inl rfl)) (fun _ _ _ _ _ => pts_nil)
      (c_lc (i_list (xs := (qs.map txt2).map V.str) (Cm.imp (e_var (v := V.ref b) 1) fun v H' e z => ⟨b, z, SqL.of (e _ _ hb)⟩)) (by have := hq.length_eq; simp; omega) (fun i acc H' => ∃ us, acc = us.map V.ref ∧ TsAt H' us (qs.take i)) (fun _ => ⟨[], rfl, .nil⟩) (fun i y acc H1 hi e1 py pacc => ?_) fun acc p H1 e1 pacc hp => ?_)) fun v Hn2 H3 g3 p => rt v _ _ (g.trans g3) p
    · obtain ⟨q, hq1, rfl⟩ : ∃ q, qs[i]? = some q ∧ y = V.str (txt2 q) := by
        have z := py.now
        rw [List.getElem?_map, List.getElem?_map] at z
        cases e : qs[i]? with
        | none => rw [e] at z; cases z
        | some q => rw [e] at z; exact ⟨q, rfl, (Option.some.inj z).symm⟩
      have hm : Lk q := hn q (hq.mem_iff.mp (List.mem_of_getElem? hq1))
      refine ⟨_, true, bind_name, rfl, c_yes, fun _ => c_eb fun s H0 C cl fp => ?_, fun q => nomatch q⟩
      refine Cm.imp (e_tsp (p := q) B.«tuple» (e_var 4) hm.1 hm.2.1) fun v H' e z => ?_
      obtain ⟨d, rfl, hd⟩ := z
      obtain ⟨us, rfl, hu⟩ := pacc H' e
      refine ⟨us ++ [d], by simp, ?_⟩
      rw [take_snoc hq1]
      exact ts_snoc hd hu
    · obtain ⟨us, rfl, hu⟩ := pacc.now
      rw [show (List.map V.str (List.map txt2 qs)).length = qs.length by simp, List.take_length] at hu
      exact fun H' e' => ⟨p, us, qs, rfl, e' _ _ hp, paired_ex e' hu, hq, hsp⟩
end
end K19
set_option Elab.async false
set_option linter.all false
set_option maxRecDepth 100000
set_option maxHeartbeats 2000000
namespace K19
open PySem L2 LW
abbrev sIsList : Stmt := top 26
abbrev sChkN : Stmt := top 27
abbrev sJoins : Stmt := top 28
abbrev sChkL : Stmt := top 29
section
variable {P : Program} {w : World} {K : PySem.W.Frag} {mg : Str → Option Value} {base : Heap} {f : Addr} {fd : FuncData}
def ASq (K : PySem.W.Frag) : Bool × List V → List V → Hp → Prop := fun x vs H => ∃ a, vs = [.ref a] ∧ Sq K x.1 H a x.2
theorem scIsList : FnScope ["value"] ["value"] (defScope sIsList) := ⟨rfl, rfl, rfl, by decide +kernel, rfl, by decide +kernel, by decide +kernel⟩
theorem b_isList (B : Blt K mg) : Body P w K mg base ["value"] "is_list" sIsList f 0 (ASq K) RTrue := by
  intro cdv Ar outer s H0 E x vs H Hc D hr ex pa rt nx
  obtain ⟨q, xs⟩ := x
  obtain ⟨a, rfl, h1⟩ := pa.now
  exact b_ret (P := is (V.bl true)) ex (e_isiLT (q := q) (xs := xs) B.isi B.list B.«tuple» (e_var 0) (fun H' e => h1.ex e)) fun v Hn H2 g p => rt v _ _ g p
/-- nodes: a list (q) or a tuple of different names -/
structure Nds (xs : List Str) : Prop where
  len : xs.length ≤ 60
  ne : xs ≠ []
  nd : xs.Nodup
  nm : ∀ x ∈ xs, Nm x
def ANds (K : PySem.W.Frag) : Bool × List Str → List V → Hp → Prop := fun x vs H => ∃ a, vs = [.ref a] ∧ Sq K x.1 H a (x.2.map V.str) ∧ Nds x.2
def RNon {α : Type} : α → V → Hp → Prop := fun _ v _ => v = .non
abbrev nChkN : List Str := ["nodes", "seen", "position", "node"]
theorem scChkN : FnScope nChkN ["nodes"] (defScope sChkN) := ⟨rfl, rfl, rfl, by decide +kernel, rfl, by decide +kernel, by decide +kernel⟩
theorem not_taken {α : Type} {xs : List α} (nd : xs.Nodup) {i : Nat} {x : α} (h : xs[i]? = some x) : x ∉ xs.take i := by
  intro m
  obtain ⟨j, hj, e⟩ := List.mem_take_iff_getElem.mp m
  obtain ⟨hi, e2⟩ := List.getElem?_eq_some_iff.mp h
  have := (List.getElem_inj (h₀ := by omega) (h₁ := hi) nd).mp (e.trans e2.symm)
  omega
theorem b_chkN (B : Blt K mg) (FL : Fn P w K mg base "is_list" 1 (ASq K) RTrue) (FN : Fn P w K mg base "is_name" 1 AName RTrue) : Body P w K mg base nChkN "check_nodes" sChkN f 1 (ANds K) RNon := by
  intro cdv Ar outer s H0 E x vs H Hc D hr ex pa rt nx
  obtain ⟨q, xs⟩ := x
  obtain ⟨a, rfl, h1, N⟩ := pa.now
  have h1 : Sq K q H a (xs.map V.str) := h1
  have N : Nds xs := N
  have hN := N.len
  have hq : Pz H (fun H' => Sq K q H' a (xs.map V.str)) := fun H' e => h1.ex e
  refine b_ifF ex (t_w (w_or (k := false) (k' := false) (t_not (k := true) (t_val (e_callD (q, xs.map V.str) FL hr (a_consD (e_var 0) a_nil) (fun H' e => ⟨a, rfl, hq H' e⟩)))) fun _ =>
    w_or1 (t_is (t_cmpD op_eq (by rfl) (e_len (xs := xs.map V.str) B.len (e_var 0) (hq.imp fun _ _ z => z.any)) e_int (r_eq (x := V.int ((xs.map V.str).length : Int)) (y := V.int 0) rfl)) ?_))) fun Hn H2 g => b_nil (b_dnewK 1 g.s (fun l hl => ?_) scChkN.nd)
  · refine decide_eq_false fun z => ?_
    have z' := V.int.inj z
    rw [List.length_map] at z'
    exact N.ne (List.eq_nil_of_length_eq_zero (by omega))
  · have hlH : Hn l = none := Evl.fresh_back g.s hl
    refine b_for (H := Hn) (g := gTup K 2 (gCons (gName 2) (gCons (gName 3) gNil))) (g.s.trans (Evl.Ex.new hl)) PassesOwn.never rfl (pi_or (pi_enum rfl B.enum pa_w) (pi_enumT rfl B.enum pa_w)) (i_enumQ (q := q) (xs := xs.map V.str) (Cm.imp (e_var (v := V.ref a) 0) fun v H' e z => ⟨a, z, hq H' (g.k.trans e)⟩))
      (pg_tup rfl (pgs_cons (pg_name (i := 2) scChkN.nd rfl (.inl rfl)) (pgs_cons (pg_name (i := 3) scChkN.nd rfl (.inl rfl)) pgs_nil))) fun H1 H3 g1 => ?_
    have gg := (still (g.s.trans (Evl.Ex.new hl)) (Evl.Ex.new hl)).trans g1
    refine ⟨fun i σ1 H4 Hc4 => ∃ (u v : Option V) (kvs : List (Key × V)), σ1 = [some (.ref a), some (.ref l), u, v] ∧ H4 l = none ∧ Hc4 l = some (.dK kvs) ∧ kvs.length ≤ i ∧ (∀ x, x ∉ xs.take i → valV kvs (.inr x) = none) ∧ Grow Hn H2 H4 Hc4, ⟨none, none, [], rfl, g1.un upd_same hlH, g1.c _ _ upd_same, Nat.le_refl _, fun _ _ => rfl, gg⟩, ?_, ?_⟩
    · rintro i σ1 H4 Hc4 hi e4 e5 ⟨u, v, kvs, rfl, hl4, hc4, hk, hv, g4⟩ x H5 Hc5 g5 py
      have hi : i < xs.length := by simpa using hi
      obtain ⟨T, y, rfl, hT, hy⟩ := py.now
      obtain ⟨z, hz, rfl⟩ : ∃ z, xs[i]? = some z ∧ y = V.str z := by
        rw [List.getElem?_map] at hy
        cases e : xs[i]? with
        | none => rw [e] at hy; cases hy
        | some z => rw [e] at hy; exact ⟨z, rfl, (Option.some.inj hy).symm⟩
      refine bind_two (K := K) (.sqt (SqT.of hT)) Hc5 g5.s _ ?_
      have hl5 := g5.c _ _ hc4
      have n5 := g5.un hc4 hl4
      have nm := N.nm z (List.mem_of_getElem? hz)
      have hz0 := hv z (not_taken N.nd hz)
      refine b_ifF (H := upd H5 l (.dK kvs)) (g5.s.own hl5) (t_w (w_or (k := false) (k' := false) (t_not (k := true) (t_val (e_callD z FN hr (a_consD (e_var 3) a_nil) (.const ⟨rfl, nm⟩)))) fun _ =>
        w_or1 (t_is (t_din (hu_of hr) (e_var 3) (e_var 1) (pz_dK (key := .inr z) (.at upd_same))) (by rw [hz0] <;> rfl)))) fun H6 H7 g6 => b_nil ?_
      have g7 := (g4.trans g5).looked n5 g6
      refine b_dput (key := .inr z) (l := l) (kvs := kvs) (P := is (V.bl true)) g7.s (hu_of hr) e_bl (e_var 1) (e_var 3) (g6.c _ _ hl5) (by omega) fun w H8 H9 g8 p8 => b_nil ?_
      have hl9 : H9 l = some (.dK kvs) := g8.c _ _ (g6.c _ _ hl5)
      have n8 : H8 l = none := g8.un (g6.c _ _ hl5) n5
      refine ⟨H8, (e4.trans g5.k).trans g8.k, g8.s.mut n8, _, _, _, rfl, n8, upd_same, ?_, fun x hx => ?_, (g7.trans g8).mut hl n8⟩
      · have := length_putK kvs (.inr z : Key) w; omega
      · rw [take_snoc hz] at hx
        rw [valV_put, if_neg (fun e => hx (List.mem_append_right _ (by rw [Sum.inr.inj e]; exact List.mem_singleton_self z)))]
        exact hv x fun m => hx (List.mem_append_left _ m)
    · rintro σ1 H4 Hc4 e4 e5 ⟨u, v, kvs, rfl, hl4, hc4, hk, hv, g4⟩
      exact b_nil (nx _ _ _ (g.trans g4) (.const rfl))
/-- None, or nodes among which there are the two of each pair -/
def KnV (K : PySem.W.Frag) (o : Option (Bool × List Str)) (v : V) (H : Hp) : Prop := match o with
  | none => v = .non
  | some x => ∃ a, v = .ref a ∧ Sq K x.1 H a (x.2.map V.str)
def KnP (o : Option (Bool × List Str)) (p : Str × Str) : Prop := match o with
  | none => True
  | some x => p.1 ∈ x.2 ∧ p.2 ∈ x.2
theorem KnV.ex {o : Option (Bool × List Str)} {v : V} {H H' : Hp} (e : Ex H H') (h : KnV K o v H) : KnV K o v H' := by
  cases o with
  | none => exact h
  | some x => obtain ⟨a, h1, h2⟩ := h; exact ⟨a, h1, h2.ex e⟩
def AJn (K : PySem.W.Frag) : (Str × Str) × Option (Bool × List Str) → List V → Hp → Prop := fun x vs H => ∃ t v, vs = [.ref t, v] ∧ SqT K H t [.str x.1.1, .str x.1.2] ∧ Lk x.1 ∧ KnV K x.2 v H ∧ KnP x.2 x.1
theorem scJoins : FnScope ["link", "nodes"] ["link", "nodes"] (defScope sJoins) := ⟨rfl, rfl, rfl, by decide +kernel, rfl, by decide +kernel, by decide +kernel⟩
theorem b_joins (B : Blt K mg) (FI : Fn P w K mg base "is_link" 2 (AIsL K) RTrue) : Body P w K mg base ["link", "nodes"] "joins_known" sJoins f 2 (AJn K) RTrue := by
  intro cdv Ar outer s H0 E x vs H Hc D hr ex pa rt nx
  obtain ⟨p, o⟩ := x
  obtain ⟨t, v, rfl, h1, h2, h3, h4⟩ := pa.now
  have h1 : SqT K H t [.str p.1, .str p.2] := h1
  have hq := Pz.sqt h1
  refine b_ifF ex (t_not (k := true) (t_val (e_callD p FI hr (a_consD (e_var 0) a_nil) (fun H' e => ⟨t, rfl, hq H' e, h2⟩)))) fun Hn H2 g => b_nil (b_ret (P := is (V.bl true)) g.s ?_ fun v Hn2 H3 g3 q => rt v _ _ (g.trans g3) q)
  cases o with
  | none =>
    obtain rfl : v = .non := h3
    exact e_or (k := true) (k' := true) (t_is (e_isN (v := V.non) (e_var 1)) rfl) fun z => nomatch z
  | some y =>
    obtain ⟨q, xs⟩ := y
    obtain ⟨a, rfl, h5⟩ := h3
    have h5 : Sq K q H a (xs.map V.str) := h5
    have hs : Pz Hn (fun H' => SqL K H' a (xs.map V.str) ∨ SqT K H' a (xs.map V.str)) := fun H' e => (h5.ex (g.k.trans e)).any
    have m1 : p.1 ∈ xs := h4.1
    have m2 : p.2 ∈ xs := h4.2
    exact e_or (k := false) (k' := true) (t_is (e_isN (v := V.ref a) (e_var 1)) rfl) fun _ => e_one (e_and (k := true) (k' := true) (t_is (e_inS (xs := xs) (e_itemT (j := 0) (e_var 0) e_int (hq.mono g.k) rfl) (e_var 1) hs) (by rw [decide_eq_true m1])) fun _ =>
      e_one (t_is (e_inS (xs := xs) (e_itemT (j := 1) (e_var 0) e_int (hq.mono g.k) rfl) (e_var 1) hs) (by rw [decide_eq_true m2])))
end
end K19
set_option Elab.async false
set_option linter.all false
set_option maxRecDepth 100000
set_option maxHeartbeats 2000000
namespace K19
open PySem L2 LW
def kLk (p : Str × Str) : List Key := [.inr p.1, .inr p.2]
def lk (p : Str × Str) : Str × Str := lnk p.1 p.2
theorem kLk_inj {p q : Str × Str} (h : kLk p = kLk q) : p = q := by
  unfold kLk at h
  injection h with h1 h2
  injection h2 with h2 _
  exact Prod.ext (Sum.inr.inj h1) (Sum.inr.inj h2)
theorem valV_none {κ : Type} [DecidableEq κ] {kvs : List (κ × V)} {k : κ} (h : k ∉ kvs.map (·.1)) : valV kvs k = none := by
  unfold valV
  rw [List.find?_eq_none.mpr fun x hx => by
    simp only [decide_eq_true_eq]
    exact fun e => h (List.mem_map.mpr ⟨x, hx, e⟩)] <;> rfl
theorem ts_keys {H : Hp} : ∀ {kvs : List (List Key × V)} {bs : List Addr} {qs : List (Str × Str)}, Paired (fun p b => H b = some (.tup (p.1.map kV))) kvs bs → kvs.map (·.1) = qs.map kLk → TsAt H bs qs
  | _, _, [], .nil, _ => .nil
  | _, _, q :: r, .cons h t, e => by
    rw [List.map_cons, List.map_cons] at e
    injection e with e1 e2
    rw [e1] at h
    exact .cons h (ts_keys t e2)
section
variable {P : Program} {w : World} {K : PySem.W.Frag} {mg : Str → Option Value} {base : Heap} {f : Addr} {fd : FuncData}
/-- links, a list (q) or a tuple, and nodes -/
structure Lks (ps : List (Str × Str)) (o : Option (Bool × List Str)) : Prop where
  len : ps.length ≤ 60
  lk : ∀ p ∈ ps, Lk p
  nd : (ps.map K19.lk).Nodup
  kn : ∀ p ∈ ps, KnP o p
def ALks (K : PySem.W.Frag) : (Bool × List (Str × Str)) × Option (Bool × List Str) → List V → Hp → Prop := fun x vs H => ∃ a ts v, vs = [.ref a, v] ∧ Sq K x.1.1 H a (ts.map V.ref) ∧ TsAt H ts x.1.2 ∧ KnV K x.2 v H ∧ Lks x.1.2 x.2
def RLks (K : PySem.W.Frag) : (Bool × List (Str × Str)) × Option (Bool × List Str) → V → Hp → Prop := fun x => RSortP K (x.1.2.map lk)
abbrev nChkL : List Str := ["links", "nodes", "seen", "position", "link", "pair"]
theorem scChkL : FnScope nChkL ["links", "nodes"] (defScope sChkL) := ⟨rfl, rfl, rfl, by decide +kernel, rfl, by decide +kernel, by decide +kernel⟩
theorem b_chkL (B : Blt K mg) (FL : Fn P w K mg base "is_list" 1 (ASq K) RTrue) (FJ : Fn P w K mg base "joins_known" 3 (AJn K) RTrue) (FO : Fn P w K mg base "link_of" 2 ALkO RLkO) (FS : Fn P w K mg base "sorted_links" 1 (APs K) (RSortP K)) :
    Body P w K mg base nChkL "checked_links" sChkL f 3 (ALks K) (RLks K) := by
  intro cdv Ar outer s H0 E x vs H Hc D hr ex pa rt nx
  obtain ⟨⟨q, ps⟩, o⟩ := x
  obtain ⟨a, ts, v, rfl, h1, h2, h3, N⟩ := pa.now
  have h1 : Sq K q H a (ts.map V.ref) := h1
  have h2 : TsAt H ts ps := h2
  have h3 : KnV K o v H := h3
  have N : Lks ps o := N
  have hN := N.len
  have hl2 := h2.length
  have hq : Pz H (fun H' => Sq K q H' a (ts.map V.ref)) := fun H' e => h1.ex e
  refine b_ifF ex (t_not (k := true) (t_val (e_callD (q, ts.map V.ref) FL (hr.mono (by decide)) (a_consD (e_var 0) a_nil) (fun H' e => ⟨a, rfl, hq H' e⟩)))) fun Hn H2 g => b_nil (b_dnewT 2 g.s (fun l hl => ?_) scChkL.nd)
  have hlH : Hn l = none := Evl.fresh_back g.s hl
  refine b_for (H := Hn) (g := gTup K 2 (gCons (gName 3) (gCons (gName 4) gNil))) (g.s.trans (Evl.Ex.new hl)) PassesOwn.never rfl (pi_or (pi_enum rfl B.enum pa_w) (pi_enumT rfl B.enum pa_w)) (i_enumQ (q := q) (xs := ts.map V.ref) (Cm.imp (e_var (v := V.ref a) 0) fun v H' e z => ⟨a, z, hq H' (g.k.trans e)⟩))
    (pg_tup rfl (pgs_cons (pg_name (i := 3) scChkL.nd rfl (.inl rfl)) (pgs_cons (pg_name (i := 4) scChkL.nd rfl (.inl rfl)) pgs_nil))) fun H1 H3 g1 => ?_
  have gg := (still (g.s.trans (Evl.Ex.new hl)) (Evl.Ex.new hl)).trans g1
  refine ⟨fun i σ1 H4 Hc4 => ∃ (u u2 u3 : Option V) (kvs : List (List Key × V)), σ1 = [some (.ref a), some v, some (.ref l), u, u2, u3] ∧ H4 l = none ∧ Hc4 l = some (.dT kvs) ∧ kvs.map (·.1) = ((ps.take i).map lk).map kLk ∧ Grow Hn H2 H4 Hc4, ⟨none, none, none, [], rfl, g1.un upd_same hlH, g1.c _ _ upd_same, rfl, gg⟩, ?_, ?_⟩
  · rintro i σ1 H4 Hc4 hi e4 e5 ⟨u, u2, u3, kvs, rfl, hl4, hc4, hk, g4⟩ x H5 Hc5 g5 py
    obtain ⟨T, y, rfl, hT, hy⟩ := py.now
    obtain ⟨t, p, rfl, ht, hp, hH⟩ := ts_get h2 hy
    have hm : p ∈ ps := List.mem_of_getElem? hp
    have lkp := N.lk p hm
    refine bind_two (K := K) (.sqt (SqT.of hT)) Hc5 g5.s _ ?_
    have hl5 := g5.c _ _ hc4
    have n5 := g5.un hc4 hl4
    have eH : Ex H H5 := (g.k.trans g4.k).trans g5.k
    have tq : Pz H5 (fun H' => SqT K H' t [V.str p.1, V.str p.2]) := .sqt (SqT.of (eH _ _ hH))
    refine b_ifF g5.s (t_not (k := true) (t_val (e_callD (p, o) FJ hr (a_consD (e_var 4) (a_consD (e_var 1) a_nil)) (fun H' e => ⟨t, v, rfl, tq H' e, lkp, h3.ex (eH.trans e), N.kn p hm⟩)))) fun H6 H7 g6 => b_nil ?_
    refine b_set 5 g6.s (e_callD p FO (hr.mono (by decide)) (a_consD (e_itemT (j := 0) (e_var 4) e_int (tq.mono g6.k) rfl) (a_consD (e_itemT (j := 1) (e_var 4) e_int (tq.mono g6.k) rfl) a_nil)) (.const ⟨rfl, lkp⟩)) (fun w H8 H9 g8 p8 => ?_) scChkL.nd
    obtain ⟨b, rfl, hb⟩ := p8.now
    have hl9 := g8.c _ _ (g6.c _ _ hl5)
    have n8 : H8 l = none := g8.un (g6.c _ _ hl5) (g6.un hl5 n5)
    have hb2 : Pz H8 (fun H' => H' b = some (.tup ((kLk (lk p)).map kV))) := .at hb
    have hp' : (ps.map lk)[i]? = some (lk p) := by rw [List.getElem?_map, hp] <;> rfl
    have hv : valV kvs (kLk (lk p)) = none := valV_none fun m => by
      rw [hk] at m
      obtain ⟨z, hz, e⟩ := List.mem_map.mp m
      rw [kLk_inj e, List.map_take] at hz
      exact not_taken N.nd hp' hz
    refine b_ifF (H := upd H8 l (.dT kvs)) (g8.s.own hl9) (t_is (t_din (hu_of hr) (e_var 5) (e_var 2) (pz_dT (key := kLk (lk p)) (.at upd_same) (hb2.mono (Ex.put n8)))) (by rw [hv] <;> rfl)) fun H10 H11 g10 => b_nil ?_
    have gz := ((g4.trans g5).trans (g6.trans g8)).looked n8 g10
    have hlen : kvs.length ≤ 60 := by
      have z := congrArg List.length hk
      simp only [List.length_map, List.length_take] at z
      omega
    refine b_dputT (key := kLk (lk p)) (l := l) (kvs := kvs) (b := b) (P := is (V.bl true)) gz.s (hu_of hr) e_bl (e_var 2) (e_var 5) hb2 (g10.c _ _ hl9) (by omega) fun w H12 H13 g12 p12 => b_nil ?_
    have hl13 : H13 l = some (.dT kvs) := g12.c _ _ (g10.c _ _ hl9)
    have n12 : H12 l = none := g12.un (g10.c _ _ hl9) n8
    refine ⟨H12, (e4.trans g5.k).trans ((g6.k.trans g8.k).trans g12.k), g12.s.mut n12, _, _, _, _, rfl, n12, upd_same, ?_, (gz.trans g12).mut hl n12⟩
    rw [putK_new _ hv, List.map_append, hk, take_snoc hp, List.map_append, List.map_append] <;> rfl
  · rintro σ1 H4 Hc4 e4 e5 ⟨u, u2, u3, kvs, rfl, hl4, hc4, hk, g4⟩
    rw [List.length_map, hl2, List.take_length] at hk
    refine b_ret (H := upd H4 l (.dT kvs)) (P := RLks K ((q, ps), o)) (e5.own hc4) (e_call FS (hr.mono (by decide)) (a_cons (P := fun v H' => ∃ p bs, v = .ref p ∧ SqL K H' p (bs.map V.ref) ∧ TsAt H' bs (ps.map lk)) (e_ty (call_list_dT rfl) B.list (a_consD (e_var 2) a_nil) fun vs H5 e5 z => ?_) a_nil) fun vs H5 e5 z => ?_) fun v H6 H7 g6 p6 => ?_
    · obtain rfl : vs = [V.ref l] := z.now
      refine fun Hc ex Q q => ⟨l, kvs, rfl, .inl (ex _ _ (e5 _ _ upd_same)), fun p bs hp hb => ?_⟩
      obtain ⟨H9, g9, e9, z9⟩ := (Grow.new (o := .lst (bs.map V.ref)) ex hp).knowTs (Paired.mapP hb fun _ _ q => Evl.Ex.new hp _ _ q)
      exact q _ _ _ g9 fun H' e' => ⟨p, bs, rfl, SqL.of (e' _ _ (e9 _ _ upd_same)), paired_ex e' (ts_keys z9 hk)⟩
    · obtain ⟨w, ws, rfl, ⟨p, bs, rfl, z1, z2⟩, rfl⟩ := z.now
      refine ⟨ps.map lk, fun H' e' => ⟨p, bs, rfl, Evl.ex_l e' z1, paired_ex e' z2, by rw [List.length_map]; exact hN, fun r hr => ?_⟩, fun _ _ _ q => q⟩
      obtain ⟨r0, h0, rfl⟩ := List.mem_map.mp hr
      obtain ⟨m1, m2, m3⟩ := N.lk r0 h0
      unfold lk
      rcases lnk_cases r0.1 r0.2 with e | e <;> rw [e]
      · exact ⟨m1, m2, m3⟩
      · exact ⟨m2, m1, fun e => m3 e.symm⟩
    · refine rt _ _ _ (g.trans (?_)) p6
      exact (g4.know hl hl4 hc4).trans g6
end
end K19
set_option Elab.async false
set_option linter.all false
set_option maxRecDepth 100000
set_option maxHeartbeats 2000000
namespace K19
open PySem L2 LW
abbrev sNear : Stmt := top 31
abbrev sAlong : Stmt := top 32
/-- whom the links join to x, in their order -/
def nb (ls : List (Str × Str)) (x : Str) : List Str := ls.filterMap fun p => if p.1 = x then some p.2 else if p.2 = x then some p.1 else none
theorem nb_snoc (ls : List (Str × Str)) (p : Str × Str) (x : Str) : nb (ls ++ [p]) x = nb ls x ++ (if p.1 = x then [p.2] else if p.2 = x then [p.1] else []) := by
  unfold nb
  rw [List.filterMap_append]
  congr 1
  rw [List.filterMap_cons, List.filterMap_nil]
  by_cases h : p.1 = x
  · rw [if_pos h, if_pos h]
  · rw [if_neg h, if_neg h]
    by_cases h2 : p.2 = x
    · rw [if_pos h2, if_pos h2]
    · rw [if_neg h2, if_neg h2]
/-- a dict at d from ns to lists at as -/
def tbl (ns : List Str) (as : List Addr) : List (Key × V) := (ns.zip as).map fun p => (.inr p.1, .ref p.2)
structure Tb (Hc : Hp) (d : Addr) (ns : List Str) (as : List Addr) (c : Str → List Str) : Prop where
  len : ns.length = as.length
  dict : Hc d = some (.dK (tbl ns as))
  at_ : ∀ (j : Nat) (x : Str) (a : Addr), ns[j]? = some x → as[j]? = some a → Hc a = some (.lst ((c x).map V.str))
  nd : as.Nodup
  out : d ∉ as
theorem tbl_val {ns : List Str} {as : List Addr} (len : ns.length = as.length) (nd : ns.Nodup) : ∀ {j : Nat} {x : Str} {a : Addr}, ns[j]? = some x → as[j]? = some a → valV (tbl ns as) (.inr x) = some (.ref a) := by
  intro j x a h1 h2
  have m : (Sum.inr x, V.ref a) ∈ tbl ns as := List.mem_map.mpr ⟨(x, a), List.mem_of_getElem? (i := j) (by rw [List.getElem?_zip_eq_some]; exact ⟨h1, h2⟩), rfl⟩
  have nk : ((tbl ns as).map (·.1)).Nodup := by
    unfold tbl
    rw [List.map_map]
    have e : (ns.zip as).map (((fun q : Key × V => q.1) ∘ fun p : Str × Addr => ((Sum.inr p.1 : Key), V.ref p.2))) = ((ns.zip as).map (·.1)).map Sum.inr := by rw [List.map_map] <;> rfl
    rw [e]
    refine List.Pairwise.map (R := fun a b : Str => a ≠ b) Sum.inr (fun a b hab z => hab (Sum.inr.inj z)) ?_
    rw [List.map_fst_zip (Nat.le_of_eq len)]
    exact nd
  exact val_nodup nk _ m
theorem tbl_none {ns : List Str} {as : List Addr} {x : Str} (h : x ∉ ns) : valV (tbl ns as) (.inr x) = none := valV_none fun m => by
  obtain ⟨q, hq, e⟩ := List.mem_map.mp m
  obtain ⟨p, hp, rfl⟩ := List.mem_map.mp hq
  exact h (Sum.inr.inj e ▸ (List.of_mem_zip hp).1)
theorem tbl_snoc {ns : List Str} {as : List Addr} (h : ns.length = as.length) (x : Str) (a : Addr) : tbl (ns ++ [x]) (as ++ [a]) = tbl ns as ++ [(.inr x, .ref a)] := by
  unfold tbl
  rw [List.zip_append h, List.map_append] <;> rfl
theorem Tb.ex {Hc H2 : Hp} {d : Addr} {ns : List Str} {as : List Addr} {c : Str → List Str} (t : Tb Hc d ns as c) (e : Ex Hc H2) : Tb H2 d ns as c := ⟨t.len, e _ _ t.dict, fun j x a h1 h2 => e _ _ (t.at_ j x a h1 h2), t.nd, t.out⟩
theorem Tb.any {Hc : Hp} {d a : Addr} {ns : List Str} {as : List Addr} {c : Str → List Str} (t : Tb Hc d ns as c) (m : a ∈ as) : ∃ xs, Hc a = some (.lst xs) := by
  obtain ⟨k, hk⟩ := List.getElem?_of_mem m
  have hkl := (List.getElem?_eq_some_iff.mp hk).1
  exact ⟨_, t.at_ k _ a (List.getElem?_eq_getElem (by rw [t.len]; exact hkl)) hk⟩
/-- one more name -/
theorem Tb.snoc {Hc H2 : Hp} {d p : Addr} {ns : List Str} {as : List Addr} {c : Str → List Str} {x : Str} (t : Tb Hc d ns as c) (hx : x ∉ ns) (hp : Hc p = none) (e : Ex (upd Hc p (.lst [])) H2) (hc : c x = []) : Tb (upd H2 d (.dK (putK (tbl ns as) (.inr x) (.ref p)))) d (ns ++ [x]) (as ++ [p]) c := by
  have hpa : p ∉ as := fun m => by
    obtain ⟨j, hj⟩ := List.getElem?_of_mem m
    have hjl := (List.getElem?_eq_some_iff.mp hj).1
    have := t.at_ j (ns[j]'(by rw [t.len]; exact hjl)) p (List.getElem?_eq_getElem _) hj
    rw [hp] at this
    cases this
  have hpd : p ≠ d := fun z => by
    have := t.dict
    rw [← z, hp] at this
    cases this
  refine ⟨by simp [t.len], by rw [upd_same, putK_new _ (tbl_none hx), tbl_snoc t.len], fun j y a h1 h2 => ?_, ?_, ?_⟩
  · have ho : ∀ b, b ∈ as → b ≠ d := fun b m z => t.out (z ▸ m)
    by_cases hj : j < ns.length
    · rw [List.getElem?_append_left hj] at h1
      rw [List.getElem?_append_left (by rw [← t.len]; exact hj)] at h2
      have ha := List.mem_of_getElem? h2
      rw [upd_ne (ho a ha)]
      refine e _ _ ?_
      rw [upd_ne (fun z : a = p => hpa (z ▸ ha))]
      exact t.at_ j y a h1 h2
    · have hj2 : j = ns.length := by
        have := (List.getElem?_eq_some_iff.mp h1).1
        rw [List.length_append, List.length_singleton] at this
        omega
      subst hj2
      rw [List.getElem?_append_right (Nat.le_refl _), Nat.sub_self] at h1
      rw [t.len, List.getElem?_append_right (Nat.le_refl _), Nat.sub_self] at h2
      cases h1
      cases h2
      rw [upd_ne hpd, hc]
      exact e _ _ upd_same
  · exact List.nodup_append.mpr ⟨t.nd, List.nodup_cons.mpr ⟨List.not_mem_nil, List.nodup_nil⟩, fun b hb b' hb' => by rw [List.mem_singleton.mp hb']; exact fun z => hpa (z ▸ hb)⟩
  · intro m
    rcases List.mem_append.mp m with m | m
    · exact t.out m
    · exact hpd (List.mem_singleton.mp m).symm
/-- a list grows -/
theorem Tb.app {Hc : Hp} {d a : Addr} {ns : List Str} {as : List Addr} {c : Str → List Str} {x y : Str} {j : Nat} (t : Tb Hc d ns as c) (nd : ns.Nodup) (h1 : ns[j]? = some x) (h2 : as[j]? = some a) : Tb (upd Hc a (.lst ((c x).map V.str ++ [V.str y]))) d ns as (fun z => if z = x then c x ++ [y] else c z) := by
  have ha := List.mem_of_getElem? h2
  refine ⟨t.len, by rw [upd_ne (fun z : d = a => t.out (z ▸ ha))]; exact t.dict, fun k z b k1 k2 => ?_, t.nd, t.out⟩
  by_cases e : k = j
  · subst e
    rw [h1] at k1
    rw [h2] at k2
    cases k1
    cases k2
    rw [upd_same]
    show _ = some (HO.lst ((if x = x then c x ++ [y] else c x).map V.str))
    rw [if_pos rfl, List.map_append] <;> rfl
  · have hb : b ≠ a := fun z => by
      obtain ⟨l1, e1⟩ := List.getElem?_eq_some_iff.mp h2
      obtain ⟨l2, e2⟩ := List.getElem?_eq_some_iff.mp k2
      exact e ((List.getElem_inj (h₀ := l2) (h₁ := l1) t.nd).mp (by rw [e1, e2, z]))
    have hz : z ≠ x := fun q => by
      obtain ⟨l1, e1⟩ := List.getElem?_eq_some_iff.mp h1
      obtain ⟨l2, e2⟩ := List.getElem?_eq_some_iff.mp k1
      exact e ((List.getElem_inj (h₀ := l2) (h₁ := l1) nd).mp (by rw [e1, e2, q]))
    rw [upd_ne hb]
    show _ = some (HO.lst ((if z = x then c x ++ [y] else c z).map V.str))
    rw [if_neg hz]
    exact t.at_ k z b k1 k2
theorem Tb.congr {Hc : Hp} {d : Addr} {ns : List Str} {as : List Addr} {c c' : Str → List Str} (t : Tb Hc d ns as c) (h : ∀ x ∈ ns, c x = c' x) : Tb Hc d ns as c' := ⟨t.len, t.dict, fun j x a h1 h2 => by rw [← h x (List.mem_of_getElem? h1)]; exact t.at_ j x a h1 h2, t.nd, t.out⟩
section
variable {P : Program} {w : World} {K : PySem.W.Frag} {mg : Str → Option Value} {base : Heap} {f : Addr} {fd : FuncData}
structure Net0 (ns : List Str) (ls : List (Str × Str)) : Prop where
  ln : ns.length ≤ 60
  ll : ls.length ≤ 60
  nd : ns.Nodup
  lk : ∀ p ∈ ls, p.1 ∈ ns ∧ p.2 ∈ ns ∧ p.1 ≠ p.2
def ANear (K : PySem.W.Frag) : List Str × List (Str × Str) → List V → Hp → Prop := fun x vs H => ∃ a b ts, vs = [.ref a, .ref b] ∧ SqL K H a (x.1.map V.str) ∧ SqL K H b (ts.map V.ref) ∧ TsAt H ts x.2 ∧ Net0 x.1 x.2
def RNear : List Str × List (Str × Str) → V → Hp → Prop := fun x v H => ∃ d as, v = .ref d ∧ Tb H d x.1 as (nb x.2)
abbrev nNear : List Str := ["nodes", "links", "table", "node", "one", "other"]
theorem scNear : FnScope nNear ["nodes", "links"] (defScope sNear) := ⟨rfl, rfl, rfl, by decide +kernel, rfl, by decide +kernel, by decide +kernel⟩
theorem b_near : Body P w K mg base nNear "neighbour_table" sNear f 0 (ANear K) RNear := by
  intro cdv Ar outer s H0 E x vs H Hc D hr ex pa rt nx
  obtain ⟨ns, ls⟩ := x
  obtain ⟨a, b, ts, rfl, h1, h2, h3, N⟩ := pa.now
  have h1 : SqL K H a (ns.map V.str) := h1
  have h3 : TsAt H ts ls := h3
  have N : Net0 ns ls := N
  have hN := N.ln
  have hM := N.ll
  have hl3 := h3.length
  refine b_dnewK 2 ex (fun d hd => ?_) scNear.nd
  have hdH : H d = none := Evl.fresh_back ex hd
  refine b_for (H := H) (g := gName 3) (ex.trans (Evl.Ex.new hd)) PassesOwn.never rfl (pi_list pe_w) (i_list (xs := ns.map V.str) (Cm.imp (e_var (v := V.ref a) 0) fun v H' e z => ⟨a, z, Evl.ex_l e h1⟩)) (pg_name (i := 3) scNear.nd rfl (.inl rfl)) fun H1 H3 g1 => ?_
  have gg := (still (ex.trans (Evl.Ex.new hd)) (Evl.Ex.new hd)).trans g1
  refine ⟨fun i σ1 H4 Hc4 => ∃ (u : Option V) (as : List Addr), σ1 = [some (.ref a), some (.ref b), some (.ref d), u, none, none] ∧ Tb Hc4 d (ns.take i) as (fun _ => []) ∧ H4 d = none ∧ (∀ a ∈ as, H4 a = none ∧ Hc a = none) ∧ Grow H Hc H4 Hc4,
    ⟨none, [], rfl, ⟨rfl, g1.c _ _ upd_same, fun j x a h _ => by simp at h, List.nodup_nil, List.not_mem_nil⟩, g1.un upd_same hdH, fun a m => absurd m List.not_mem_nil, gg⟩, ?_, ?_⟩
  · rintro i σ1 H4 Hc4 hi e4 e5 ⟨u, as, rfl, t, hd4, has, g4⟩ x H5 Hc5 g5 py
    obtain ⟨z, hz, rfl⟩ := txt_get py.now
    have t5 := t.ex g5.c
    have hd5 : H5 d = none := g5.un t.dict hd4
    refine b_dputL (key := .inr z) (d := d) (kvs := tbl (ns.take i) as) g5.s (hu_of hr) (e_var 2) (e_var 3) t5.dict (by unfold tbl; simp; omega) fun p Hn H6 hp g6 => b_nil ?_
    have hpd : d ≠ p := fun e => by
      have := t5.dict
      rw [e, hp] at this
      cases this
    have hdn : Hn d = none := g6.un (by rw [upd_ne hpd]; exact t5.dict) hd5
    have hpn : Hn p = none := g6.un upd_same (Evl.fresh_back g5.s hp)
    refine ⟨Hn, (e4.trans g5.k).trans g6.k, g6.s.mut hdn, some (.str z), as ++ [p], rfl, ?_, hdn, fun b m => ?_, (((g4.trans g5).trans (still (g5.s.trans (Evl.Ex.new hp)) (Evl.Ex.new hp))).trans g6).mut hd hdn⟩
    · rw [take_snoc hz]
      exact t5.snoc (not_taken N.nd hz) hp g6.c rfl
    · rcases List.mem_append.mp m with m | m
      · obtain ⟨xs, q0⟩ := t.any m
        have q := g5.c _ _ q0
        have hbp : b ≠ p := fun e => by rw [e, hp] at q; cases q
        exact ⟨g6.un (o := .lst xs) (by rw [upd_ne hbp]; exact q) (g5.un q0 (has b m).1), (has b m).2⟩
      · rw [List.mem_singleton.mp m]
        exact ⟨hpn, Evl.fresh_back (g4.trans g5).c hp⟩
  · rintro σ1 H4 Hc4 e4 e5 ⟨u, as, rfl, t, hd4, has, g4⟩
    rw [List.length_map, List.take_length] at t
    have hb : Ex H H4 := g4.k
    refine b_for (H := H4) (g := gTup K 2 (gCons (gName 4) (gCons (gName 5) gNil))) g4.s PassesOwn.never rfl (pi_list pe_w) (i_list (xs := ts.map V.ref) (Cm.imp (e_var (v := V.ref b) 1) fun v H' e z => ⟨b, z, Evl.ex_l (hb.trans e) h2⟩))
      (pg_tup rfl (pgs_cons (pg_name (i := 4) scNear.nd rfl (.inl rfl)) (pgs_cons (pg_name (i := 5) scNear.nd rfl (.inl rfl)) pgs_nil))) fun H5 H6 g5 => ?_
    have un : ∀ {H7 Hc7}, Grow H4 Hc4 H7 Hc7 → ∀ a ∈ as, H7 a = none ∧ Hc a = none := fun {H7 Hc7} gx a m => by
      obtain ⟨xs, q0⟩ := t.any m
      exact ⟨gx.un q0 (has a m).1, (has a m).2⟩
    refine ⟨fun i σ1 H7 Hc7 => ∃ (u v1 v2 : Option V), σ1 = [some (.ref a), some (.ref b), some (.ref d), u, v1, v2] ∧ Tb Hc7 d ns as (nb (ls.take i)) ∧ H7 d = none ∧ (∀ a ∈ as, H7 a = none ∧ Hc a = none) ∧ Grow H Hc H7 Hc7,
      ⟨u, none, none, rfl, (t.ex g5.c).congr fun _ _ => rfl, g5.un t.dict hd4, un g5, g4.trans g5⟩, ?_, ?_⟩
    · rintro i σ1 H7 Hc7 hi e7 e7' ⟨u, v1, v2, rfl, t7, hd7, has7, g7⟩ x H8 Hc8 g8 py
      obtain ⟨q, p, rfl, hq, hp, hH⟩ := ts_get h3 py.now
      obtain ⟨m1, m2, ne⟩ := N.lk p (List.mem_of_getElem? hp)
      have eH : Ex H H8 := g7.k.trans g8.k
      refine bind_two (K := K) (.sqt (SqT.of (eH _ _ hH))) Hc8 g8.s _ ?_
      obtain ⟨j1, hj1⟩ := List.getElem?_of_mem m1
      obtain ⟨j2, hj2⟩ := List.getElem?_of_mem m2
      obtain ⟨a1, k1⟩ : ∃ a1, as[j1]? = some a1 := ⟨_, List.getElem?_eq_getElem (by rw [← t.len]; exact (List.getElem?_eq_some_iff.mp hj1).1)⟩
      obtain ⟨a2, k2⟩ : ∃ a2, as[j2]? = some a2 := ⟨_, List.getElem?_eq_getElem (by rw [← t.len]; exact (List.getElem?_eq_some_iff.mp hj2).1)⟩
      have ma1 := List.mem_of_getElem? k1
      have ma2 := List.mem_of_getElem? k2
      have t8 := t7.ex g8.c
      have hd8 : H8 d = none := g8.un t7.dict hd7
      have n1 : H8 a1 = none := g8.un (t7.at_ _ _ _ hj1 k1) (has7 a1 ma1).1
      have n2 : H8 a2 = none := g8.un (t7.at_ _ _ _ hj2 k2) (has7 a2 ma2).1
      have short : ∀ x, (nb (ls.take i) x).length < 100000 := fun x => Nat.lt_of_le_of_lt (List.length_filterMap_le _ _) (by rw [List.length_take]; omega)
      refine b_app (H := upd H8 d (.dK (tbl ns as))) (l := a1) (P := is (V.str p.2)) (xs := (nb (ls.take i) p.1).map V.str) (g8.s.own t8.dict) (e_dget (hu_of hr) (e_var 2) (e_var 4) (by have q := pz_dK (key := .inr p.1) (.at (upd_same (H := H8) (a := d) (o := .dK (tbl ns as)))); rw [tbl_val t.len N.nd hj1 k1] at q; exact q)) (e_var 5) (t8.at_ _ _ _ hj1 k1) (by rw [List.length_map]; exact short _) fun v Hn H9 g9 pv => ?_
      obtain rfl : v = V.str p.2 := pv.now
      have ga := (g7.trans g8).looked hd8 g9
      have t9 := (t8.ex g9.c).app N.nd hj1 k1 (y := p.2)
      have gb := ga.mut (o := .lst ((nb (ls.take i) p.1).map V.str ++ [V.str p.2])) (has7 a1 ma1).2 n1
      refine b_app (H := upd H8 d (.dK (tbl ns as))) (l := a2) (P := is (V.str p.1)) (xs := (if p.2 = p.1 then nb (ls.take i) p.1 ++ [p.2] else nb (ls.take i) p.2).map V.str) (gb.s.own t9.dict) (e_dget (hu_of hr) (e_var 2) (e_var 5) (by have q := pz_dK (key := .inr p.2) (.at (upd_same (H := H8) (a := d) (o := .dK (tbl ns as)))); rw [tbl_val t.len N.nd hj2 k2] at q; exact q)) (e_var 4) (t9.at_ _ _ _ hj2 k2) (by rw [if_neg ne.symm, List.length_map]; exact short _) fun v Hm H10 g10 pv => b_nil ?_
      obtain rfl : v = V.str p.1 := pv.now
      have gc := gb.looked hd8 g10
      have t10 := (t9.ex g10.c).app N.nd hj2 k2 (y := p.1)
      refine ⟨H8, (e7.trans g8.k), gc.s.mut n2, u, some (.str p.1), some (.str p.2), rfl, t10.congr fun x hx => ?_, hd8, fun a m => ?_, gc.mut (has7 a2 ma2).2 n2⟩
      · rw [take_snoc hp, nb_snoc]
        by_cases hx2 : x = p.2
        · subst hx2
          rw [if_pos rfl, if_neg ne.symm, if_neg ne, if_pos rfl]
        · rw [if_neg hx2]
          by_cases hx1 : x = p.1
          · subst hx1
            rw [if_pos rfl, if_pos rfl]
          · rw [if_neg hx1, if_neg (fun e => hx1 e.symm), if_neg (fun e => hx2 e.symm), List.append_nil]
      · obtain ⟨xs, q0⟩ := t7.any m
        exact ⟨g8.un q0 (has7 a m).1, (has7 a m).2⟩
    · rintro σ1 H7 Hc7 e7 e7' ⟨u, v1, v2, rfl, t7, hd7, has7, g7⟩
      rw [List.length_map, hl3, List.take_length] at t7
      obtain ⟨H8, g8, e8, k8⟩ := g7.knowL (d :: as) fun a m => by
        rcases List.mem_cons.mp m with rfl | m
        · exact ⟨hd, hd7, _, t7.dict⟩
        · obtain ⟨xs, q0⟩ := t7.any m
          exact ⟨(has7 a m).2, (has7 a m).1, _, q0⟩
      have t8 : Tb H8 d ns as (nb ls) := ⟨t7.len, (k8 d (List.mem_cons_self ..)).trans t7.dict, fun j x a h1 h2 => (k8 a (List.mem_cons_of_mem _ (List.mem_of_getElem? h2))).trans (t7.at_ j x a h1 h2), t7.nd, t7.out⟩
      refine b_ret (P := is (V.ref d)) g8.s (e_var 2) fun v H9 H10 g10 p10 => rt v _ _ (g8.trans g10) ?_
      obtain rfl : v = V.ref d := p10.now
      exact fun H' e' => ⟨d, as, rfl, t8.ex (g10.k.trans e')⟩
end
end K19
set_option Elab.async false
set_option linter.all false
set_option maxRecDepth 100000
set_option maxHeartbeats 2000000
namespace K19
open PySem L2 LW
def along (xs : List Str) : List (Str × Str) := xs.zip (xs.drop 1)
theorem along_get {xs : List Str} {i : Nat} (h : i < xs.length - 1) : ∃ x y, xs[i]? = some x ∧ xs[i + 1]? = some y ∧ (along xs)[i]? = some (x, y) := by
  refine ⟨xs[i]'(by omega), xs[i + 1]'(by omega), List.getElem?_eq_getElem _, List.getElem?_eq_getElem _, ?_⟩
  unfold along
  rw [List.getElem?_zip_eq_some]
  exact ⟨List.getElem?_eq_getElem _, by rw [List.getElem?_drop, Nat.add_comm]; exact List.getElem?_eq_getElem _⟩
section
variable {P : Program} {w : World} {K : PySem.W.Frag} {mg : Str → Option Value} {base : Heap} {f : Addr} {fd : FuncData}
def AAlong (K : PySem.W.Frag) : List Str → List V → Hp → Prop := fun xs vs H => ∃ a, vs = [.ref a] ∧ SqT K H a (xs.map V.str) ∧ xs.length ≤ 60
/-- a new list of these pairs -/
def RPs : List (Str × Str) → V → Hp → Prop := fun ps v H => ∃ a ts, v = .ref a ∧ H a = some (.lst (ts.map V.ref)) ∧ TsAt H ts ps
def RAlong : List Str → V → Hp → Prop := fun xs => RPs (along xs)
theorem scAlong : FnScope ["nodes", "at"] ["nodes"] (defScope sAlong) := ⟨rfl, rfl, rfl, by decide +kernel, rfl, by decide +kernel, by decide +kernel⟩
theorem b_along (B : Blt K mg) : Body P w K mg base ["nodes", "at"] "links_along" sAlong f 0 (AAlong K) RAlong := by
  intro cdv Ar outer s H0 E xs vs H Hc D hr ex pa rt nx
  obtain ⟨a, rfl, h1, hz⟩ := pa.now
  have hq := Pz.sqt h1
  have hl : (xs.map V.str).length = xs.length := List.length_map _
  refine b_ret ex (e_lc (own := [("at", 1)]) (g := gName 1) rfl scAlong.nd (pi_range1 rfl B.range pa_w) (blkOk_by (N := ["nodes", "at"]) (sc := defScope sAlong) (by decide +kernel)) (fun _ _ _ _ _ => pg_name (i := 1) scAlong.nd rfl (.inl rfl)) (fun _ _ _ _ _ => pts_nil)
    (c_lc (i_rng1 (n := (xs.length : Int) - 1) (a_consD (t_is (e_opD op_sub (e_len (xs := xs.map V.str) B.len (e_var (v := V.ref a) 0) (hq.imp fun _ _ z => .inr z)) e_int (r_I0 (g := fun i j => V.int (i - j)) (i := ((xs.map V.str).length : Int)) (j := 1))) (by rw [hl])) a_nil) (by omega) (by omega)) (by omega)
      (fun i acc H' => ∃ us, acc = us.map V.ref ∧ TsAt H' us ((along xs).take i)) (fun _ => ⟨[], rfl, .nil⟩) (fun i y acc H1 hi e1 py pacc => ?_) fun acc p H1 e1 pacc hp => ?_)) fun v Hn H2 g p => rt v _ _ g p
  · obtain ⟨x1, x2, hx1, hx2, hx3⟩ := along_get (xs := xs) (i := i) (by omega)
    obtain rfl : y = V.int (0 + (i : Int)) := py.now
    have q1 := hq.mono e1
    refine ⟨_, true, bind_name, rfl, c_yes, fun _ => c_eb fun s H0 C cl fp => ?_, fun q => nomatch q⟩
    refine Cm.imp (e_tup (P := pr (x1, x2)) (a_consD (v := V.str x1) (e_itemT (j := i) (e_var 0) (t_is (e_var (v := V.int (0 + (i : Int))) 1) (by rw [Int.zero_add])) q1 (by rw [List.getElem?_map, hx1] <;> rfl)) (a_consD (v := V.str x2) (e_itemT (j := i + 1) (e_var 0) (t_is (e_opD op_add (e_var (v := V.int (0 + (i : Int))) 1) e_int (r_I0 (g := fun i j => V.int (i + j)) (i := 0 + (i : Int)) (j := 1))) (by congr 1; omega)) q1 (by rw [List.getElem?_map, hx2] <;> rfl)) a_nil))
      (fun xs _ z => by rw [show xs = _ from z]; exact (by decide : 2 ≤ 100000)) fun xs p H1 e1 z hp => ?_) fun v H' e z => ?_
    · rw [show xs = _ from z.now] at hp
      exact fun H' e' => ⟨p, rfl, e' _ _ hp⟩
    · obtain ⟨d, rfl, hd⟩ := z
      obtain ⟨us, rfl, hu⟩ := pacc H' e
      exact ⟨us ++ [d], by simp, by rw [take_snoc hx3]; exact ts_snoc hd hu⟩
  · obtain ⟨us, rfl, hu⟩ := pacc.now
    have e : (along xs).take ((xs.length : Int) - 1).toNat = along xs := List.take_of_length_le (by unfold along; simp)
    rw [e] at hu
    exact fun H' e' => ⟨p, us, rfl, e' _ _ hp, paired_ex e' hu⟩
end
end K19
set_option Elab.async false
set_option linter.all false
set_option maxRecDepth 100000
set_option maxHeartbeats 2000000
namespace K19
open PySem L2 LW
abbrev sNet : Stmt := top 33
abbrev sInit : Stmt := inClass sNet 2
/-- the class Net -/
structure NetF (K : PySem.W.Frag) (mg : Str → Option Value) (C : Addr) : Prop where
  mgN : mg "Net" = some (.ref C)
  cls : Cls K C
  n1 : NoAttr K C "_nodes"
  n2 : NoAttr K C "_links"
  n3 : NoAttr K C "_near"
  mc : ∃ mc u v, ClX.CRead K C mc ∧ ClX.CVal K C mc "MOST_NODES" (.int 60) u ∧ ClX.CVal K C mc "MOST_LINKS" (.int 120) v
/-- what a net holds -/
structure Nt (ns : List Str) (ls : List (Str × Str)) : Prop where
  len : ns.length ≤ 60
  ne : ns ≠ []
  nd : ns.Nodup
  nm : ∀ x ∈ ns, Nm x
  sn : SortN ns
  ll : ls.length ≤ 60
  nl : ls.Nodup
  lk : ∀ p ∈ ls, p.1 ∈ ns ∧ p.2 ∈ ns ∧ Lt p.1 p.2
  sp : SortP ls
/-- a net at a -/
def NetAt (C : Addr) (a : Addr) (ns : List Str) (ls : List (Str × Str)) (H : Hp) : Prop := ∃ dx l1 l2 l3 ts as, H a = some (.ins C dx [("_nodes", .ref l1), ("_links", .ref l2), ("_near", .ref l3)]) ∧ H l1 = some (.lst (ns.map V.str)) ∧ H l2 = some (.lst (ts.map V.ref)) ∧ TsAt H ts ls ∧ Tb H l3 ns as (nb ls)
theorem NetAt.ex {C a : Addr} {ns : List Str} {ls : List (Str × Str)} {H H' : Hp} (e : Ex H H') (h : NetAt C a ns ls H) : NetAt C a ns ls H' := by
  obtain ⟨dx, l1, l2, l3, ts, as, h1, h2, h3, h4, h5⟩ := h
  exact ⟨dx, l1, l2, l3, ts, as, e _ _ h1, e _ _ h2, e _ _ h3, paired_ex e h4, h5.ex e⟩
theorem lk_lt {p : Str × Str} (h : Lk p) : Lt (lk p).1 (lk p).2 := by
  unfold lk lnk
  by_cases e : Lt p.1 p.2
  · rw [if_pos e]; exact e
  · rw [if_neg e]
    exact Decidable.byContradiction fun z => h.2.2 (Lt.tri e z)
section
variable {P : Program} {w : World} {K : PySem.W.Frag} {mg : Str → Option Value} {base : Heap} {f C : Addr} {fd : FuncData}
structure NetIn where
  q : Bool
  xs : List Str
  q2 : Bool
  ps : List (Str × Str)
structure NetIn.Ok (x : NetIn) : Prop where
  nds : Nds x.xs
  lks : Lks x.ps (some (x.q, x.xs))
def ANet (K : PySem.W.Frag) : NetIn → List V → Hp → Prop := fun x vs H => ∃ a b ts, vs = [.ref a, .ref b] ∧ Sq K x.q H a (x.xs.map V.str) ∧ Sq K x.q2 H b (ts.map V.ref) ∧ TsAt H ts x.ps ∧ x.Ok
def RNet (C : Addr) : NetIn → V → Hp → Prop := fun x v H => ∃ a ns ls, v = .ref a ∧ NetAt C a ns ls H ∧ ns.Perm x.xs ∧ ls.Perm (x.ps.map lk) ∧ Nt ns ls
abbrev nInit : List Str := ["self", "nodes", "links", "kept"]
theorem scInit : FnScope nInit ["self", "nodes", "links"] (defScope sInit) := ⟨rfl, rfl, rfl, by decide +kernel, rfl, by decide +kernel, by decide +kernel⟩
theorem nt_of {x : NetIn} (o : x.Ok) {ns : List Str} {ls : List (Str × Str)} (h1 : ns.Perm x.xs) (h2 : ls.Perm (x.ps.map lk)) (s1 : SortN ns) (s2 : SortP ls) : Nt ns ls := by
  refine ⟨by rw [h1.length_eq]; exact o.nds.len, fun e => o.nds.ne (by rw [e] at h1; exact h1.symm.eq_nil), h1.nodup_iff.mpr o.nds.nd, fun x hx => o.nds.nm x (h1.mem_iff.mp hx), s1, by rw [h2.length_eq, List.length_map]; exact o.lks.len, h2.nodup_iff.mpr o.lks.nd, fun p hp => ?_, s2⟩
  obtain ⟨q, hq, rfl⟩ := List.mem_map.mp (h2.mem_iff.mp hp)
  have k := o.lks.lk q hq
  obtain ⟨m1, m2⟩ : q.1 ∈ x.xs ∧ q.2 ∈ x.xs := o.lks.kn q hq
  refine ⟨?_, ?_, lk_lt k⟩ <;> unfold lk <;> rcases lnk_cases q.1 q.2 with e | e <;> rw [e] <;> first | exact h1.mem_iff.mpr m1 | exact h1.mem_iff.mpr m2
theorem b_init (B : Blt K mg) (F : NetF K mg C) (F1 : Fn P w K mg base "check_nodes" 2 (ANds K) RNon) (F2 : Fn P w K mg base "checked_links" 4 (ALks K) (RLks K)) (F3 : Fn P w K mg base "sorted_names" 1 (ANs K) (RSortN K)) (F4 : Fn P w K mg base "neighbour_table" 1 (ANear K) RNear) :
    BodyI P w K mg base C nInit "Net.__init__" sInit f 4 (ANet K) (RNet C) := by
  intro cdv Ar outer s H0 E x ws H Hc p dx D hr ex hp hpH pa nx
  obtain ⟨a, b, ts, rfl, h1, h2, h3, o⟩ := pa.now
  obtain ⟨mc, u, v, r, c1, c2⟩ := F.mc
  have hq : Pz H (fun H' => Sq K x.q H' a (x.xs.map V.str)) := fun H' e => h1.ex e
  have l1 := o.nds.len
  have l2 := o.lks.len
  have g00 : Grow H (off Hc p) H Hc := still ex fun y z e => (off_some e).2
  refine b_expr ex (e_callD (x.q, x.xs) F1 (hr.mono (by decide)) (a_consD (e_var 1) a_nil) (fun H' e => ⟨a, rfl, hq H' e, o.nds⟩)) fun _ H1 Hc1 g1 _ => ?_
  refine b_set 3 g1.s (e_callD ((x.q2, x.ps), some (x.q, x.xs)) F2 hr (a_consD (e_var 2) (a_consD (e_var 1) a_nil)) (fun H' e => ⟨b, ts, .ref a, rfl, h2.ex (g1.k.trans e), paired_ex (g1.k.trans e) h3, ⟨a, rfl, hq H' (g1.k.trans e)⟩, o.lks⟩)) (fun v2 H2 Hc2 g2 p2 => ?_) scInit.nd
  obtain ⟨b2, ts2, qs, rfl, hb2, ht2, hp2, sp2⟩ := p2.now
  have lq : qs.length ≤ 60 := by rw [hp2.length_eq, List.length_map]; exact l2
  have lt2 := ht2.length
  have hq2 := hq.mono (g1.k.trans g2.k)
  refine b_ifF g2.s (t_is (t_cmpD op_gt (by rfl) (e_len (xs := x.xs.map V.str) B.len (e_var (v := V.ref a) 1) (hq2.imp fun _ _ z => z.any)) (e_cval r c1 (e_glob rfl F.mgN rfl)) (r_I0 (g := fun i j => V.bl (decide (j < i))) (i := ((x.xs.map V.str).length : Int)) (j := 60))) ?_) fun H3 Hc3 g3 => b_nil ?_
  · refine decide_eq_false fun z => ?_
    rw [List.length_map] at z
    omega
  refine b_ifF g3.s (t_is (t_cmpD op_gt (by rfl) (e_len (xs := ts2.map V.ref) B.len (e_var (v := V.ref b2) 3) (fun H' e => .inl (SqL.of (e _ _ (g3.k _ _ hb2))))) (e_cval r c2 (e_glob rfl F.mgN rfl)) (r_I0 (g := fun i j => V.bl (decide (j < i))) (i := ((ts2.map V.ref).length : Int)) (j := 120))) ?_) fun H4 Hc4 g4 => b_nil ?_
  · refine decide_eq_false fun z => ?_
    rw [List.length_map] at z
    omega
  have ga := ((g00.trans g1).trans (g2.trans g3)).trans g4
  have hpc : Hc4 p = some (.ins C dx []) := g4.c _ _ (g3.c _ _ (g2.c _ _ (g1.c _ _ hp)))
  have pn4 : H4 p = none := (g1.trans (g2.trans (g3.trans g4))).un hp hpH
  have hq4 := hq2.mono (g3.k.trans g4.k)
  refine b_fld F.cls F.n1 g4.s (e_callD (x.q, x.xs) F3 (hr.mono (by decide)) (a_consD (e_var 1) a_nil) (fun H' e => ⟨a, rfl, hq4 H' e, l1⟩)) (e_var 0) hpc (by decide) fun v5 H5 Hc5 g5 p5 => ?_
  obtain ⟨c5, ns, rfl, hc5, hp5, sn5⟩ := p5.now
  have pn5 : H5 p = none := g5.un hpc pn4
  have nopp : off Hc p p = none := off_at
  have f1 : putF "_nodes" (V.ref c5) [] = ([("_nodes", V.ref c5)] : List (Str × V)) := rfl
  rw [f1]
  have gb := (ga.trans g5).mut (o := .ins C dx [("_nodes", V.ref c5)]) nopp pn5
  refine b_fld F.cls F.n2 gb.s (P := is (V.ref b2)) (e_var 3) (e_var 0) upd_same (by exact (by decide : 1 < 1000)) fun v6 H6 Hc6 g6 p6 => ?_
  obtain rfl : v6 = V.ref b2 := p6.now
  have pn6 : H6 p = none := g6.un upd_same pn5
  have f2 : putF "_links" (V.ref b2) [("_nodes", V.ref c5)] = ([("_nodes", V.ref c5), ("_links", V.ref b2)] : List (Str × V)) := rfl
  rw [f2]
  have gc := (gb.trans g6).mut (o := .ins C dx [("_nodes", V.ref c5), ("_links", V.ref b2)]) nopp pn6
  have hb6 : H6 b2 = some (.lst (ts2.map V.ref)) := g6.k _ _ (g5.k _ _ (g4.k _ _ (g3.k _ _ hb2)))
  have hc6 := g6.k _ _ hc5
  have ht6 : TsAt H6 ts2 qs := paired_ex (g3.k.trans (g4.k.trans (g5.k.trans g6.k))) ht2
  have nt := nt_of o hp5 hp2 sn5 sp2
  have ep := Ex.put (o := .ins C dx [("_nodes", V.ref c5), ("_links", V.ref b2)]) pn6
  refine b_fld (H := upd H6 p (.ins C dx [("_nodes", V.ref c5), ("_links", V.ref b2)])) F.cls F.n3 (gc.s.own upd_same) (e_callD (ns, qs) F4 (hr.mono (by decide)) (a_consD (e_fld (v := V.ref c5) F.cls F.n1 (e_var 0) (.at upd_same) rfl) (a_consD (e_var 3) a_nil))
    (fun H' e => ⟨c5, b2, ts2, rfl, SqL.of (e _ _ (ep _ _ hc6)), SqL.of (e _ _ (ep _ _ hb6)), paired_ex (ep.trans e) ht6, ⟨nt.len, nt.ll, nt.nd, fun p hp => ⟨(nt.lk p hp).1, (nt.lk p hp).2.1, fun z => Lt.irr _ (z ▸ (nt.lk p hp).2.2)⟩⟩⟩)) (e_var 0) upd_same (by exact (by decide : 2 < 1000)) fun v7 H7 Hc7 g7 p7 => b_nil ?_
  obtain ⟨d, as, rfl, t7⟩ := p7.now
  have f3 : putF "_near" (V.ref d) [("_nodes", V.ref c5), ("_links", V.ref b2)] = ([("_nodes", V.ref c5), ("_links", V.ref b2), ("_near", V.ref d)] : List (Str × V)) := rfl
  rw [f3]
  have p7' := g7.k _ _ upd_same
  have gd := ((gc.lookedK pn6 g7).mut (o := .ins C dx [("_nodes", V.ref c5), ("_links", V.ref b2), ("_near", V.ref d)]) nopp off_at).know nopp off_at upd_same
  refine nx _ _ _ gd fun H' e' => ⟨p, ns, qs, rfl, ⟨dx, c5, b2, d, ts2, as, e' _ _ upd_same, ?_, ?_, ?_, ?_⟩, hp5, hp2, nt⟩
  · exact e' _ _ (off_keep p7' (g7.k _ _ (ep _ _ hc6)) (by intro z; cases z))
  · exact e' _ _ (off_keep p7' (g7.k _ _ (ep _ _ hb6)) (by intro z; cases z))
  · exact Paired.mapP ht6 fun _ _ z => e' _ _ (off_keep p7' (g7.k _ _ (ep _ _ z)) (by intro z; cases z))
  · refine ⟨t7.len, e' _ _ (off_keep p7' t7.dict (by intro z; cases z)), fun j y b h1 h2 => e' _ _ (off_keep p7' (t7.at_ j y b h1 h2) (by intro z; cases z)), t7.nd, t7.out⟩
end
end K19
set_option Elab.async false
set_option linter.all false
set_option maxRecDepth 100000
set_option maxHeartbeats 2000000
namespace K19
open PySem L2 LW
abbrev sNodes : Stmt := inClass sNet 7
abbrev sLinks : Stmt := inClass sNet 8
abbrev sSize : Stmt := inClass sNet 9
abbrev sLen : Stmt := inClass sNet 10
abbrev sCont : Stmt := inClass sNet 22
abbrev sEq : Stmt := inClass sNet 23
abbrev sNeedL : Stmt := top 37
theorem nb_mem {ls : List (Str × Str)} {p : Str × Str} (h : (p.1, p.2) ∈ ls ∨ (p.2, p.1) ∈ ls) (ne : p.1 ≠ p.2) : p.2 ∈ nb ls p.1 := by
  unfold nb
  rw [List.mem_filterMap]
  rcases h with h | h
  · exact ⟨_, h, if_pos rfl⟩
  · exact ⟨_, h, by rw [if_neg (fun e => ne e.symm), if_pos rfl]⟩
theorem lk_mem {ls : List (Str × Str)} {p : Str × Str} (h : lk p ∈ ls) : (p.1, p.2) ∈ ls ∨ (p.2, p.1) ∈ ls := by
  unfold lk at h
  rcases lnk_cases p.1 p.2 with e | e <;> rw [e] at h
  · exact .inl h
  · exact .inr h
section
variable {P : Program} {w : World} {K : PySem.W.Frag} {mg : Str → Option Value} {base : Heap} {f C : Addr} {fd : FuncData}
/-- a net at hand -/
structure NetV where
  a : Addr
  ns : List Str
  ls : List (Str × Str)
def NetV.At (C : Addr) (x : NetV) (H : Hp) : Prop := NetAt C x.a x.ns x.ls H ∧ Nt x.ns x.ls
def ASelf (C : Addr) : NetV → List V → Hp → Prop := fun x vs H => vs = [.ref x.a] ∧ x.At C H
theorem scNodes : FnScope ["self"] ["self"] (defScope sNodes) := ⟨rfl, rfl, rfl, by decide +kernel, rfl, by decide +kernel, by decide +kernel⟩
theorem scLinks : FnScope ["self"] ["self"] (defScope sLinks) := ⟨rfl, rfl, rfl, by decide +kernel, rfl, by decide +kernel, by decide +kernel⟩
theorem scSize : FnScope ["self"] ["self"] (defScope sSize) := ⟨rfl, rfl, rfl, by decide +kernel, rfl, by decide +kernel, by decide +kernel⟩
theorem scLen : FnScope ["self"] ["self"] (defScope sLen) := ⟨rfl, rfl, rfl, by decide +kernel, rfl, by decide +kernel, by decide +kernel⟩
def RNodes : NetV → V → Hp → Prop := fun x v H => ∃ b, v = .ref b ∧ H b = some (.lst (x.ns.map V.str))
def RLinks : NetV → V → Hp → Prop := fun x => RPs x.ls
def RSize : NetV → V → Hp → Prop := fun x v _ => v = .int (x.ls.length : Int)
def RLen : NetV → V → Hp → Prop := fun x v _ => v = .int (x.ns.length : Int)
theorem b_nodes (B : Blt K mg) (F : NetF K mg C) : Body P w K mg base ["self"] "Net.nodes" sNodes f 0 (ASelf C) RNodes := by
  intro cdv Ar outer s H0 E x vs H Hc D hr ex pa rt nx
  obtain ⟨rfl, ⟨dx, l1, l2, l3, ts, as, h1, h2, h3, h4, h5⟩, nt⟩ := pa.now
  exact b_ret ex (e_listOf (a := l1) (xs := x.ns.map V.str) B.list (e_fld (v := V.ref l1) F.cls F.n1 (e_var 0) (.at h1) rfl) (fun H' e => .inl (SqL.of (e _ _ h2)))) fun v Hn H2 g p => rt v _ _ g p
theorem b_links (B : Blt K mg) (F : NetF K mg C) : Body P w K mg base ["self"] "Net.links" sLinks f 0 (ASelf C) RLinks := by
  intro cdv Ar outer s H0 E x vs H Hc D hr ex pa rt nx
  obtain ⟨rfl, ⟨dx, l1, l2, l3, ts, as, h1, h2, h3, h4, h5⟩, nt⟩ := pa.now
  exact b_ret ex (e_listOf (a := l2) (xs := ts.map V.ref) B.list (e_fld (v := V.ref l2) F.cls F.n2 (e_var 0) (.at h1) rfl) (fun H' e => .inl (SqL.of (e _ _ h3)))) fun v Hn H2 g p => rt v _ _ g (p.imp fun H' e ⟨b, z1, z2⟩ => ⟨b, ts, z1, z2, paired_ex (g.k.trans e) h4⟩)
theorem b_size (B : Blt K mg) (F : NetF K mg C) : Body P w K mg base ["self"] "Net.size" sSize f 0 (ASelf C) RSize := by
  intro cdv Ar outer s H0 E x vs H Hc D hr ex pa rt nx
  obtain ⟨rfl, ⟨dx, l1, l2, l3, ts, as, h1, h2, h3, h4, h5⟩, nt⟩ := pa.now
  have e : (ts.map V.ref).length = x.ls.length := by rw [List.length_map]; exact h4.length
  exact b_ret (P := is (V.int (x.ls.length : Int))) ex (t_is (e_len (xs := ts.map V.ref) B.len (e_fld (v := V.ref l2) F.cls F.n2 (e_var 0) (.at h1) rfl) (fun H' e => .inl (SqL.of (e _ _ h3)))) (by rw [e])) fun v Hn H2 g p => rt v _ _ g p
theorem b_len (B : Blt K mg) (F : NetF K mg C) : Body P w K mg base ["self"] "Net.__len__" sLen f 0 (ASelf C) RLen := by
  intro cdv Ar outer s H0 E x vs H Hc D hr ex pa rt nx
  obtain ⟨rfl, ⟨dx, l1, l2, l3, ts, as, h1, h2, h3, h4, h5⟩, nt⟩ := pa.now
  have e : (x.ns.map V.str).length = x.ns.length := List.length_map _
  exact b_ret (P := is (V.int (x.ns.length : Int))) ex (t_is (e_len (xs := x.ns.map V.str) B.len (e_fld (v := V.ref l1) F.cls F.n1 (e_var 0) (.at h1) rfl) (fun H' e => .inl (SqL.of (e _ _ h2)))) (by rw [e])) fun v Hn H2 g p => rt v _ _ g p
/-! a link of the net -/
def ACont (C : Addr) (K : PySem.W.Frag) : NetV × (Str × Str) → List V → Hp → Prop := fun x vs H => ∃ t, vs = [.ref x.1.a, .ref t] ∧ SqT K H t [.str x.2.1, .str x.2.2] ∧ x.1.At C H ∧ Lk x.2 ∧ lk x.2 ∈ x.1.ls
theorem scCont : FnScope ["self", "x"] ["self", "x"] (defScope sCont) := ⟨rfl, rfl, rfl, by decide +kernel, rfl, by decide +kernel, by decide +kernel⟩
theorem b_cont (B : Blt K mg) (F : NetF K mg C) (FI : Fn P w K mg base "is_link" 2 (AIsL K) RTrue) : Body P w K mg base ["self", "x"] "Net.__contains__" sCont f 2 (ACont C K) RTrue := by
  intro cdv Ar outer s H0 E x vs H Hc D hr ex pa rt nx
  obtain ⟨x, p⟩ := x
  obtain ⟨t, rfl, hT, ⟨⟨dx, l1, l2, l3, ts, as, h1, h2, h3, h4, h5⟩, nt⟩, hl, hm⟩ := pa.now
  have hT : SqT K H t [.str p.1, .str p.2] := hT
  have hm : lk p ∈ x.ls := hm
  have h1 : H x.a = some (.ins C dx [("_nodes", .ref l1), ("_links", .ref l2), ("_near", .ref l3)]) := h1
  have h5 : Tb H l3 x.ns as (nb x.ls) := h5
  have nt : Nt x.ns x.ls := nt
  have hq := Pz.sqt hT
  have m2 := lk_mem hm
  have m1 : p.1 ∈ x.ns := m2.elim (fun z => (nt.lk _ z).1) fun z => (nt.lk _ z).2.1
  obtain ⟨j, hj⟩ := List.getElem?_of_mem m1
  obtain ⟨a1, k1⟩ : ∃ a1, as[j]? = some a1 := ⟨_, List.getElem?_eq_getElem (by rw [← h5.len]; exact (List.getElem?_eq_some_iff.mp hj).1)⟩
  have hv := tbl_val h5.len nt.nd hj k1
  refine b_ifT ex (t_val (e_callD p FI hr (a_consD (e_var 1) a_nil) (fun H' e => ⟨t, rfl, hq H' e, hl⟩))) fun Hn H2 g => ?_
  have hn : Pz Hn (fun H' => DGet H' l3 (V.str p.1) (some (.ref a1))) := by
    have q := pz_dK (key := .inr p.1) (Pz.at (g.k _ _ h5.dict))
    rw [hv] at q
    exact q
  have fl : ∀ {H'}, Ex Hn H' → Pz H' (fun H'' => H'' x.a = some (.ins C dx [("_nodes", .ref l1), ("_links", .ref l2), ("_near", .ref l3)])) := fun e => .at (e _ _ (g.k _ _ h1))
  refine b_ret (P := is (V.bl true)) g.s (e_and (k := true) (k' := true) (t_is (e_din (hu_of hr) (e_itemT (j := 0) (e_var 1) e_int (hq.mono g.k) rfl) (e_fld (v := V.ref l3) F.cls F.n3 (e_var 0) (fl (Evl.Ex.refl _)) rfl) hn) rfl) fun _ =>
    e_one (t_is (e_inS (z := p.2) (xs := nb x.ls p.1) (e_itemT (j := 1) (e_var 1) e_int (hq.mono g.k) rfl) (e_dget (hu_of hr) (e_fld (v := V.ref l3) F.cls F.n3 (e_var 0) (fl (Evl.Ex.refl _)) rfl) (e_itemT (j := 0) (e_var 1) e_int (hq.mono g.k) rfl) hn) (fun H' e => .inl (SqL.of (e _ _ (g.k _ _ (h5.at_ _ _ _ hj k1)))))) (by rw [decide_eq_true (nb_mem m2 hl.2.2)]))) fun v Hn2 H3 g3 q => rt v _ _ (g.trans g3) q
def ANeedL (C : Addr) (K : PySem.W.Frag) : NetV × (Str × Str) → List V → Hp → Prop := ACont C K
theorem scNeedL : FnScope ["net", "link"] ["net", "link"] (defScope sNeedL) := ⟨rfl, rfl, rfl, by decide +kernel, rfl, by decide +kernel, by decide +kernel⟩
theorem b_needL (B : Blt K mg) (FI : Fn P w K mg base "is_link" 2 (AIsL K) RTrue) (FC : Opx P w K mg base C "__contains__" 3 (ACont C K) RTrue) : Body P w K mg base ["net", "link"] "need_link" sNeedL f 3 (ACont C K) RNon := by
  intro cdv Ar outer s H0 E x vs H Hc D hr ex pa rt nx
  obtain ⟨x, p⟩ := x
  obtain ⟨t, rfl, hT, hA, hl, hm⟩ := pa.now
  have hT : SqT K H t [.str p.1, .str p.2] := hT
  have hq := Pz.sqt hT
  have hA : x.At C H := hA
  obtain ⟨⟨dx, l1, l2, l3, ts, as, h1, hrest⟩, nt⟩ := id hA
  refine b_ifF ex (t_w (w_or (k := false) (k' := false) (t_not (k := true) (t_val (e_callD p FI (hr.mono (by decide)) (a_consD (e_var 1) a_nil) (fun H' e => ⟨t, rfl, hq H' e, hl⟩)))) fun _ =>
    w_or1 (t_nin (c := true) (y := (x, p)) FC hr (e_var 1) (e_var 0) (.at h1) (fun H' e => ⟨t, rfl, hq H' e, ⟨hA.1.ex e, hA.2⟩, hl, hm⟩) (fun _ _ z => z)))) fun Hn H2 g => b_nil (b_nil (nx _ _ _ g (.const rfl)))
/-! == of nets -/
/-- what isinstance asks of the class -/
structure NetTy (K : PySem.W.Frag) (C : Addr) : Prop where
  ha : PySem.W.findIn K (.ref C) "__class__" = some (some (.builtin "object.__class__"))
  hn : PySem.W.specialIn K (.builtin "object.__class__") "__get__" = some (some (.builtin "getset_descriptor.__get__"))
  htk : PySem.W.takesIn K (.builtin "object.__class__") = some true
  hm : PySem.W.mroIn K C (.type "object") = some true
  kit : PySem.W.kitOne K (.ref C) (.ref C) = some true
def AEq (C : Addr) : NetV × NetV → List V → Hp → Prop := fun x vs H => vs = [.ref x.1.a, .ref x.2.a] ∧ x.1.At C H ∧ x.2.At C H
def REq : NetV × NetV → V → Hp → Prop := fun x v _ => v = .bl (decide (x.1.ns = x.2.ns ∧ x.1.ls = x.2.ls))
theorem scEq : FnScope ["self", "other"] ["self", "other"] (defScope sEq) := ⟨rfl, rfl, rfl, by decide +kernel, rfl, by decide +kernel, by decide +kernel⟩
theorem Nt.nml {ns : List Str} {ls : List (Str × Str)} (nt : Nt ns ls) : ∀ p ∈ ls, Nm p.1 ∧ Nm p.2 := fun p hp => ⟨nt.nm _ (nt.lk p hp).1, nt.nm _ (nt.lk p hp).2.1⟩
theorem b_eq (B : Blt K mg) (F : NetF K mg C) (T : NetTy K C) : Body P w K mg base ["self", "other"] "Net.__eq__" sEq f 0 (AEq C) REq := by
  intro cdv Ar outer s H0 E x vs H Hc D hr ex pa rt nx
  obtain ⟨x, y⟩ := x
  obtain ⟨rfl, ⟨⟨dx, l1, l2, l3, ts, as, h1, h2, h3, h4, h5⟩, nt⟩, ⟨dy, m1, m2, m3, us, bs, k1, k2, k3, k4, k5⟩, nt'⟩ := pa.now
  have h1 : H x.a = some (.ins C dx [("_nodes", .ref l1), ("_links", .ref l2), ("_near", .ref l3)]) := h1
  have k1 : H y.a = some (.ins C dy [("_nodes", .ref m1), ("_links", .ref m2), ("_near", .ref m3)]) := k1
  have h2 : H l1 = some (.lst (x.ns.map V.str)) := h2
  have k2 : H m1 = some (.lst (y.ns.map V.str)) := k2
  have h4 : TsAt H ts x.ls := h4
  have k4 : TsAt H us y.ls := k4
  have nt : Nt x.ns x.ls := nt
  have nt' : Nt y.ns y.ls := nt'
  have hu : (fx P w K mg base ["self", "other"] "Net.__eq__" sEq f cdv Ar outer s H0 E).A.units + 64 < cLine := hr.units
  refine b_ret (P := is (V.bl (decide (x.ns = y.ns ∧ x.ls = y.ls)))) ex (t_is (e_and (k := true) (k' := decide (x.ns = y.ns) && decide (x.ls = y.ls)) (e_isi (ty := .ref C) (u := .ref C) (c := V.ref C) B.isi (e_var (v := V.ref y.a) 1) (e_glob (v := V.ref C) rfl F.mgN rfl) (fun H' e => .base (.ins (e _ _ k1) F.cls T.ha T.hn T.htk T.hm)) (.own C) T.kit) fun _ =>
    e_and (k := decide (x.ns = y.ns)) (e_eqTxts hu (e_fld (v := V.ref l1) F.cls F.n1 (e_var 0) (.at h1) rfl) (e_fld (v := V.ref m1) F.cls F.n1 (e_var 1) (.at k1) rfl) (fun H' e => SqL.of (e _ _ h2)) (fun H' e => SqL.of (e _ _ k2)) nt.nm nt'.nm) fun _ =>
      e_one (e_eqPrs hu (e_fld (v := V.ref l2) F.cls F.n2 (e_var 0) (.at h1) rfl) (e_fld (v := V.ref m2) F.cls F.n2 (e_var 1) (.at k1) rfl) (fun H' e => ⟨SqL.of (e _ _ h3), paired_ex e h4⟩) (fun H' e => ⟨SqL.of (e _ _ k3), paired_ex e k4⟩) nt.nml nt'.nml)) ?_) fun v Hn H2 g q => rt v _ _ g q
  rw [Bool.true_and, ← Bool.decide_and]
end
end K19
set_option Elab.async false
set_option linter.all false
set_option maxRecDepth 100000
set_option maxHeartbeats 2000000
namespace K19
open PySem L2 LW
abbrev sOf : Stmt := inClass sNet 3
abbrev sPath : Stmt := inClass sNet 4
abbrev sRing : Stmt := inClass sNet 5
abbrev sFull : Stmt := inClass sNet 6
theorem lk_eq {p q : Str × Str} (h : lk p = lk q) : (p.1 = q.1 ∧ p.2 = q.2) ∨ (p.1 = q.2 ∧ p.2 = q.1) := by
  unfold lk at h
  rcases lnk_cases p.1 p.2 with e | e <;> rcases lnk_cases q.1 q.2 with e2 | e2 <;> rw [e, e2] at h <;> injection h with h1 h2
  · exact .inl ⟨h1, h2⟩
  · exact .inr ⟨h1, h2⟩
  · exact .inr ⟨h2, h1⟩
  · exact .inl ⟨h2, h1⟩
theorem nd_at {α : Type} {xs : List α} (nd : xs.Nodup) {i j : Nat} {x : α} (h1 : xs[i]? = some x) (h2 : xs[j]? = some x) : i = j := by
  obtain ⟨l1, e1⟩ := List.getElem?_eq_some_iff.mp h1
  obtain ⟨l2, e2⟩ := List.getElem?_eq_some_iff.mp h2
  exact (List.getElem_inj (h₀ := l1) (h₁ := l2) nd).mp (e1.trans e2.symm)
theorem along_at {xs : List Str} {i : Nat} {p : Str × Str} (h : (along xs)[i]? = some p) : xs[i]? = some p.1 ∧ xs[i + 1]? = some p.2 := by
  unfold along at h
  obtain ⟨a, b⟩ := List.getElem?_zip_eq_some.mp h
  rw [List.getElem?_drop, Nat.add_comm] at b
  exact ⟨a, b⟩
theorem along_lks {xs : List Str} (N : Nds xs) : (∀ p ∈ along xs, Lk p ∧ p.1 ∈ xs ∧ p.2 ∈ xs) ∧ ((along xs).map lk).Nodup := by
  refine ⟨fun p hp => ?_, List.pairwise_iff_getElem.mpr fun i j hi hj hij e => ?_⟩
  · obtain ⟨i, hi⟩ := List.getElem?_of_mem hp
    obtain ⟨a, b⟩ := along_at hi
    have ma := List.mem_of_getElem? a
    have mb := List.mem_of_getElem? b
    exact ⟨⟨N.nm _ ma, N.nm _ mb, fun z => by rw [z] at a; have := nd_at N.nd a b; omega⟩, ma, mb⟩
  · rw [List.length_map] at hi hj
    rw [List.getElem_map, List.getElem_map] at e
    obtain ⟨a, b⟩ := along_at (List.getElem?_eq_getElem hi)
    obtain ⟨c, d⟩ := along_at (List.getElem?_eq_getElem hj)
    rcases lk_eq e with ⟨z, _⟩ | ⟨z, _⟩
    · rw [z] at a; have := nd_at N.nd a c; omega
    · rw [z] at a; have := nd_at N.nd a d; omega
/-- .. and back to the first -/
def around (xs : List Str) : List (Str × Str) := match xs.getLast?, xs.head? with
  | some z, some a => along xs ++ [(z, a)]
  | _, _ => along xs
theorem around_of {xs : List Str} (h : 3 ≤ xs.length) : ∃ z a, xs[xs.length - 1]? = some z ∧ xs[0]? = some a ∧ around xs = along xs ++ [(z, a)] := by
  refine ⟨xs[xs.length - 1]'(by omega), xs[0]'(by omega), List.getElem?_eq_getElem _, List.getElem?_eq_getElem _, ?_⟩
  unfold around
  rw [List.getLast?_eq_getElem?, List.head?_eq_getElem?, List.getElem?_eq_getElem (by omega : xs.length - 1 < xs.length), List.getElem?_eq_getElem (by omega : 0 < xs.length)]
theorem around_lks {xs : List Str} (N : Nds xs) (h : 3 ≤ xs.length) : (∀ p ∈ around xs, Lk p ∧ p.1 ∈ xs ∧ p.2 ∈ xs) ∧ ((around xs).map lk).Nodup := by
  obtain ⟨k1, k2⟩ := along_lks N
  obtain ⟨z, a, hz, ha, e⟩ := around_of h
  have mz := List.mem_of_getElem? hz
  have ma := List.mem_of_getElem? ha
  have ne : z ≠ a := fun q => by rw [q] at hz; have := nd_at N.nd hz ha; omega
  rw [e]
  refine ⟨fun p hp => ?_, ?_⟩
  · rcases List.mem_append.mp hp with m | m
    · exact k1 p m
    · rw [List.mem_singleton.mp m]
      exact ⟨⟨N.nm _ mz, N.nm _ ma, ne⟩, mz, ma⟩
  · rw [List.map_append]
    refine List.nodup_append.mpr ⟨k2, List.nodup_cons.mpr ⟨List.not_mem_nil, List.nodup_nil⟩, fun p hp q hq e2 => ?_⟩
    rw [List.mem_singleton.mp hq] at e2
    obtain ⟨r, hr, rfl⟩ := List.mem_map.mp hp
    obtain ⟨i, hi⟩ := List.getElem?_of_mem hr
    obtain ⟨b, c⟩ := along_at hi
    have li := (List.getElem?_eq_some_iff.mp c).1
    rcases lk_eq e2 with ⟨q1, q2⟩ | ⟨q1, q2⟩
    · rw [q1] at b; have := nd_at N.nd b hz; omega
    · rw [q1] at b; rw [q2] at c; have := nd_at N.nd b ha; have := nd_at N.nd c hz; omega
section
variable {P : Program} {w : World} {K : PySem.W.Frag} {mg : Str → Option Value} {base : Heap} {f fi C : Addr} {fd : FuncData}
/-- the class makes nets -/
structure MkN (P : Program) (w : World) (K : PySem.W.Frag) (mg : Str → Option Value) (base : Heap) (C fi : Addr) : Prop where
  cl : Mk K C fi
  init : FnR P w K mg base CX0 5 fi (SpI C (ANet K) (RNet C))
def APath (C : Addr) (K : PySem.W.Frag) : List Str → List V → Hp → Prop := fun xs vs H => ∃ t, vs = [.ref C, .ref t] ∧ SqT K H t (xs.map V.str) ∧ Nds xs
/-- a net of these nodes and pairs -/
def RMade (C : Addr) (xs : List Str) (ps : List (Str × Str)) : V → Hp → Prop := fun v H => ∃ a ns ls, v = .ref a ∧ NetAt C a ns ls H ∧ ns.Perm xs ∧ ls.Perm (ps.map lk) ∧ Nt ns ls
def RPath (C : Addr) : List Str → V → Hp → Prop := fun xs => RMade C xs (along xs)
theorem scPath : FnScope ["cls", "nodes"] ["cls", "nodes"] (defScope sPath) := ⟨rfl, rfl, rfl, by decide +kernel, rfl, by decide +kernel, by decide +kernel⟩
theorem b_path (M : MkN P w K mg base C fi) (F1 : Fn P w K mg base "check_nodes" 2 (ANds K) RNon) (F5 : Fn P w K mg base "links_along" 1 (AAlong K) RAlong) : Body P w K mg base ["cls", "nodes"] "Net.path" sPath f 6 (APath C K) (RPath C) := by
  intro cdv Ar outer s H0 E xs vs H Hc D hr ex pa rt nx
  obtain ⟨t, rfl, h1, N⟩ := pa.now
  have hN := N.len
  have hq := Pz.sqt h1
  refine b_expr ex (e_callD (false, xs) F1 (hr.mono (by decide)) (a_consD (e_var 1) a_nil) (fun H' e => ⟨t, rfl, hq H' e, N⟩)) fun _ H1 Hc1 g1 _ => ?_
  refine b_ret g1.s (e_makeL (P := RPath C xs) 0 M.cl M.init hr rfl (a_cons (P := is (V.ref t)) (e_var 1) (a_cons (P := RPs (along xs)) (e_callD xs F5 (hr.mono (by decide)) (a_consD (e_var 1) a_nil) (fun H' e => ⟨t, rfl, hq H' (g1.k.trans e), hN⟩)) a_nil)) fun vs H2 e2 p2 => ?_) fun v Hn H3 g3 p3 => rt v _ _ (g1.trans g3) p3
  obtain ⟨u, us, rfl, rfl, u2, us2, rfl, ⟨b, ts, rfl, hb, ht⟩, rfl⟩ := p2.now
  obtain ⟨k1, k2⟩ := along_lks N
  refine ⟨⟨false, xs, true, along xs⟩, fun H' e' => ⟨t, b, ts, rfl, hq H' ((g1.k.trans e2).trans e'), SqL.of (e' _ _ hb), paired_ex e' ht, ⟨N, ⟨?_, fun p hp => (k1 p hp).1, k2, fun p hp => (k1 p hp).2⟩⟩⟩, fun _ _ _ z => z⟩
  show (along xs).length ≤ 60
  unfold along
  rw [List.length_zip]
  omega
def ARing (C : Addr) (K : PySem.W.Frag) : List Str → List V → Hp → Prop := fun xs vs H => ∃ t, vs = [.ref C, .ref t] ∧ SqT K H t (xs.map V.str) ∧ Nds xs ∧ 3 ≤ xs.length ∧ xs.length ≤ 50
def RRing (C : Addr) : List Str → V → Hp → Prop := fun xs => RMade C xs (around xs)
theorem scRing : FnScope ["cls", "nodes"] ["cls", "nodes"] (defScope sRing) := ⟨rfl, rfl, rfl, by decide +kernel, rfl, by decide +kernel, by decide +kernel⟩
theorem b_ring (B : Blt K mg) (M : MkN P w K mg base C fi) (F1 : Fn P w K mg base "check_nodes" 2 (ANds K) RNon) (F5 : Fn P w K mg base "links_along" 1 (AAlong K) RAlong) : Body P w K mg base ["cls", "nodes"] "Net.ring" sRing f 6 (ARing C K) (RRing C) := by
  intro cdv Ar outer s H0 E xs vs H Hc D hr ex pa rt nx
  obtain ⟨t, rfl, h1, N, h3, h50⟩ := pa.now
  have hN := N.len
  have hq := Pz.sqt h1
  obtain ⟨z, a, hz, ha, ea⟩ := around_of h3
  refine b_expr ex (e_callD (false, xs) F1 (hr.mono (by decide)) (a_consD (e_var 1) a_nil) (fun H' e => ⟨t, rfl, hq H' e, N⟩)) fun _ H1 Hc1 g1 _ => ?_
  have hq1 := hq.mono g1.k
  refine b_ifF g1.s (t_is (t_cmpD op_lt (by rfl) (e_len (xs := xs.map V.str) B.len (e_var (v := V.ref t) 1) (hq1.imp fun _ _ z => .inr z)) e_int (r_I0 (g := fun i j => V.bl (decide (i < j))) (i := ((xs.map V.str).length : Int)) (j := 3))) (decide_eq_false (by rw [List.length_map]; omega))) fun H2 Hc2 g2 => b_nil ?_
  refine b_ret g2.s (e_makeL (P := RRing C xs) 0 M.cl M.init hr rfl (a_cons (P := is (V.ref t)) (e_var 1) (a_cons (P := RPs (around xs)) ?_ a_nil)) fun vs H2 e2 p2 => ?_) fun v Hn H3 g3 p3 => rt v _ _ ((g1.trans g2).trans g3) p3
  · have hq2 := hq1.mono g2.k
    have l0 : (xs.map V.str).length = xs.length := List.length_map _
    refine Cm.imp (e_lst (P := fun v H' => ∃ b ts, v = .ref b ∧ H' b = some (.lst (ts.map V.ref)) ∧ TsAt H' ts (around xs)) (a_star (G := fun ys H' => ∃ ts, ys = ts.map V.ref ∧ TsAt H' ts (along xs)) (Cm.imp (e_callD xs F5 (hr.mono (by decide)) (a_consD (e_var 1) a_nil) (fun H' e => ⟨t, rfl, hq2 H' e, hN⟩)) fun v H' e ⟨b, ts, z1, z2, z3⟩ => ⟨b, _, z1, fun _ e => .inr (SqL.of (e _ _ z2)), fun _ e => ⟨ts, rfl, paired_ex e z3⟩⟩)
      (a_cons (P := pr (z, a)) (e_tup (a_consD (v := V.str z) (e_ixD ix_tup (e_var (v := V.ref t) 1) (e_un un_neg e_int (Cm.ret (fun _ _ _ q => ⟨1, rfl, q⟩) (.const rfl))) (r_ixT hq2 (atI_neg1 (by rw [l0, List.getElem?_map, hz] <;> rfl)))) (a_consD (v := V.str a) (e_itemT (j := 0) (e_var 1) e_int hq2 (by rw [List.getElem?_map, ha] <;> rfl)) a_nil)) (fun xs _ z => by rw [show xs = _ from z]; exact (by decide : 2 ≤ 100000)) fun ys p H3 e3 z hp => ?_) a_nil)) (fun ys H' z => ?_) fun ys p H3 e3 z hp => ?_) fun v H' _ z => z
    · rw [show ys = _ from z.now] at hp
      exact fun H' e' => ⟨p, rfl, e' _ _ hp⟩
    · obtain ⟨_, us, rfl, ⟨ts, rfl, ht⟩, u, us2, rfl, _, rfl⟩ := z
      have lt := ht.length
      rw [List.length_append, List.length_map, lt]
      unfold along
      rw [List.length_zip]
      simp
      omega
    · obtain ⟨_, us, rfl, ⟨ts, rfl, ht⟩, u, us2, rfl, ⟨b, rfl, hb⟩, rfl⟩ := z.now
      have e : List.map V.ref ts ++ [V.ref b] = (ts ++ [b]).map V.ref := by simp
      rw [e] at hp
      refine fun H' e' => ⟨p, ts ++ [b], rfl, e' _ _ hp, ?_⟩
      rw [ea]
      exact paired_ex e' (ts_snoc hb ht)
  obtain ⟨u, us, rfl, rfl, u2, us2, rfl, ⟨b, ts, rfl, hb, ht⟩, rfl⟩ := p2.now
  obtain ⟨k1, k2⟩ := around_lks N h3
  refine ⟨⟨false, xs, true, around xs⟩, fun H' e' => ⟨t, b, ts, rfl, hq H' (((g1.k.trans g2.k).trans e2).trans e'), SqL.of (e' _ _ hb), paired_ex e' ht, ⟨N, ⟨?_, fun p hp => (k1 p hp).1, k2, fun p hp => (k1 p hp).2⟩⟩⟩, fun _ _ _ z => z⟩
  show (around xs).length ≤ 60
  rw [ea, List.length_append, List.length_singleton]
  unfold along
  rw [List.length_zip]
  omega
end
end K19
set_option Elab.async false
set_option linter.all false
set_option maxRecDepth 100000
set_option maxHeartbeats 2000000
namespace K19
open PySem L2 LW
theorem keys_old {κ : Type} [DecidableEq κ] {kvs : List (κ × V)} {k : κ} (v : V) (h : k ∈ kvs.map (·.1)) : (putK kvs k v).map (·.1) = kvs.map (·.1) := by
  obtain ⟨q, hq, e⟩ := List.mem_map.mp h
  have ha : (kvs.any fun kv => decide (kv.1 = k)) = true := List.any_eq_true.mpr ⟨q, hq, decide_eq_true e⟩
  unfold putK
  rw [if_pos ha, List.map_map]
  exact List.map_congr_left fun p _ => by
    show (if p.1 = k then (p.1, v) else p).1 = p.1
    split <;> rfl
theorem keys_new {κ : Type} [DecidableEq κ] {kvs : List (κ × V)} {k : κ} (v : V) (h : k ∉ kvs.map (·.1)) : (putK kvs k v).map (·.1) = kvs.map (·.1) ++ [k] := by
  rw [putK_new v (valV_none h), List.map_append] <;> rfl
/-- the names so far -/
structure Seen (kvs : List (Key × V)) (ks : List Str) : Prop where
  keys : kvs.map (·.1) = ks.map Sum.inr
  nd : ks.Nodup
theorem Seen.put {kvs : List (Key × V)} {ks : List Str} (s : Seen kvs ks) (x : Str) (v : V) : Seen (putK kvs (.inr x) v) (if x ∈ ks then ks else ks ++ [x]) := by
  have m : (Sum.inr x : Key) ∈ kvs.map (·.1) ↔ x ∈ ks := by
    rw [s.keys]
    exact ⟨fun h => by obtain ⟨y, hy, e⟩ := List.mem_map.mp h; exact Sum.inr.inj e ▸ hy, fun h => List.mem_map.mpr ⟨x, h, rfl⟩⟩
  refine ⟨?_, ?_⟩
  · by_cases h : x ∈ ks
    · rw [keys_old v (m.mpr h), if_pos h]; exact s.keys
    · rw [keys_new v (fun z => h (m.mp z)), if_neg h, s.keys, List.map_append] <;> rfl
  · by_cases h : x ∈ ks
    · rw [if_pos h]; exact s.nd
    · rw [if_neg h]
      exact List.nodup_append.mpr ⟨s.nd, List.nodup_cons.mpr ⟨List.not_mem_nil, List.nodup_nil⟩, fun a ha b hb z => h (by rw [List.mem_singleton.mp hb] at z; exact z ▸ ha)⟩
theorem mem_put {ks : List Str} {x y : Str} : y ∈ (if x ∈ ks then ks else ks ++ [x]) ↔ y ∈ ks ∨ y = x := by
  by_cases h : x ∈ ks
  · rw [if_pos h]
    exact ⟨.inl, fun z => z.elim id fun e => e ▸ h⟩
  · rw [if_neg h, List.mem_append, List.mem_singleton]
theorem lk_lk {p : Str × Str} (h : Lt p.1 p.2) : lk p = p := by
  unfold lk lnk
  rw [if_pos h]
section
variable {P : Program} {w : World} {K : PySem.W.Frag} {mg : Str → Option Value} {base : Heap} {f fi C : Addr} {fd : FuncData}
structure Ofs (ps : List (Str × Str)) : Prop where
  len : ps.length ≤ 30
  ne : ps ≠ []
  lk : ∀ p ∈ ps, Lk p
  nd : (ps.map K19.lk).Nodup
def AOf (K : PySem.W.Frag) : List (Str × Str) → List V → Hp → Prop := fun ps vs H => ∃ t ts, vs = [.ref t] ∧ SqT K H t (ts.map V.ref) ∧ TsAt H ts ps ∧ Ofs ps
def ROf (C : Addr) : List (Str × Str) → V → Hp → Prop := fun ps v H => ∃ a ns ls, v = .ref a ∧ NetAt C a ns ls H ∧ (∀ x, x ∈ ns ↔ ∃ p ∈ ps, x = p.1 ∨ x = p.2) ∧ ls.Perm (ps.map lk) ∧ Nt ns ls
abbrev nOf : List Str := ["links", "kept", "nodes", "one", "other"]
theorem scOf : FnScope nOf ["links"] (defScope sOf) := ⟨rfl, rfl, rfl, by decide +kernel, rfl, by decide +kernel, by decide +kernel⟩
theorem b_of (B : Blt K mg) (F : NetF K mg C) (M : MkN P w K mg base C fi) (F2 : Fn P w K mg base "checked_links" 4 (ALks K) (RLks K)) : Body P w K mg base nOf "Net.of" sOf f 6 (AOf K) (ROf C) := by
  intro cdv Ar outer s H0 E ps vs H Hc D hr ex pa rt nx
  obtain ⟨t, ts, rfl, h1, h2, N⟩ := pa.now
  have hN := N.len
  have l2 := h2.length
  have hq := Pz.sqt h1
  refine b_ifF ex (t_is (t_cmpD op_eq (by rfl) (e_len (xs := ts.map V.ref) B.len (e_var (v := V.ref t) 0) (hq.imp fun _ _ z => .inr z)) e_int (r_eq (x := V.int ((ts.map V.ref).length : Int)) (y := V.int 0) rfl)) ?_) fun H1 Hc1 g1 => b_nil ?_
  · refine decide_eq_false fun z => N.ne ?_
    have z' := V.int.inj z
    rw [List.length_map] at z'
    exact List.eq_nil_of_length_eq_zero (by omega)
  refine b_set 1 g1.s (e_callD ((false, ps), none) F2 (hr.mono (by decide)) (a_consD (e_var 0) (a_consD e_non a_nil)) (fun H' e => ⟨t, ts, .non, rfl, hq H' (g1.k.trans e), paired_ex (g1.k.trans e) h2, rfl, ⟨by show ps.length ≤ 60; omega, N.lk, N.nd, fun _ _ => trivial⟩⟩)) (fun v2 H2 Hc2 g2 p2 => ?_) scOf.nd
  obtain ⟨b, us, qs, rfl, hb, hu, hp, sp⟩ := p2.now
  have hp : qs.Perm (ps.map lk) := hp
  have lq : qs.length ≤ 30 := by rw [hp.length_eq, List.length_map]; exact hN
  have lu := hu.length
  refine b_dnewK 2 g2.s (fun d hd => ?_) scOf.nd
  have hdH : H2 d = none := Evl.fresh_back g2.s hd
  refine b_for (H := H2) (g := gTup K 2 (gCons (gName 3) (gCons (gName 4) gNil))) (g2.s.trans (Evl.Ex.new hd)) PassesOwn.never rfl (pi_list pe_w) (i_list (xs := us.map V.ref) (Cm.imp (e_var (v := V.ref b) 1) fun v H' e z => ⟨b, z, SqL.of (e _ _ hb)⟩))
    (pg_tup rfl (pgs_cons (pg_name (i := 3) scOf.nd rfl (.inl rfl)) (pgs_cons (pg_name (i := 4) scOf.nd rfl (.inl rfl)) pgs_nil))) fun H3 Hc3 g3 => ?_
  have gg := (still (g2.s.trans (Evl.Ex.new hd)) (Evl.Ex.new hd)).trans g3
  refine ⟨fun i σ1 H4 Hc4 => ∃ (u1 u2 : Option V) (kvs : List (Key × V)) (ks : List Str), σ1 = [some (.ref t), some (.ref b), some (.ref d), u1, u2] ∧ H4 d = none ∧ Hc4 d = some (.dK kvs) ∧ kvs.length ≤ 2 * i ∧ Seen kvs ks ∧ (∀ x, x ∈ ks ↔ ∃ p ∈ qs.take i, x = p.1 ∨ x = p.2) ∧ Grow H2 Hc2 H4 Hc4,
    ⟨none, none, [], [], rfl, g3.un upd_same hdH, g3.c _ _ upd_same, Nat.le_refl _, ⟨rfl, List.nodup_nil⟩, fun x => by simp, gg⟩, ?_, ?_⟩
  · rintro i σ1 H4 Hc4 hi e4 e5 ⟨u1, u2, kvs, ks, rfl, hd4, hk4, hlen, hsn, hmem, g4⟩ x H5 Hc5 g5 py
    rw [List.length_map, lu] at hi
    obtain ⟨t2, p, rfl, ht2, hp2, hH⟩ := ts_get hu py.now
    refine bind_two (K := K) (.sqt (SqT.of ((g4.k.trans g5.k) _ _ hH))) Hc5 g5.s _ ?_
    have hk5 := g5.c _ _ hk4
    have n5 := g5.un hk4 hd4
    refine b_dput (key := .inr p.1) (l := d) (kvs := kvs) (P := is (V.bl true)) g5.s (hu_of hr) e_bl (e_var 2) (e_var 3) hk5 (by omega) fun w H6 Hc6 g6 _ => ?_
    have n6 : H6 d = none := g6.un hk5 n5
    have l6 := length_putK kvs (.inr p.1 : Key) w
    have ga := ((g4.trans g5).trans g6).mut (o := .dK (putK kvs (.inr p.1) w)) hd n6
    refine b_dput (key := .inr p.2) (l := d) (kvs := putK kvs (.inr p.1) w) (P := is (V.bl true)) ga.s (hu_of hr) e_bl (e_var 2) (e_var 4) upd_same (by omega) fun w2 H7 Hc7 g7 _ => b_nil ?_
    have n7 : H7 d = none := g7.un upd_same n6
    have l7 := length_putK (putK kvs (.inr p.1) w) (.inr p.2 : Key) w2
    refine ⟨H7, ((e4.trans g5.k).trans g6.k).trans g7.k, (ga.trans g7).s.mut n7, _, _, _, _, rfl, n7, upd_same, by omega, (hsn.put p.1 w).put p.2 w2, fun x => ?_, (ga.trans g7).mut hd n7⟩
    rw [mem_put, mem_put, hmem, take_snoc hp2]
    constructor
    · rintro ((⟨r, hr, e⟩ | e) | e)
      · exact ⟨r, List.mem_append_left _ hr, e⟩
      · exact ⟨p, List.mem_append_right _ (List.mem_singleton_self p), .inl e⟩
      · exact ⟨p, List.mem_append_right _ (List.mem_singleton_self p), .inr e⟩
    · rintro ⟨r, hr, e⟩
      rcases List.mem_append.mp hr with m | m
      · exact .inl (.inl ⟨r, m, e⟩)
      · rw [List.mem_singleton.mp m] at e
        exact e.elim (fun z => .inl (.inr z)) .inr
  · rintro σ1 H4 Hc4 e4 e5 ⟨u1, u2, kvs, ks, rfl, hd4, hk4, hlen, hsn, hmem, g4⟩
    rw [List.length_map, lu] at hlen
    rw [List.length_map, lu, List.take_length] at hmem
    have lks : ks.length ≤ 60 := by
      have z := congrArg List.length hsn.keys
      rw [List.length_map, List.length_map] at z
      omega
    have ends : ∀ x, x ∈ ks ↔ ∃ p ∈ ps, x = p.1 ∨ x = p.2 := fun x => by
      rw [hmem]
      constructor
      · rintro ⟨q, hq, e⟩
        obtain ⟨p, hp1, rfl⟩ := List.mem_map.mp (hp.mem_iff.mp hq)
        refine ⟨p, hp1, ?_⟩
        unfold lk at e
        rcases lnk_cases p.1 p.2 with z | z <;> rw [z] at e
        · exact e
        · exact e.symm
      · rintro ⟨p, hp1, e⟩
        refine ⟨lk p, hp.mem_iff.mpr (List.mem_map.mpr ⟨p, hp1, rfl⟩), ?_⟩
        unfold lk
        rcases lnk_cases p.1 p.2 with z | z <;> rw [z]
        · exact e
        · exact e.symm
    have fine : ∀ q ∈ qs, Lk q ∧ lk q = q := fun q hq => by
      obtain ⟨p, hp1, rfl⟩ := List.mem_map.mp (hp.mem_iff.mp hq)
      have k := N.lk p hp1
      refine ⟨?_, lk_lk (lk_lt k)⟩
      unfold lk
      rcases lnk_cases p.1 p.2 with z | z <;> rw [z]
      · exact k
      · exact ⟨k.2.1, k.1, fun e => k.2.2 e.symm⟩
    have same : qs.map lk = qs := (List.map_congr_left fun q hq => (fine q hq).2).trans (List.map_id qs)
    have nds : Nds ks := ⟨lks, fun e => N.ne (by
      cases ps with
      | nil => rfl
      | cons p r => exact absurd ((ends p.1).mpr ⟨p, List.mem_cons_self .., .inl rfl⟩) (by rw [e]; exact List.not_mem_nil)), hsn.nd, fun x hx => by
      obtain ⟨p, hp1, e⟩ := (ends x).mp hx
      exact e.elim (fun z => z ▸ (N.lk p hp1).1) fun z => z ▸ (N.lk p hp1).2.1⟩
    have kn : ∀ q ∈ qs, q.1 ∈ ks ∧ q.2 ∈ ks := fun q hq => ⟨(hmem q.1).mpr ⟨q, hq, .inl rfl⟩, (hmem q.2).mpr ⟨q, hq, .inr rfl⟩⟩
    have base := (g1.trans g2).trans (g4.know hd hd4 hk4)
    have eb : Ex H2 (upd H4 d (.dK kvs)) := g4.k.trans (Ex.put hd4)
    refine b_ret (H := upd H4 d (.dK kvs)) (P := ROf C ps) (e5.own hk4) (e_make M.cl F.mgN M.init hr (a_cons (P := fun v H' => ∃ p, v = .ref p ∧ SqL K H' p (ks.map V.str)) (e_tyD (call_listD rfl) B.list (a_consD (e_var 2) a_nil) (fun Hc ex Q q => ⟨d, kvs, rfl, .inl (ex _ _ upd_same), fun p hp => ?_⟩)) (a_cons (P := is (V.ref b)) (e_var 1) a_nil)) fun vs H5 e5 z => ?_) fun v H6 H7 g6 p6 => rt v _ _ (base.trans g6) p6
    · have ek : (kvs.map fun kv => kV kv.1) = ks.map V.str := by
        have z := congrArg (List.map kV) hsn.keys
        rw [List.map_map, List.map_map] at z
        exact z
      rw [ek]
      exact q _ _ _ (Grow.new ex hp) fun H' e' => ⟨p, rfl, SqL.of (e' _ _ upd_same)⟩
    · obtain ⟨u, us2, rfl, ⟨p, rfl, hp3⟩, u2, us3, rfl, rfl, rfl⟩ := z.now
      refine ⟨⟨true, ks, true, qs⟩, fun H' e' => ⟨p, b, us, rfl, Evl.ex_l e' hp3, SqL.of (e' _ _ (e5 _ _ (eb _ _ hb))), paired_ex ((eb.trans e5).trans e') hu, ⟨nds, ⟨by show qs.length ≤ 60; omega, fun q hq => (fine q hq).1, by rw [same]; exact hp.nodup_iff.mpr N.nd, kn⟩⟩⟩, fun v H' _ z => ?_⟩
      obtain ⟨a, ns, ls, e1, e2, e3, e4, e5⟩ := z
      have e4 : ls.Perm (qs.map lk) := e4
      have e3 : ns.Perm ks := e3
      exact ⟨a, ns, ls, e1, e2, fun x => e3.mem_iff.trans (ends x), by rw [same] at e4; exact e4.trans hp, e5⟩
end
end K19
set_option Elab.async false
set_option linter.all false
set_option maxRecDepth 100000
set_option maxHeartbeats 2000000
namespace K19
open PySem L2 LW
abbrev sSub : Stmt := inClass sNet 18
abbrev sPart : Stmt := inClass sNet 21
abbrev sNeedN : Stmt := top 34
section
variable {P : Program} {w : World} {K : PySem.W.Frag} {mg : Str → Option Value} {base : Heap} {f fi C : Addr} {fd : FuncData}
theorem scNeedN : FnScope ["net"] ["net"] (defScope sNeedN) := ⟨rfl, rfl, rfl, by decide +kernel, rfl, by decide +kernel, by decide +kernel⟩
theorem b_needN (B : Blt K mg) (F : NetF K mg C) (T : NetTy K C) : Body P w K mg base ["net"] "need_net" sNeedN f 0 (ASelf C) RNon := by
  intro cdv Ar outer s H0 E x vs H Hc D hr ex pa rt nx
  obtain ⟨rfl, ⟨dx, l1, l2, l3, ts, as, h1, _⟩, nt⟩ := pa.now
  exact b_ifF ex (t_not (k := true) (t_val (e_isi (ty := .ref C) (u := .ref C) (c := V.ref C) B.isi (e_var (v := V.ref x.a) 0) (e_glob (v := V.ref C) rfl F.mgN rfl) (fun H' e => .base (.ins (e _ _ h1) F.cls T.ha T.hn T.htk T.hm)) (.own C) T.kit))) fun Hn H2 g => b_nil (b_nil (nx _ _ _ g (.const rfl)))
/-! parts -/
def APart (C : Addr) : NetV × NetV → List V → Hp → Prop := fun x vs H => vs = [.ref x.1.a, .ref x.2.a] ∧ x.1.At C H ∧ x.2.At C H ∧ (∀ y ∈ x.1.ns, y ∈ x.2.ns) ∧ ∀ p ∈ x.1.ls, p ∈ x.2.ls
abbrev nPart : List Str := ["self", "other", "node", "link"]
theorem scPart : FnScope nPart ["self", "other"] (defScope sPart) := ⟨rfl, rfl, rfl, by decide +kernel, rfl, by decide +kernel, by decide +kernel⟩
theorem b_part (B : Blt K mg) (F : NetF K mg C) (FN : Fn P w K mg base "need_net" 1 (ASelf C) RNon) : Body P w K mg base nPart "Net.is_part_of" sPart f 1 (APart C) RTrue := by
  intro cdv Ar outer s H0 E x vs H Hc D hr ex pa rt nx
  obtain ⟨x, y⟩ := x
  obtain ⟨rfl, hX, hY, s1, s2⟩ := pa.now
  have hX : x.At C H := hX
  have hY : y.At C H := hY
  have s1 : ∀ z ∈ x.ns, z ∈ y.ns := s1
  have s2 : ∀ z ∈ x.ls, z ∈ y.ls := s2
  obtain ⟨⟨dx, l1, l2, l3, ts, as, h1, h2, h3, h4, h5⟩, nt⟩ := id hX
  obtain ⟨⟨dy, m1, m2, m3, us, bs, k1, k2, k3, k4, k5⟩, nt'⟩ := id hY
  have hu : (fx P w K mg base nPart "Net.is_part_of" sPart f cdv Ar outer s H0 E).A.units + 65 < cLine := by have := hr.un; omega
  refine b_expr ex (e_callD y FN hr (a_consD (e_var 1) a_nil) (fun H' e => ⟨rfl, hY.1.ex e, nt'⟩)) fun _ H1 Hc1 g1 _ => ?_
  have e1 := g1.k
  have l4 := h4.length
  refine b_ifF g1.s (t_not (k := true) (t_val (t_is (e_all (bs := List.replicate x.ns.length true) rfl B.all ?_) (by congr 1; exact List.all_eq_true.mpr fun b hb => List.eq_of_mem_replicate hb)))) fun H2 Hc2 g2 => b_nil (b_ret (P := is (V.bl true)) g2.s (t_is (e_all (bs := List.replicate x.ls.length true) rfl B.all ?_) (by congr 1; exact List.all_eq_true.mpr fun b hb => List.eq_of_mem_replicate hb)) fun v H3 Hc3 g3 q => rt v _ _ ((g1.trans g2).trans g3) q)
  · refine e_lc (own := [("node", 2)]) (g := gName 2) rfl scPart.nd (pi_list pe_w) (blkOk_by (N := nPart) (sc := defScope sPart) (by decide +kernel)) (fun _ _ _ _ _ => pg_name (i := 2) scPart.nd rfl (.inl rfl)) (fun _ _ _ _ _ => pts_nil)
      (c_lc (i_list (xs := x.ns.map V.str) (Cm.imp (e_fld (v := V.ref l1) F.cls F.n1 (e_var 0) (.at (e1 _ _ h1)) rfl) fun v H' e z => ⟨l1, z, SqL.of (e _ _ (e1 _ _ h2))⟩)) (by have := nt.len; simp; omega) (fun i acc _ => acc = (List.replicate i true).map V.bl) (fun _ => rfl) (fun i z acc H9 hi e9 py pacc => ?_) fun acc q H9 e9 pacc hq => ?_)
    · obtain ⟨z, hz, rfl⟩ := txt_get py.now
      have mz := s1 z (List.mem_of_getElem? hz)
      obtain ⟨j, hj⟩ := List.getElem?_of_mem mz
      obtain ⟨a1, ka⟩ : ∃ a1, bs[j]? = some a1 := ⟨_, List.getElem?_eq_getElem (by rw [← k5.len]; exact (List.getElem?_eq_some_iff.mp hj).1)⟩
      refine ⟨_, true, bind_name, rfl, c_yes, fun _ => c_eb fun s H0 C cl fp => ?_, fun q => nomatch q⟩
      refine Cm.imp (e_din (op := some (.ref a1)) (hu_of hr) (e_var (v := V.str z) 2) (e_fld (v := V.ref m3) F.cls F.n3 (e_var 1) (.at (e9 _ _ (e1 _ _ k1))) rfl) (by have q := pz_dK (key := .inr z) (Pz.at (e9 _ _ (e1 _ _ k5.dict))); rw [tbl_val k5.len nt'.nd hj ka] at q; exact q)) fun v H' _ q => ?_
      have ea : acc = (List.replicate i true).map V.bl := pacc.now
      rw [ea, q, List.replicate_succ', List.map_append] <;> rfl
    · have ea : acc = (List.replicate _ true).map V.bl := pacc.now
      rw [List.length_map] at ea
      subst ea
      exact fun H' e' => ⟨q, rfl, SqL.of (e' _ _ hq)⟩
  · refine e_lc (own := [("link", 3)]) (g := gName 3) rfl scPart.nd (pi_list pe_w) (blkOk_by (N := nPart) (sc := defScope sPart) (by decide +kernel)) (fun _ _ _ _ _ => pg_name (i := 3) scPart.nd rfl (.inl rfl)) (fun _ _ _ _ _ => pts_nil)
      (c_lc (i_list (xs := ts.map V.ref) (Cm.imp (e_fld (v := V.ref l2) F.cls F.n2 (e_var 0) (.at (g2.k _ _ (e1 _ _ h1))) rfl) fun v H' e z => ⟨l2, z, SqL.of (e _ _ (g2.k _ _ (e1 _ _ h3)))⟩)) (by have := nt.ll; simp; omega) (fun i acc _ => acc = (List.replicate i true).map V.bl) (fun _ => rfl) (fun i z acc H9 hi e9 py pacc => ?_) fun acc q H9 e9 pacc hq => ?_)
    · obtain ⟨t, p, rfl, ht, hp, hH⟩ := ts_get h4 py.now
      have mp := s2 p (List.mem_of_getElem? hp)
      have eH : Ex H H9 := (e1.trans g2.k).trans e9
      refine ⟨_, true, bind_name, rfl, c_yes, fun _ => c_eb fun s H0 C cl fp => ?_, fun q => nomatch q⟩
      refine Cm.imp (e_cmpD (P := is (V.bl true)) (op_inD hu) (by rfl) (e_var (v := V.ref t) 3) (e_fld (v := V.ref m2) F.cls F.n2 (e_var 1) (.at (eH _ _ k1)) rfl) (Cm.ret (fun Hc ex Q q => ⟨dPr p, y.ls.map dPr, .tup (SqT.of (ex _ _ (eH _ _ hH))) (.cons (.str _) (.cons (.str _) .nil)), .lst (SqL.of (ex _ _ (eH _ _ k3))) (dp_prs (paired_ex (eH.trans ex) k4)), ?_, sh_prs nt'.nml, ?_⟩) (.const rfl))) fun v H' _ q => ?_
      · exact sh_pr (nt'.nml p mp).1 (nt'.nml p mp).2
      · rw [any_pr, decide_eq_true mp]; exact q
      · have ea : acc = (List.replicate i true).map V.bl := pacc.now
        rw [ea, q, List.replicate_succ', List.map_append] <;> rfl
    · have ea : acc = (List.replicate _ true).map V.bl := pacc.now
      rw [List.length_map, l4] at ea
      subst ea
      exact fun H' e' => ⟨q, rfl, SqL.of (e' _ _ hq)⟩
end
end K19
set_option Elab.async false
set_option linter.all false
set_option maxRecDepth 100000
set_option maxHeartbeats 2000000
namespace K19
open PySem L2 LW
section
variable {P : Program} {w : World} {K : PySem.W.Frag} {mg : Str → Option Value} {base : Heap} {f fi C : Addr} {fd : FuncData}
def without (ls : List (Str × Str)) (g : Str × Str) : List (Str × Str) := ls.filter fun p => !decide (p = g)
def RSub (C : Addr) : NetV × (Str × Str) → V → Hp → Prop := fun x v H => ∃ a, v = .ref a ∧ NetAt C a x.1.ns (without x.1.ls (lk x.2)) H ∧ Nt x.1.ns (without x.1.ls (lk x.2))
abbrev nSub : List Str := ["self", "other", "gone", "link"]
theorem scSub : FnScope nSub ["self", "other"] (defScope sSub) := ⟨rfl, rfl, rfl, by decide +kernel, rfl, by decide +kernel, by decide +kernel⟩
theorem b_sub (B : Blt K mg) (F : NetF K mg C) (M : MkN P w K mg base C fi) (FL : Fn P w K mg base "need_link" 4 (ACont C K) RNon) (FO : Fn P w K mg base "link_of" 2 ALkO RLkO) : Body P w K mg base nSub "Net.__sub__" sSub f 6 (ACont C K) (RSub C) := by
  intro cdv Ar outer s H0 E x vs H Hc D hr ex pa rt nx
  obtain ⟨x, p⟩ := x
  obtain ⟨t, rfl, hT, hX, hl, hm⟩ := pa.now
  have hT : SqT K H t [.str p.1, .str p.2] := hT
  have hX : x.At C H := hX
  have hl : Lk p := hl
  have hm : lk p ∈ x.ls := hm
  obtain ⟨⟨dx, l1, l2, l3, ts, as, h1, h2, h3, h4, h5⟩, nt⟩ := id hX
  have hq := Pz.sqt hT
  have l4 := h4.length
  have hu : (fx P w K mg base nSub "Net.__sub__" sSub f cdv Ar outer s H0 E).A.units + 64 < cLine := hr.units
  refine b_expr ex (e_callD (x, p) FL (hr.mono (by decide)) (a_consD (e_var 0) (a_consD (e_var 1) a_nil)) (fun H' e => ⟨t, rfl, hq H' e, ⟨hX.1.ex e, nt⟩, hl, hm⟩)) fun _ H1 Hc1 g1 _ => ?_
  have q1 := hq.mono g1.k
  refine b_set 2 g1.s (e_callD p FO (hr.mono (by decide)) (a_consD (e_itemT (j := 0) (e_var 1) e_int q1 rfl) (a_consD (e_itemT (j := 1) (e_var 1) e_int q1 rfl) a_nil)) (.const ⟨rfl, hl⟩)) (fun v H2 Hc2 g2 p2 => ?_) scSub.nd (hx := .inr rfl)
  obtain ⟨b, rfl, hb⟩ := p2.now
  have hb : H2 b = some (.tup [.str (lk p).1, .str (lk p).2]) := hb
  have e12 := g1.k.trans g2.k
  have sub : ∀ z ∈ without x.ls (lk p), z ∈ x.ls := fun z hz => (List.mem_filter.mp hz).1
  have nt2 : Nt x.ns (without x.ls (lk p)) := ⟨nt.len, nt.ne, nt.nd, nt.nm, nt.sn, Nat.le_trans (List.length_filter_le _ _) nt.ll, nt.nl.sublist List.filter_sublist, fun z hz => nt.lk z (sub z hz), nt.sp.sublist List.filter_sublist⟩
  have ids : (without x.ls (lk p)).map lk = without x.ls (lk p) := (List.map_congr_left fun q hq => lk_lk (nt2.lk q hq).2.2).trans (List.map_id _)
  have gn : Nm (lk p).1 ∧ Nm (lk p).2 := nt.nml _ hm
  refine b_ret g2.s (e_make (P := RSub C (x, p)) M.cl F.mgN M.init hr (a_cons (P := is (V.ref l1)) (e_fld (v := V.ref l1) F.cls F.n1 (e_var 0) (.at (e12 _ _ h1)) rfl) (a_cons (P := RPs (without x.ls (lk p))) (e_lc (own := [("link", 3)]) (g := gName 3) rfl scSub.nd (pi_list pe_w) (blkOk_by (N := nSub) (sc := defScope sSub) (by decide +kernel)) (fun _ _ _ _ _ => pg_name (i := 3) scSub.nd rfl (.inl rfl)) (fun s H C cl fp => pts_one (pt_b s H C cl fp))
    (c_lc (i_list (xs := ts.map V.ref) (Cm.imp (e_fld (v := V.ref l2) F.cls F.n2 (e_var 0) (.at (e12 _ _ h1)) rfl) fun v H' e z => ⟨l2, z, SqL.of (e _ _ (e12 _ _ h3))⟩)) (by have := nt.ll; simp; omega) (fun i acc H' => ∃ us, acc = us.map V.ref ∧ TsAt H' us (without (x.ls.take i) (lk p))) (fun _ => ⟨[], rfl, .nil⟩) (fun i z acc H9 hi e9 py pacc => ?_) fun acc q H9 e9 pacc hq => ?_)) a_nil)) fun vs H3 e3 z => ?_) fun v H4 Hc4 g4 q => rt v _ _ ((g1.trans g2).trans g4) q
  · obtain ⟨d, r, rfl, hd, hr2, hH⟩ := ts_get h4 py.now
    have mr := List.mem_of_getElem? hr2
    have eH : Ex H H9 := e12.trans e9
    refine ⟨_, !decide (r = lk p), bind_name, rfl, c_tb fun s H0 C cl fp => t_cmpD (op_neD hu) (by rfl) (e_var (v := V.ref d) 3) (e_var (v := V.ref b) 2) (Cm.ret (fun Hc ex Q q => ⟨dPr r, dPr (lk p), .tup (SqT.of (ex _ _ (eH _ _ hH))) (.cons (.str _) (.cons (.str _) .nil)), .tup (SqT.of (ex _ _ (e9 _ _ hb))) (.cons (.str _) (.cons (.str _) .nil)), sh_pr (nt.nml r mr).1 (nt.nml r mr).2, sh_pr gn.1 gn.2, by rw [eqv_pr]; exact q⟩) (.const rfl)), fun k => c_eb fun s H0 C cl fp => ?_, fun k => ?_⟩
    · refine Cm.imp (e_var (v := V.ref d) 3) fun v H' e z => ?_
      obtain ⟨us, rfl, hu⟩ := pacc H' e
      refine ⟨us ++ [d], by rw [show v = V.ref d from z, List.map_append] <;> rfl, ?_⟩
      unfold without
      rw [take_snoc hr2, List.filter_append, List.filter_cons_of_pos (by exact k), List.filter_nil]
      exact ts_snoc (e _ _ (eH _ _ hH)) hu
    · intro H' e
      obtain ⟨us, rfl, hu⟩ := pacc H' e
      refine ⟨us, rfl, ?_⟩
      unfold without
      rw [take_snoc hr2, List.filter_append, List.filter_cons_of_neg (by rw [k]; exact Bool.false_ne_true), List.filter_nil, List.append_nil]
      exact hu
  · obtain ⟨us, rfl, hu⟩ := pacc.now
    rw [List.length_map, l4, List.take_length] at hu
    exact fun H' e' => ⟨q, us, rfl, e' _ _ hq, paired_ex e' hu⟩
  · obtain ⟨u, us, rfl, rfl, u2, us2, rfl, ⟨c, ds, rfl, hc, hd⟩, rfl⟩ := z.now
    have e13 := e12.trans e3
    refine ⟨⟨true, x.ns, true, without x.ls (lk p)⟩, fun H' e' => ⟨l1, c, ds, rfl, SqL.of (e' _ _ (e13 _ _ h2)), SqL.of (e' _ _ hc), paired_ex e' hd, ⟨⟨nt.len, nt.ne, nt.nd, nt.nm⟩, ⟨nt2.ll, fun q hq => ⟨(nt2.nml q hq).1, (nt2.nml q hq).2, fun e => Lt.irr _ (e ▸ (nt2.lk q hq).2.2)⟩, by rw [ids]; exact nt2.nl, fun q hq => ⟨(nt2.lk q hq).1, (nt2.lk q hq).2.1⟩⟩⟩⟩, fun v H' _ y => ?_⟩
    obtain ⟨a, ns, ls, rfl, hA, hn, hl2, nt3⟩ := y
    have hn : ns.Perm x.ns := hn
    have hl2 : ls.Perm ((without x.ls (lk p)).map lk) := hl2
    rw [ids] at hl2
    obtain rfl : ns = x.ns := sortN_uniq nt3.sn nt.sn hn
    obtain rfl : ls = without x.ls (lk p) := sortP_uniq nt3.sp nt2.sp hl2
    exact ⟨a, rfl, hA, nt2⟩
end
end K19
set_option Elab.async false
set_option linter.all false
set_option maxRecDepth 100000
set_option maxHeartbeats 2000000
namespace K19
open PySem L2 LW
def frow (xs : List Str) (i : Nat) : List (Str × Str) := (List.range i).map fun j => (xs.getD i Str.empty, xs.getD j Str.empty)
def fullP (xs : List Str) : List (Str × Str) := (List.range xs.length).flatMap (frow xs)
theorem at_getD {xs : List Str} {i : Nat} (h : i < xs.length) : xs[i]? = some (xs.getD i Str.empty) := by
  rw [List.getD_eq_getElem?_getD, List.getElem?_eq_getElem h] <;> rfl
theorem frow_mem {xs : List Str} {i : Nat} {p : Str × Str} (hi : i < xs.length) (h : p ∈ frow xs i) : ∃ j, j < i ∧ xs[i]? = some p.1 ∧ xs[j]? = some p.2 := by
  obtain ⟨j, hj, rfl⟩ := List.mem_map.mp h
  have hj := List.mem_range.mp hj
  exact ⟨j, hj, at_getD hi, at_getD (by omega)⟩
theorem full_lks {xs : List Str} (N : Nds xs) : (∀ p ∈ fullP xs, Lk p ∧ p.1 ∈ xs ∧ p.2 ∈ xs) ∧ ((fullP xs).map lk).Nodup := by
  refine ⟨fun p hp => ?_, ?_⟩
  · obtain ⟨i, hi, h⟩ := List.mem_flatMap.mp hp
    obtain ⟨j, hj, a, b⟩ := frow_mem (List.mem_range.mp hi) h
    have ma := List.mem_of_getElem? a
    have mb := List.mem_of_getElem? b
    exact ⟨⟨N.nm _ ma, N.nm _ mb, fun z => by rw [z] at a; have := nd_at N.nd a b; omega⟩, ma, mb⟩
  · refine List.pairwise_map.mpr (List.pairwise_flatMap.mpr ⟨fun i hi => ?_, ?_⟩)
    · have hi := List.mem_range.mp hi
      unfold frow
      refine List.pairwise_map.mpr (List.Pairwise.imp_of_mem (fun {j k} hj hk hjk e => ?_) List.pairwise_lt_range)
      have hj := List.mem_range.mp hj
      have hk := List.mem_range.mp hk
      obtain ⟨_, _, a, b⟩ := frow_mem hi (List.mem_map.mpr ⟨j, List.mem_range.mpr hj, rfl⟩)
      obtain ⟨_, _, c, d⟩ := frow_mem hi (List.mem_map.mpr ⟨k, List.mem_range.mpr hk, rfl⟩)
      have b' : xs[j]? = some (xs.getD j Str.empty) := at_getD (by omega)
      have d' : xs[k]? = some (xs.getD k Str.empty) := at_getD (by omega)
      rcases lk_eq e with ⟨_, z⟩ | ⟨z, _⟩
      · have z : xs.getD j Str.empty = xs.getD k Str.empty := z
        rw [z] at b'; have := nd_at N.nd b' d'; omega
      · have z : xs.getD i Str.empty = xs.getD k Str.empty := z
        have a : xs[i]? = some (xs.getD i Str.empty) := a
        rw [z] at a; have := nd_at N.nd a d'; omega
    · refine List.Pairwise.imp_of_mem (fun {i k} hi hk hik p hp q hq e => ?_) List.pairwise_lt_range
      obtain ⟨j, hj, a, b⟩ := frow_mem (List.mem_range.mp hi) hp
      obtain ⟨l, hl, c, d⟩ := frow_mem (List.mem_range.mp hk) hq
      rcases lk_eq e with ⟨z, _⟩ | ⟨_, z⟩
      · rw [z] at a; have := nd_at N.nd a c; omega
      · rw [z] at b; have := nd_at N.nd b c; omega
theorem full_len {xs : List Str} (h : xs.length ≤ 8) : (fullP xs).length ≤ 60 := by
  unfold fullP
  rw [List.length_flatMap]
  have go : ∀ n, n ≤ 8 → ((List.range n).map fun i => (frow xs i).length).sum ≤ n * 7 := by
    intro n
    induction n with
    | zero => intro _; exact Nat.le_refl _
    | succ n ih =>
      intro hn
      rw [List.range_succ, List.map_append, List.sum_append]
      have := ih (by omega)
      have l : (frow xs n).length = n := by unfold frow; rw [List.length_map, List.length_range]
      simp only [List.map_cons, List.map_nil, List.sum_cons, List.sum_nil, l]
      omega
  have := go xs.length h
  omega
section
variable {P : Program} {w : World} {K : PySem.W.Frag} {mg : Str → Option Value} {base : Heap} {f fi C : Addr} {fd : FuncData}
def AFull (C : Addr) (K : PySem.W.Frag) : List Str → List V → Hp → Prop := fun xs vs H => ∃ t, vs = [.ref C, .ref t] ∧ SqT K H t (xs.map V.str) ∧ Nds xs ∧ xs.length ≤ 8
def RFull (C : Addr) : List Str → V → Hp → Prop := fun xs => RMade C xs (fullP xs)
abbrev nFull : List Str := ["cls", "nodes", "at", "by"]
theorem scFull : FnScope nFull ["cls", "nodes"] (defScope sFull) := ⟨rfl, rfl, rfl, by decide +kernel, rfl, by decide +kernel, by decide +kernel⟩
theorem b_full (B : Blt K mg) (F : NetF K mg C) (M : MkN P w K mg base C fi) (F1 : Fn P w K mg base "check_nodes" 2 (ANds K) RNon) : Body P w K mg base nFull "Net.full" sFull f 6 (AFull C K) (RFull C) := by
  intro cdv Ar outer s H0 E xs vs H Hc D hr ex pa rt nx
  obtain ⟨t, rfl, h1, N, h8⟩ := pa.now
  have hq := Pz.sqt h1
  obtain ⟨mc, u, v, r, c1, c2⟩ := F.mc
  have l0 : (xs.map V.str).length = xs.length := List.length_map _
  refine b_expr ex (e_callD (false, xs) F1 (hr.mono (by decide)) (a_consD (e_var 1) a_nil) (fun H' e => ⟨t, rfl, hq H' e, N⟩)) fun _ H1 Hc1 g1 _ => ?_
  have hq1 := hq.mono g1.k
  refine b_ifF g1.s (t_is (t_cmpD op_gt (by rfl) (e_len (xs := xs.map V.str) B.len (e_var (v := V.ref t) 1) (hq1.imp fun _ _ z => .inr z)) (e_cval r c1 (e_var 0)) (r_I0 (g := fun i j => V.bl (decide (j < i))) (i := ((xs.map V.str).length : Int)) (j := 60))) (decide_eq_false (by rw [l0]; omega))) fun H2 Hc2 g2 => b_nil ?_
  have hq2 := hq1.mono g2.k
  refine b_ret g2.s (e_makeL (P := RFull C xs) 0 M.cl M.init hr rfl (a_cons (P := is (V.ref t)) (e_var 1) (a_cons (P := RPs (fullP xs)) (ce (pe_lc2 (own := [("at", 2), ("by", 3)]) (vs1 := [3]) (g := gName 2) (g1 := gName 3) rfl scFull.nd (pi_range1 rfl B.range pa_w) (blkOk_by (N := nFull) (sc := defScope sFull) (by decide +kernel)) (by decide) (fun _ _ _ _ _ => pg_name (i := 2) scFull.nd rfl (.inl rfl)) (fun _ _ _ _ _ => pts_nil)
    (fun s H C cl fp => pi_range1 rfl B.range (pa_b s H C cl fp)) (fun _ _ _ _ _ => pg_name (i := 3) scFull.nd rfl (.inl rfl)) (fun _ _ _ _ _ => pts_nil) (fun s H C cl fp => pe_b s H C cl fp)) ?_) a_nil)) fun vs H2 e2 p2 => ?_) fun v Hn H3 g3 p3 => rt v _ _ ((g1.trans g2).trans g3) p3
  · refine c_lc2 (n := xs.length) (Y := fun i x _ => x = .int (0 + (i : Int))) (i_rng1 (n := (xs.length : Int)) (a_consD (t_is (e_len (xs := xs.map V.str) B.len (e_var (v := V.ref t) 1) (hq2.imp fun _ _ z => .inr z)) (by rw [l0])) a_nil) (by omega) (by omega)) (by omega) (fun i => i) (fun i hi => by omega) (fun i j acc H' => ∃ us, acc = us.map V.ref ∧ TsAt H' us ((List.range i).flatMap (frow xs) ++ (frow xs i).take j)) (fun _ => ⟨[], rfl, .nil⟩) (fun i x H9 hi e9 px => ?_) (fun i acc H9 ⟨us, z1, z2⟩ => ⟨us, z1, ?_⟩) fun acc p H9 e9 pacc hp => ?_
    · obtain rfl : x = V.int (0 + (i : Int)) := px.now
      refine ⟨_, _, bind_name, rfl, i_rngB (n := i) (c_ab fun s H0 C cl fp => a_consD (t_is (e_var (v := V.int (0 + (i : Int))) 2) (by rw [Int.zero_add])) a_nil) (by omega), fun j y acc H3 hj e3 py pacc => ?_⟩
      obtain rfl : y = V.int (j : Int) := py.now
      have q3 := hq2.mono (e9.trans e3)
      have fr : (frow xs i)[j]? = some (xs.getD i Str.empty, xs.getD j Str.empty) := by
        unfold frow
        rw [List.getElem?_map, List.getElem?_range hj] <;> rfl
      refine ⟨_, bind_name, rfl, c_eb fun s H0 C cl fp => Cm.imp (e_tup (P := pr (xs.getD i Str.empty, xs.getD j Str.empty)) (a_consD (v := V.str (xs.getD i Str.empty)) (e_itemT (j := i) (e_var 1) (t_is (e_var (v := V.int (0 + (i : Int))) 2) (by rw [Int.zero_add])) q3 (by rw [List.getElem?_map, at_getD hi] <;> rfl)) (a_consD (v := V.str (xs.getD j Str.empty)) (e_itemT (j := j) (e_var 1) (e_var 3) q3 (by rw [List.getElem?_map, at_getD (by omega)] <;> rfl)) a_nil))
        (fun xs _ z => by rw [show xs = _ from z]; exact (by decide : 2 ≤ 100000)) fun ys p H4 e4 z hp => ?_) fun v H' e z => ?_⟩
      · rw [show ys = _ from z.now] at hp
        exact fun H' e' => ⟨p, rfl, e' _ _ hp⟩
      · obtain ⟨d, rfl, hd⟩ := z
        obtain ⟨us, rfl, hu⟩ := pacc H' e
        refine ⟨us ++ [d], by simp, ?_⟩
        rw [take_snoc fr, ← List.append_assoc]
        exact ts_snoc hd hu
    · rw [List.range_succ, List.flatMap_append]
      have l : (frow xs i).length = i := by unfold frow; rw [List.length_map, List.length_range]
      have t1 : (frow xs i).take i = frow xs i := List.take_of_length_le (by omega)
      rw [t1] at z2
      simpa using z2
    · obtain ⟨us, rfl, hu⟩ := pacc.now
      rw [List.take_zero, List.append_nil] at hu
      exact fun H' e' => ⟨p, us, rfl, e' _ _ hp, paired_ex e' hu⟩
  obtain ⟨u, us, rfl, rfl, u2, us2, rfl, ⟨b, ts, rfl, hb, ht⟩, rfl⟩ := p2.now
  obtain ⟨k1, k2⟩ := full_lks N
  exact ⟨⟨false, xs, true, fullP xs⟩, fun H' e' => ⟨t, b, ts, rfl, hq H' (((g1.k.trans g2.k).trans e2).trans e'), SqL.of (e' _ _ hb), paired_ex e' ht, ⟨N, ⟨full_len h8, fun p hp => (k1 p hp).1, k2, fun p hp => (k1 p hp).2⟩⟩⟩, fun _ _ _ z => z⟩
end
end K19
set_option Elab.async false
set_option linter.all false
set_option maxRecDepth 100000
set_option maxHeartbeats 2000000
namespace K19
open PySem L2 LW
abbrev sDrawn : Stmt := inClass sNet 15
theorem same_lk' {ls : List (Str × Str)} (h : ∀ p ∈ ls, Lt p.1 p.2) : ls.map lk = ls := (List.map_congr_left fun q hq => lk_lk (h q hq)).trans (List.map_id ls)
/-- the name that stands for z -/
def fr (kept gone z : Str) : Str := if z = gone then kept else z
section
variable {P : Program} {w : World} {K : PySem.W.Frag} {mg : Str → Option Value} {base : Heap} {f fi C : Addr} {fd : FuncData}
def RDrawn (C : Addr) : NetV × (Str × Str) → V → Hp → Prop := fun x v H => ∃ a ns ls, v = .ref a ∧ NetAt C a ns ls H ∧ ns.Perm (x.1.ns.filter fun z => !decide (z = (lk x.2).2)) ∧
  (∀ q, q ∈ ls ↔ ∃ p ∈ x.1.ls, fr (lk x.2).1 (lk x.2).2 p.1 ≠ fr (lk x.2).1 (lk x.2).2 p.2 ∧ q = lnk (fr (lk x.2).1 (lk x.2).2 p.1) (fr (lk x.2).1 (lk x.2).2 p.2)) ∧ Nt ns ls
abbrev nDrawn : List Str := ["self", "link", "kept", "gone", "fresh", "links", "one", "other", "node"]
theorem scDrawn : FnScope nDrawn ["self", "link"] (defScope sDrawn) := ⟨rfl, rfl, rfl, by decide +kernel, rfl, by decide +kernel, by decide +kernel⟩
theorem b_drawn (B : Blt K mg) (F : NetF K mg C) (M : MkN P w K mg base C fi) (FL : Fn P w K mg base "need_link" 4 (ACont C K) RNon) (FO : Fn P w K mg base "link_of" 2 ALkO RLkO) : Body P w K mg base nDrawn "Net.drawn_together" sDrawn f 6 (ACont C K) (RDrawn C) := by
  intro cdv Ar outer s H0 E x vs H Hc D hr ex pa rt nx
  obtain ⟨x, p⟩ := x
  obtain ⟨t, rfl, hT, hX, hl, hm⟩ := pa.now
  have hT : SqT K H t [.str p.1, .str p.2] := hT
  have hX : x.At C H := hX
  have hl : Lk p := hl
  have hm : lk p ∈ x.ls := hm
  obtain ⟨⟨dx, l1, l2, l3, ts, as, h1, h2, h3, h4, h5⟩, nt⟩ := id hX
  have hq := Pz.sqt hT
  have l4 := h4.length
  have gn : Nm (lk p).1 ∧ Nm (lk p).2 := nt.nml _ hm
  obtain ⟨mk, mgn, ltk⟩ := nt.lk _ hm
  refine b_expr ex (e_callD (x, p) FL (hr.mono (by decide)) (a_consD (e_var 0) (a_consD (e_var 1) a_nil)) (fun H' e => ⟨t, rfl, hq H' e, ⟨hX.1.ex e, nt⟩, hl, hm⟩)) fun _ H1 Hc1 g1 _ => ?_
  have q1 := hq.mono g1.k
  refine b_asg (g := gTup K 2 (gCons (gName 2) (gCons (gName 3) gNil))) g1.s (e_callD p FO (hr.mono (by decide)) (a_consD (e_itemT (j := 0) (e_var 1) e_int q1 rfl) (a_consD (e_itemT (j := 1) (e_var 1) e_int q1 rfl) a_nil)) (.const ⟨rfl, hl⟩)) (pg_tup rfl (pgs_cons (pg_name (i := 2) scDrawn.nd rfl (.inr rfl)) (pgs_cons (pg_name (i := 3) scDrawn.nd rfl (.inr rfl)) pgs_nil))) fun v H2 Hc2 g2 p2 => ?_
  obtain ⟨b, rfl, hb⟩ := p2.now
  have hb : H2 b = some (.tup [.str (lk p).1, .str (lk p).2]) := hb
  refine bind_two (K := K) (.sqt (SqT.of hb)) Hc2 g2.s _ ?_
  generalize hk : (lk p).1 = kept at *
  generalize hg : (lk p).2 = gone at *
  have e12 := g1.k.trans g2.k
  refine b_setDc 4 (own := [("node", 8)]) (g := gName 8) (tt := tYes) (P := fun v H' => ∃ d kvs, v = .ref d ∧ H' d = some (.dK kvs) ∧ ∀ z ∈ x.ns, valV kvs (.inr z) = some (.str (fr kept gone z))) g2.s rfl scDrawn.nd rfl rfl rfl (pi_list pe_w) (blkOk_by (N := nDrawn) (sc := defScope sDrawn) (by decide +kernel)) (fun _ _ _ _ _ => pg_name (i := 8) scDrawn.nd rfl (.inl rfl)) (fun _ _ _ _ _ => pts_nil)
    (c_dc (i_list (xs := x.ns.map V.str) (Cm.imp (e_fld (v := V.ref l1) F.cls F.n1 (e_var 0) (.at (e12 _ _ h1)) rfl) fun v H' e z => ⟨l1, z, SqL.of (e _ _ (e12 _ _ h2))⟩)) (by have := nt.len; simp; omega) (fun i => .inr (x.ns.getD i Str.empty)) (fun i acc _ => acc.length ≤ i ∧ ∀ j, j < i → valV acc (.inr (x.ns.getD j Str.empty)) = some (.str (fr kept gone (x.ns.getD j Str.empty)))) (fun _ => ⟨Nat.le_refl _, fun j hj => by omega⟩) (fun i y acc H9 hi e9 py pacc => ?_) (fun i acc H9 e9 pacc => pacc.now.1) fun acc q H9 e9 pacc hq => ?_) (fun v H3 Hc3 g3 p3 => ?_)
  · have hi : i < x.ns.length := by simpa using hi
    obtain ⟨z, hz, rfl⟩ := txt_get py.now
    have ez : x.ns.getD i Str.empty = z := Option.some.inj ((at_getD hi).symm.trans hz)
    obtain ⟨a1, a2⟩ := pacc.now
    refine ⟨_, bind_name, rfl, c_yes, c_eb fun s H0 C cl fp => by rw [ez]; exact e_var 8, c_eb fun s H0 C cl fp => ?_⟩
    refine Cm.imp (e_if (P := is (V.str (fr kept gone z))) (k := decide (z = gone)) (t_is (t_cmpD op_eq (by rfl) (e_var (v := V.str z) 8) (e_var (v := V.str gone) 3) (r_eq (x := V.str z) (y := V.str gone) rfl)) (by by_cases h : z = gone <;> simp [h])) (fun k => ?_) fun k => ?_) fun v H' _ q => ?_
    · have e : fr kept gone z = kept := if_pos (of_decide_eq_true k)
      rw [e]; exact e_var (v := V.str kept) 2
    · have e : fr kept gone z = z := if_neg (of_decide_eq_false k)
      rw [e]; exact e_var (v := V.str z) 8
    · have q : v = V.str (fr kept gone z) := q
      refine ⟨Nat.le_trans (length_putK _ _ _) (by omega), fun j hj => ?_⟩
      rw [valV_put]
      by_cases e : j = i
      · subst e
        rw [if_pos rfl, ez, q]
      · by_cases e2 : x.ns.getD j Str.empty = x.ns.getD i Str.empty
        · rw [e2, if_pos rfl, ez, q]
        · rw [if_neg fun w => e2 (Sum.inr.inj w)]
          exact a2 j (by omega)
  · obtain ⟨a1, a2⟩ := pacc.now
    refine fun H' e => ⟨q, acc, rfl, e _ _ hq, fun z hz => ?_⟩
    obtain ⟨j, hj⟩ := List.getElem?_of_mem hz
    have lj := (List.getElem?_eq_some_iff.mp hj).1
    have ez : x.ns.getD j Str.empty = z := Option.some.inj ((at_getD lj).symm.trans hj)
    have := a2 j (by rw [List.length_map]; exact lj)
    rw [ez] at this
    exact this
  obtain ⟨d, kvs, rfl, hd, hkv⟩ := p3.now
  refine b_dnewT 5 g3.s (fun m hm' => ?_) scDrawn.nd
  have hmH : H3 m = none := Evl.fresh_back g3.s hm'
  have e13 := e12.trans g3.k
  refine b_for (H := H3) (g := gTup K 2 (gCons (gName 6) (gCons (gName 7) gNil))) (g3.s.trans (Evl.Ex.new hm')) PassesOwn.never rfl (pi_list pe_w) (i_list (xs := ts.map V.ref) (Cm.imp (e_fld (v := V.ref l2) F.cls F.n2 (e_var 0) (.at (e13 _ _ h1)) rfl) fun v H' e z => ⟨l2, z, SqL.of (e _ _ (e13 _ _ h3))⟩))
    (pg_tup rfl (pgs_cons (pg_name (i := 6) scDrawn.nd rfl (.inl rfl)) (pgs_cons (pg_name (i := 7) scDrawn.nd rfl (.inl rfl)) pgs_nil))) fun H4 Hc4 g4 => ?_
  have gg := (still (g3.s.trans (Evl.Ex.new hm')) (Evl.Ex.new hm')).trans g4
  have tk : ∀ z ∈ x.ns, fr kept gone z ∈ x.ns.filter fun z => !decide (z = gone) := fun z hz => by
    refine List.mem_filter.mpr ?_
    by_cases e : z = gone
    · rw [show fr kept gone z = kept from if_pos e]
      exact ⟨mk, by simpa using fun q : kept = gone => Lt.irr _ (q ▸ ltk)⟩
    · rw [show fr kept gone z = z from if_neg e]
      exact ⟨hz, by simpa using e⟩
  refine ⟨fun i σ1 H5 Hc5 => ∃ (u1 u2 : Option V) (kv : List (List Key × V)) (qs : List (Str × Str)), σ1 = [some (.ref x.a), some (.ref t), some (.str kept), some (.str gone), some (.ref d), some (.ref m), u1, u2, none] ∧ H5 m = none ∧ Hc5 m = some (.dT kv) ∧ kv.map (·.1) = qs.map kLk ∧ qs.Nodup ∧ qs.length ≤ i ∧
    (∀ q, q ∈ qs ↔ ∃ p ∈ x.ls.take i, fr kept gone p.1 ≠ fr kept gone p.2 ∧ q = lnk (fr kept gone p.1) (fr kept gone p.2)) ∧ Grow H3 Hc3 H5 Hc5, ⟨none, none, [], [], rfl, g4.un upd_same hmH, g4.c _ _ upd_same, rfl, List.nodup_nil, Nat.le_refl _, fun q => by simp, gg⟩, ?_, ?_⟩
  · rintro i σ1 H5 Hc5 hi e5 e5' ⟨u1, u2, kv, qs, rfl, hm5, hc5, hkeys, hnd, hlen, hmem, g5⟩ y H6 Hc6 g6 py
    rw [List.length_map, l4] at hi
    obtain ⟨t2, p2, rfl, ht2, hp2, hH⟩ := ts_get h4 py.now
    have eH : Ex H H6 := (e13.trans g5.k).trans g6.k
    have mp := List.mem_of_getElem? hp2
    obtain ⟨n1, n2, n3⟩ := nt.lk p2 mp
    refine bind_two (K := K) (.sqt (SqT.of (eH _ _ hH))) Hc6 g6.s _ ?_
    have hc6 := g6.c _ _ hc5
    have n6 := g6.un hc5 hm5
    have ll := nt.ll
    have e36 : Ex H3 H6 := g5.k.trans g6.k
    have get : ∀ {z : Str} {H'}, z ∈ x.ns → Ex H6 H' → Pz H' (fun H'' => DGet H'' d (kV (.inr z)) (some (.str (fr kept gone z)))) := fun {z H'} hz e => by
      have q := pz_dK (key := .inr z) (Pz.at (e _ _ (e36 _ _ hd)))
      rw [hkv z hz] at q
      exact q
    have done : ∀ (H7 Hc7 : Hp) (kv' : List (List Key × V)) (qs' : List (Str × Str)), Grow H3 Hc3 H7 Hc7 → Ex H4 H7 → H7 m = none → Hc7 m = some (.dT kv') → kv'.map (·.1) = qs'.map kLk → qs'.Nodup → qs'.length ≤ i + 1 → (∀ q, q ∈ qs' ↔ q ∈ qs ∨ (fr kept gone p2.1 ≠ fr kept gone p2.2 ∧ q = lnk (fr kept gone p2.1) (fr kept gone p2.2))) →
        ∃ H8, Ex H4 H8 ∧ Ex H8 Hc7 ∧ ∃ (u1 u2 : Option V) (kv : List (List Key × V)) (qs : List (Str × Str)), [some (.ref x.a), some (.ref t), some (.str kept), some (.str gone), some (.ref d), some (.ref m), some (.str p2.1), some (.str p2.2), none] = [some (.ref x.a), some (.ref t), some (.str kept), some (.str gone), some (.ref d), some (.ref m), u1, u2, none] ∧ H8 m = none ∧ Hc7 m = some (.dT kv) ∧ kv.map (·.1) = qs.map kLk ∧ qs.Nodup ∧ qs.length ≤ i + 1 ∧
          (∀ q, q ∈ qs ↔ ∃ p ∈ x.ls.take (i + 1), fr kept gone p.1 ≠ fr kept gone p.2 ∧ q = lnk (fr kept gone p.1) (fr kept gone p.2)) ∧ Grow H3 Hc3 H8 Hc7 := fun H7 Hc7 kv' qs' z1 z2 z3 z4 z5 z6 z7 z8 => ⟨H7, z2, z1.s, _, _, kv', qs', rfl, z3, z4, z5, z6, z7, fun q => by
      rw [z8, hmem, take_snoc hp2]
      constructor
      · rintro (⟨r, hr, e⟩ | e)
        · exact ⟨r, List.mem_append_left _ hr, e⟩
        · exact ⟨p2, List.mem_append_right _ (List.mem_singleton_self _), e⟩
      · rintro ⟨r, hr, e⟩
        rcases List.mem_append.mp hr with w | w
        · exact .inl ⟨r, w, e⟩
        · rw [List.mem_singleton.mp w] at e
          exact .inr e, z1⟩
    refine b_if g6.s (t_cmpD op_ne (by rfl) (e_dget (hu_of hr) (e_var 4) (e_var 6) (get n1 (Evl.Ex.refl _))) (e_dget (hu_of hr) (e_var 4) (e_var 7) (get n2 (Evl.Ex.refl _))) (r_ne (x := V.str (fr kept gone p2.1)) (y := V.str (fr kept gone p2.2)) rfl)) (fun k H7 Hc7 g7 => ?_) fun k H7 Hc7 g7 => b_nil (b_nil ?_)
    · have ne : fr kept gone p2.1 ≠ fr kept gone p2.2 := fun e => by rw [e] at k; simp at k
      have hc7 := g7.c _ _ hc6
      have n7 := g7.un hc6 n6
      have lkv : kv.length ≤ 60 := by
        have z := congrArg List.length hkeys
        rw [List.length_map, List.length_map] at z
        omega
      refine b_dputN (key := kLk (lnk (fr kept gone p2.1) (fr kept gone p2.2))) (l := m) (kvs := kv) (P := is (V.bl true)) g7.s (hu_of hr) e_bl (e_var 5) (Cm.imp (e_callD (fr kept gone p2.1, fr kept gone p2.2) FO (hr.mono (by decide)) (a_consD (e_dget (hu_of hr) (e_var 4) (e_var 6) (get n1 g7.k)) (a_consD (e_dget (hu_of hr) (e_var 4) (e_var 7) (get n2 g7.k)) a_nil))
        (.const ⟨rfl, nt.nm _ (List.mem_filter.mp (tk _ n1)).1, nt.nm _ (List.mem_filter.mp (tk _ n2)).1, ne⟩)) fun v H' _ z => z) hc7 (by omega) fun v H8 Hc8 g8 _ => b_nil (b_nil ?_)
      have n8 := g8.un hc7 n7
      have g38 := (((g5.trans g6).trans g7).trans g8)
      have e48 : Ex H4 H8 := ((e5.trans g6.k).trans g7.k).trans g8.k
      by_cases old : lnk (fr kept gone p2.1) (fr kept gone p2.2) ∈ qs
      · refine done H8 _ _ qs (g38.mut hm' n8) e48 n8 upd_same (by rw [keys_old v (by rw [hkeys]; exact List.mem_map.mpr ⟨_, old, rfl⟩)]; exact hkeys) hnd (by omega) fun q => ⟨.inl, fun z => z.elim id fun e => e.2 ▸ old⟩
      · refine done H8 _ _ (qs ++ [lnk (fr kept gone p2.1) (fr kept gone p2.2)]) (g38.mut hm' n8) e48 n8 upd_same ?_ ?_ ?_ fun q => ?_
        · rw [keys_new v (by
            rw [hkeys]
            intro w
            obtain ⟨r, hr, e⟩ := List.mem_map.mp w
            exact old (kLk_inj e ▸ hr)), hkeys, List.map_append] <;> rfl
        · exact List.nodup_append.mpr ⟨hnd, List.nodup_cons.mpr ⟨List.not_mem_nil, List.nodup_nil⟩, fun a ha b hb e => old (by rw [List.mem_singleton.mp hb] at e; exact e ▸ ha)⟩
        · rw [List.length_append, List.length_singleton]; omega
        · rw [List.mem_append, List.mem_singleton]
          exact ⟨fun z => z.imp id fun e => ⟨ne, e⟩, fun z => z.imp id fun e => e.2⟩
    · have eq : fr kept gone p2.1 = fr kept gone p2.2 := by simpa using k
      exact done H7 Hc7 kv qs ((g5.trans g6).trans g7) ((e5.trans g6.k).trans g7.k) (g7.un hc6 n6) (g7.c _ _ hc6) hkeys hnd (by omega) fun q => ⟨.inl, fun z => z.elim id fun e => (e.1 eq).elim⟩
  · rintro σ1 H5 Hc5 e5 e5' ⟨u1, u2, kv, qs, rfl, hm5, hc5, hkeys, hnd, hlen, hmem, g5⟩
    rw [List.length_map, l4] at hlen
    rw [List.length_map, l4, List.take_length] at hmem
    have ll := nt.ll
    have lq : qs.length ≤ 60 := by omega
    have fine : ∀ q ∈ qs, Lt q.1 q.2 ∧ (q.1 ∈ x.ns.filter fun z => !decide (z = gone)) ∧ q.2 ∈ x.ns.filter fun z => !decide (z = gone) := fun q hq => by
      obtain ⟨r, hr, ne, rfl⟩ := (hmem q).mp hq
      obtain ⟨n1, n2, _⟩ := nt.lk r hr
      have a := tk _ n1
      have b := tk _ n2
      refine ⟨lk_lt (p := (fr kept gone r.1, fr kept gone r.2)) ⟨nt.nm _ (List.mem_filter.mp a).1, nt.nm _ (List.mem_filter.mp b).1, ne⟩, ?_, ?_⟩ <;> rcases lnk_cases (fr kept gone r.1) (fr kept gone r.2) with e | e <;> rw [e] <;> assumption
    have ids : qs.map lk = qs := same_lk' fun q hq => (fine q hq).1
    have own := e5'.own hc5
    have e35 : Ex H3 (upd H5 m (.dT kv)) := g5.k.trans (Ex.put hm5)
    have eH : Ex H (upd H5 m (.dT kv)) := e13.trans e35
    have nds : Nds (x.ns.filter fun z => !decide (z = gone)) := ⟨Nat.le_trans (List.length_filter_le _ _) nt.len, fun e => by have z := tk kept mk; rw [e] at z; exact absurd z List.not_mem_nil, nt.nd.sublist List.filter_sublist, fun z hz => nt.nm z (List.mem_filter.mp hz).1⟩
    refine b_ret (H := upd H5 m (.dT kv)) (P := RDrawn C (x, p)) own (e_make M.cl F.mgN M.init hr (a_cons (P := fun v H' => ∃ p, v = .ref p ∧ SqL K H' p ((x.ns.filter fun z => !decide (z = gone)).map V.str)) (e_lc (own := [("node", 8)]) (g := gName 8) rfl scDrawn.nd (pi_list pe_w) (blkOk_by (N := nDrawn) (sc := defScope sDrawn) (by decide +kernel)) (fun _ _ _ _ _ => pg_name (i := 8) scDrawn.nd rfl (.inl rfl)) (fun s H C cl fp => pts_one (pt_b s H C cl fp))
      (c_lc (i_list (xs := x.ns.map V.str) (Cm.imp (e_fld (v := V.ref l1) F.cls F.n1 (e_var 0) (.at (eH _ _ h1)) rfl) fun v H' e z => ⟨l1, z, SqL.of (e _ _ (eH _ _ h2))⟩)) (by have := nt.len; simp; omega) (fun i acc _ => acc = ((x.ns.take i).filter fun z => !decide (z = gone)).map V.str) (fun _ => rfl) (fun i y acc H9 hi e9 py pacc => ?_) fun acc q H9 e9 pacc hq => ?_))
      (a_cons (P := fun v H' => ∃ p bs, v = .ref p ∧ SqL K H' p (bs.map V.ref) ∧ TsAt H' bs qs) (e_ty (call_list_dT rfl) B.list (a_consD (e_var 5) a_nil) fun vs H6 e6 z => ?_) a_nil)) fun vs H6 e6 z => ?_) fun v H6 H7 g6 p6 => rt v _ _ ((((g1.trans g2).trans g3).trans (g5.know hm' hm5 hc5)).trans g6) p6
    · obtain ⟨z, hz, rfl⟩ := txt_get py.now
      have ea : acc = ((x.ns.take i).filter fun z => !decide (z = gone)).map V.str := pacc.now
      refine ⟨_, !decide (z = gone), bind_name, rfl, c_tb fun s H0 C cl fp => t_is (t_cmpD op_ne (by rfl) (e_var (v := V.str z) 8) (e_var (v := V.str gone) 3) (r_ne (x := V.str z) (y := V.str gone) rfl)) (by by_cases h : z = gone <;> simp [h]), fun k => c_eb fun s H0 C cl fp => ?_, fun k => ?_⟩
      · refine Cm.imp (e_var (v := V.str z) 8) fun v H' _ q => ?_
        rw [ea, show v = V.str z from q, take_snoc hz, List.filter_append, List.map_append, List.filter_cons_of_pos (by exact k), List.filter_nil] <;> rfl
      · refine .const ?_
        rw [ea, take_snoc hz, List.filter_append, List.filter_cons_of_neg (by rw [k]; exact Bool.false_ne_true), List.filter_nil, List.append_nil]
    · have ea : acc = ((x.ns.take (x.ns.map V.str).length).filter fun z => !decide (z = gone)).map V.str := pacc.now
      rw [List.length_map, List.take_length] at ea
      subst ea
      exact fun H' e' => ⟨q, rfl, SqL.of (e' _ _ hq)⟩
    · obtain rfl : vs = [V.ref m] := z.now
      refine fun Hc ex Q q => ⟨m, kv, rfl, .inl (ex _ _ (e6 _ _ upd_same)), fun p bs hp hb => ?_⟩
      obtain ⟨H9, g9, e9, z9⟩ := (Grow.new (o := .lst (bs.map V.ref)) ex hp).knowTs (Paired.mapP hb fun _ _ q => Evl.Ex.new hp _ _ q)
      exact q _ _ _ g9 fun H' e' => ⟨p, bs, rfl, SqL.of (e' _ _ (e9 _ _ upd_same)), paired_ex e' (ts_keys z9 hkeys)⟩
    · obtain ⟨u, us2, rfl, ⟨c, rfl, hc⟩, u2, us3, rfl, ⟨d2, bs, rfl, hd2, hb2⟩, rfl⟩ := z.now
      refine ⟨⟨true, x.ns.filter fun z => !decide (z = gone), true, qs⟩, fun H' e' => ⟨c, d2, bs, rfl, Evl.ex_l e' hc, Evl.ex_l e' hd2, paired_ex e' hb2, ⟨nds, ⟨lq, fun q hq => ⟨nds.nm _ (fine q hq).2.1, nds.nm _ (fine q hq).2.2, fun e => Lt.irr _ (e ▸ (fine q hq).1)⟩, by rw [ids]; exact hnd, fun q hq => (fine q hq).2⟩⟩⟩, fun v H' _ y => ?_⟩
      obtain ⟨a, ns, ls, rfl, hA, hn, hl2, nt3⟩ := y
      have hl2 : ls.Perm (qs.map lk) := hl2
      rw [ids] at hl2
      show ∃ (a : Addr) (ns : List Str) (ls : List (Str × Str)), _ ∧ _ ∧ ns.Perm (x.ns.filter fun z => !decide (z = (lk p).2)) ∧ (∀ q, q ∈ ls ↔ ∃ r ∈ x.ls, fr (lk p).1 (lk p).2 r.1 ≠ fr (lk p).1 (lk p).2 r.2 ∧ q = lnk (fr (lk p).1 (lk p).2 r.1) (fr (lk p).1 (lk p).2 r.2)) ∧ _
      rw [hk, hg]
      exact ⟨a, ns, ls, rfl, hA, hn, fun q => hl2.mem_iff.trans (hmem q), nt3⟩
end
end K19
set_option Elab.async false
set_option linter.all false
set_option maxRecDepth 100000
set_option maxHeartbeats 2000000
namespace K19
open PySem L2 LW
section
variable {P : Program} {w : World} {K : PySem.W.Frag} {mg : Str → Option Value} {base : Heap} {f : Addr} {fd : FuncData}
def APot (K : PySem.W.Frag) : List Int × Int → List V → Hp → Prop := fun x vs H => ∃ a, vs = [.ref a, .int x.2] ∧ SqL K H a (x.1.map V.int) ∧ 0 ≤ x.2 ∧ x.2 < 10
def RPot {α : Type} : α → V → Hp → Prop := fun _ v H => ∃ p, v = .ref p ∧ H p = some (PotO p)
abbrev nPot : List Str := ["_law_script", "_law_k", "_law_cell"]
theorem scPot : FnScope nPot ["_law_script", "_law_k"] (defScope sPot) := ⟨rfl, rfl, rfl, by decide +kernel, rfl, by decide +kernel, by decide +kernel⟩
theorem b_pot (B : BltL mg) : Body P w K mg base nPot "_law_pot" sPot f 0 (APot K) RPot := by
  intro cdv Ar outer s H0 E x vs H Hc D hr ex pa rt nx
  obtain ⟨xs, k⟩ := x
  obtain ⟨a, rfl, h1, hk, hk2⟩ := pa.now
  have h1 : SqL K H a (xs.map V.int) := h1
  have hk : 0 ≤ k := hk
  have hk2 : k < 10 := hk2
  have hq := Pz.sql h1
  refine b_set 2 ex (P := is (V.int (29 * k + 8))) (e_opD op_add (e_opD op_mul e_int (e_var 1) (r_I (g := fun i j => V.int (i * j)) (i := 29) (j := k) (.inl ⟨by decide, by decide⟩))) e_int (r_I0 (g := fun i j => V.int (i + j)) (i := 29 * k) (j := 8))) (fun v H1 Hc1 g1 p1 => ?_) scPot.nd
  obtain rfl : v = V.int (29 * k + 8) := p1.now
  have fin : ∀ (c : Int) (Hn H2 : Hp), Grow H Hc Hn H2 → wB (fx P w K mg base nPot "_law_pot" sPot f cdv Ar outer s H0 E) ((defBody sPot).drop 2) D [some (.ref a), some (.int k), some (.int c)] H2 := fun c Hn H2 g => by
    generalize hb : (c % 2147483549 + 7) * (2 * k + 3) ^ 3 % 2147483477 + 1 = b
    have c0 : 0 ≤ c % 2147483549 := Int.emod_nonneg _ (by decide)
    have c1 : c % 2147483549 < 2147483549 := Int.emod_lt_of_pos _ (by decide)
    have b0 : 0 ≤ b := by rw [← hb]; have := Int.emod_nonneg ((c % 2147483549 + 7) * (2 * k + 3) ^ 3) (show (2147483477 : Int) ≠ 0 by decide); omega
    have b1 : b < 2147483648 := by rw [← hb]; have := Int.emod_lt_of_pos ((c % 2147483549 + 7) * (2 * k + 3) ^ 3) (show (0 : Int) < 2147483477 by decide); omega
    refine b_retPot (a := if c - 1000000000000000000 > 0 then c - 1000000000000000000 else 0) (b := b) g.s (a_consD (e_bltD (call_max2 rfl) B.max (a_consD e_int (a_consD (e_opD op_sub (e_var 2) (e_opD op_pow e_int e_int (t_is (r_I (g := fun i j => V.int (i ^ j.toNat)) (i := 10) (j := 18) ⟨by decide, by decide, by decide⟩) (by rfl))) (r_I0 (g := fun i j => V.int (i - j)) (i := c) (j := 1000000000000000000))) a_nil)) ?_) (a_consD ?_ a_nil)) (by split <;> omega) b0 b1 fun p Hn2 H3 g2 hp => rt _ _ _ (g.trans g2) fun H' e => ⟨p, rfl, e _ _ hp⟩
    · exact Cm.ret (fun _ _ _ q => ⟨_, _, rfl, q⟩) (.const rfl)
    · refine t_is (e_opD op_add (e_opD op_mod (e_opD op_mul (e_tyD (P := is (V.int (c % 2147483549 + 7))) call_int1 B.int (a_consD (e_opD op_add (e_opD op_mod (e_tyD (P := is (V.int c)) call_int1 B.int (a_consD (e_var 2) a_nil) (Cm.ret (fun _ _ _ q => .inl ⟨_, rfl, q⟩) (.const rfl))) e_int (r_I (g := fun i j => V.int (i % j)) (i := c) (j := 2147483549) (by decide))) e_int (r_I0 (g := fun i j => V.int (i + j)) (i := c % 2147483549) (j := 7))) a_nil) (Cm.ret (fun _ _ _ q => .inl ⟨_, rfl, q⟩) (.const rfl)))
        (e_opD op_pow (e_opD op_add (e_opD op_mul e_int (e_var 1) (r_I (g := fun i j => V.int (i * j)) (i := 2) (j := k) (.inl ⟨by decide, by decide⟩))) e_int (r_I0 (g := fun i j => V.int (i + j)) (i := 2 * k) (j := 3))) e_int (r_I (g := fun i j => V.int (i ^ j.toNat)) (i := 2 * k + 3) (j := 3) ⟨by decide, by decide, by omega⟩)) (r_I (g := fun i j => V.int (i * j)) (i := c % 2147483549 + 7) (j := (2 * k + 3) ^ (3 : Int).toNat) (.inl ⟨by omega, by omega⟩))) e_int
        (r_I (g := fun i j => V.int (i % j)) (i := (c % 2147483549 + 7) * (2 * k + 3) ^ (3 : Int).toNat) (j := 2147483477) (by decide))) e_int (r_I0 (g := fun i j => V.int (i + j)) (i := (c % 2147483549 + 7) * (2 * k + 3) ^ (3 : Int).toNat % 2147483477) (j := 1))) ?_
      rw [← hb] <;> rfl
  have hq1 := hq.mono g1.k
  refine b_if g1.s (k := decide (k < ((xs.map V.int).length : Int))) (t_cmpD op_lt (by rfl) (e_var 1) (e_len (xs := xs.map V.int) B.len (e_var (v := V.ref a) 0) (hq1.imp fun _ _ z => .inl z)) (r_I0 (g := fun i j => V.bl (decide (i < j))) (i := k) (j := ((xs.map V.int).length : Int)))) (fun hk3 Hn H2 g2 => ?_) fun _ Hn H2 g2 => b_nil (fin _ _ _ (g1.trans g2))
  have hk4 : k < (xs.length : Int) := by have z := of_decide_eq_true hk3; rw [List.length_map] at z; exact z
  obtain ⟨n, rfl⟩ : ∃ n : Nat, k = (n : Int) := ⟨k.toNat, by omega⟩
  have hn : n < xs.length := by omega
  refine b_set 2 g2.s (P := is (V.int (if xs[n] < 0 then -xs[n] else xs[n]))) (e_bltD call_abs B.abs (a_consD (v := V.int xs[n]) (e_item (j := n) (e_var 0) (e_var 1) (hq1.mono g2.k) (by rw [List.getElem?_map, List.getElem?_eq_getElem hn] <;> rfl)) a_nil) (Cm.ret (fun _ _ _ q => ⟨_, rfl, q⟩) (.const rfl))) (fun v H3 H4 g3 p3 => ?_) scPot.nd
  obtain rfl : v = V.int (if xs[n] < 0 then -xs[n] else xs[n]) := p3.now
  exact b_nil (fin _ _ _ ((g1.trans g2).trans g3))
end
end K19
set_option Elab.async false
set_option linter.all false
set_option maxRecDepth 100000
set_option maxHeartbeats 2000000
namespace K19
open PySem L2 LW
section
variable {P : Program} {w : World} {K : PySem.W.Frag} {mg : Str → Option Value} {base : Heap} {f : Addr} {fd : FuncData}
def AP2 : Str × Str → List V → Hp → Prop := fun p vs _ => vs = [.str p.1, .str p.2]
abbrev nLink : List Str := ["_law_this", "_law_mate"]
theorem scLink : FnScope nLink nLink (defScope sLink) := ⟨rfl, rfl, rfl, by decide +kernel, rfl, by decide +kernel, by decide +kernel⟩
theorem b_link : Body P w K mg base nLink "_law_link" sLink f 0 AP2 RLkO := by
  intro cdv Ar outer s H0 E x vs H Hc D hr ex pa rt nx
  obtain rfl := pa.now
  refine b_ret (P := pr (lnk x.1 x.2)) ex (e_if (k := decide (Lt x.1 x.2)) (t_cmpD op_lt_str (by rfl) (e_var 0) (e_var 1) (Cm.ret (fun _ _ _ q => ⟨x.1, x.2, rfl, rfl, q⟩) (.const rfl))) (fun hk => ?_) fun hk => ?_) fun v Hn3 H4 g3 p => rt v _ _ g3 p
  · refine e_tup (a_consD (e_var 0) (a_consD (e_var 1) a_nil)) (fun xs _ z => by rw [show xs = _ from z]; exact (by decide : 2 ≤ 100000)) fun xs p H1 e1 z hp => ?_
    rw [show xs = _ from z.now] at hp
    exact fun H' e' => ⟨p, rfl, by rw [show lnk x.1 x.2 = (x.1, x.2) from if_pos (of_decide_eq_true hk)]; exact e' _ _ hp⟩
  · refine e_tup (a_consD (e_var 1) (a_consD (e_var 0) a_nil)) (fun xs _ z => by rw [show xs = _ from z]; exact (by decide : 2 ≤ 100000)) fun xs p H1 e1 z hp => ?_
    rw [show xs = _ from z.now] at hp
    exact fun H' e' => ⟨p, rfl, by rw [show lnk x.1 x.2 = (x.2, x.1) from if_neg (of_decide_eq_false hk)]; exact e' _ _ hp⟩
/-! a name is drawn -/
def APt : Addr → List V → Hp → Prop := fun p vs H => vs = [.ref p] ∧ H p = some (PotO p)
def RNm {α : Type} : α → V → Hp → Prop := fun _ v _ => ∃ x, v = .str x ∧ Nm x
abbrev nLabel : List Str := ["_law_pot_here", "_law_label_here", "_law_turn"]
theorem scLabel : FnScope nLabel ["_law_pot_here"] (defScope sLabel) := ⟨rfl, rfl, rfl, by decide +kernel, rfl, by decide +kernel, by decide +kernel⟩
theorem abc_at {i : Nat} (h : i < 26) : ("abcdefghijklmnopqrstuvwxyz" : Str).cps.toList[i]? = some (i + 97) := by
  have e : ("abcdefghijklmnopqrstuvwxyz" : Str).cps.toList = (List.range 26).map (· + 97) := by decide +kernel
  rw [e, List.getElem?_map, List.getElem?_range h] <;> rfl
theorem ad {p : Addr} {n : Int} {H : Hp} (h : H p = some (PotO p)) (h1 : 0 < n) (h2 : n < 1073741824) : AD (p, n) [.ref p, .int n] H := ⟨rfl, h, h1, h2⟩
theorem b_label (B : BltL mg) (FD : Fn P w K mg base "_law_draw" 1 AD RD) : Body P w K mg base nLabel "_law_label" sLabel f 1 APt RNm := by
  intro cdv Ar outer s H0 E p vs H Hc D hr ex pa rt nx
  obtain ⟨rfl, hp⟩ := pa.now
  refine b_set 1 ex (P := is (V.str "")) e_str (fun v H1 Hc1 g1 p1 => ?_) scLabel.nd
  obtain rfl : v = V.str "" := p1.now
  have pt : ∀ {H'}, Ex H1 H' → H' p = some (PotO p) := fun e => e _ _ (g1.k _ _ hp)
  refine b_forX (H := H1) (Φ := fun n => 1 ≤ n ∧ n ≤ 8) (g := gName 2) g1.s PassesOwn.never rfl (pi_range1 rfl B.range pa_w) (i_rngX (Cm.imp (a_cons (P := fun v _ => ∃ n : Nat, v = V.int (n : Int) ∧ 1 ≤ n ∧ n ≤ 8) ?_ a_nil) fun vs H' e z => ?_)) (pg_name (i := 2) scLabel.nd rfl (.inl rfl)) fun n H2 Hc2 hn g2 => ?_
  · refine e_op op_add (e_int (i := 1)) (e_call (P := fun v _ => ∃ r : Int, v = V.int r ∧ 0 ≤ r ∧ r < 8) FD hr (a_cons (P := is (V.ref p)) (e_var 0) (a_cons (P := fun v _ => v = V.int 2 ∨ v = V.int 8) (e_ix (Pa := fun v H' => ∃ a, v = .ref a ∧ SqL K H' a [.int 2, .int 8]) (Pb := RD (p, 2)) ix_list ?_ (e_callD (p, 2) FD hr (a_consD (e_var 0) (a_consD e_int a_nil)) fun H' e => ad (pt e) (by decide) (by decide)) fun x y H3 e3 px py => ?_) a_nil)) fun vs H3 e3 p3 => ?_) fun x y H3 e3 px py => ?_
    · refine e_lst (a_consD e_int (a_consD e_int a_nil)) (fun xs _ z => by rw [show xs = _ from z]; exact (by decide : 2 ≤ 100000)) fun xs q H3 e3 z hq => ?_
      rw [show xs = _ from z.now] at hq
      exact fun H' e' => ⟨q, rfl, SqL.of (e' _ _ hq)⟩
    · obtain ⟨a, rfl, _⟩ := px.now
      obtain ⟨r, rfl, r0, r1⟩ := py.now
      have r1 : r < 2 := r1
      have hl : Pz H3 (fun H' => SqL K H' a [V.int 2, V.int 8]) := fun H' e => by obtain ⟨b, q, z⟩ := px H' e; cases q; exact z
      rcases (by omega : r = 0 ∨ r = 1) with rfl | rfl
      · exact (r_ixL hl (by rfl)).imp fun v _ _ z => .inl z
      · exact (r_ixL hl (by rfl)).imp fun v _ _ z => .inr z
    · obtain ⟨u, us, rfl, rfl, u2, us2, rfl, hv, rfl⟩ := p3.now
      rcases hv with rfl | rfl
      · exact ⟨(p, 2), fun H' e => ad (pt (e3.trans e)) (by decide) (by decide), fun v H' _ ⟨r, z1, z2, z3⟩ => ⟨r, z1, z2, by have z3 : r < 2 := z3; omega⟩⟩
      · exact ⟨(p, 8), fun H' e => ad (pt (e3.trans e)) (by decide) (by decide), fun v H' _ ⟨r, z1, z2, z3⟩ => ⟨r, z1, z2, z3⟩⟩
    · obtain rfl : x = V.int 1 := px.now
      obtain ⟨r, rfl, r0, r1⟩ := py.now
      refine (r_I0 (g := fun i j => V.int (i + j)) (i := 1) (j := r)).imp fun v _ _ z => ⟨(1 + r).toNat, ?_, by omega, by omega⟩
      rw [show v = V.int (1 + r) from z]
      congr 1
      omega
  · obtain ⟨u, us, rfl, ⟨m, rfl, m1, m2⟩, rfl⟩ := z
    exact ⟨m, rfl, by omega, m1, m2⟩
  · refine ⟨fun i σ1 H4 Hc4 => ∃ (x : Str) (u : Option V), σ1 = [some (.ref p), some (.str x), u] ∧ x.length = i ∧ (∀ c ∈ x.cps.toList, 97 ≤ c ∧ c ≤ 122) ∧ Grow H1 Hc1 H4 Hc4, ⟨"", none, rfl, by decide +kernel, fun c hc => absurd hc (by rw [show ("" : Str).cps.toList = [] by decide +kernel]; exact List.not_mem_nil), g2⟩, ?_, ?_⟩
    · rintro i σ1 H4 Hc4 hi e4 e5 ⟨x, u, rfl, hx, hc, g4⟩ y H5 Hc5 g5 py
      refine b_set 1 g5.s (P := fun v _ => ∃ c, v = V.str (x ++ ⟨#[c]⟩) ∧ 97 ≤ c ∧ c ≤ 122) (e_op (Pa := is (V.str x)) (Pb := fun v _ => ∃ c, v = V.str ⟨#[c]⟩ ∧ 97 ≤ c ∧ c ≤ 122) op_add_str (e_var 1) (e_ix (Pa := is (V.str "abcdefghijklmnopqrstuvwxyz")) (Pb := RD (p, 26)) ix_str e_str (e_callD (p, 26) FD hr (a_consD (e_var 0) (a_consD e_int a_nil)) fun H' e => ad (pt ((g4.k.trans g5.k).trans e)) (by decide) (by decide)) fun x2 y2 H6 e6 px2 py2 => ?_) fun x2 y2 H6 e6 px2 py2 => ?_) (fun v H6 Hc6 g6 p6 => b_nil ?_) scLabel.nd
      · obtain rfl := px2.now
        obtain ⟨r, rfl, r0, r1⟩ := py2.now
        have r1 : r < 26 := r1
        obtain ⟨n, rfl⟩ : ∃ n : Nat, r = (n : Int) := ⟨r.toNat, by omega⟩
        exact (r_ixS (by decide +kernel) (L2.atI_nat (abc_at (i := n) (by omega)))).imp fun v _ _ z => ⟨n + 97, z, by omega, by omega⟩
      · obtain rfl := px2.now
        obtain ⟨c, rfl, c1, c2⟩ := py2.now
        have l1 : (⟨#[c]⟩ : Str).length = 1 := rfl
        exact Cm.ret (fun Hc ex Q q => ⟨x, ⟨#[c]⟩, rfl, rfl, by rw [hx, l1]; exact Evl.sz_of (by omega), q⟩) (.const ⟨c, rfl, c1, c2⟩)
      · obtain ⟨c, rfl, c1, c2⟩ := p6.now
        have l1 : (⟨#[c]⟩ : Str).length = 1 := rfl
        refine ⟨H6, (e4.trans g5.k).trans g6.k, g6.s, x ++ ⟨#[c]⟩, _, rfl, by rw [len_app, hx, l1], fun d hd => ?_, (g4.trans g5).trans g6⟩
        have e : (x ++ (⟨#[c]⟩ : Str)).cps.toList = x.cps.toList ++ [c] := by
          show (x.cps ++ #[c]).toList = _
          rw [Array.toList_append]
        rw [e] at hd
        rcases List.mem_append.mp hd with m | m
        · exact hc d m
        · rw [List.mem_singleton.mp m]; exact ⟨c1, c2⟩
    · rintro σ1 H4 Hc4 e4 e5 ⟨x, u, rfl, hx, hc, g4⟩
      refine b_ret (P := is (V.str x)) g4.s (e_var 1) fun v H5 Hc5 g5 p5 => rt v _ _ ((g1.trans g4).trans g5) ?_
      obtain rfl := p5.now
      exact .const ⟨x, rfl, by omega, by omega, hc⟩
end
end K19
set_option Elab.async false
set_option linter.all false
set_option maxRecDepth 100000
set_option maxHeartbeats 2000000
namespace K19
open PySem L2 LW
theorem nd_len {α : Type} [DecidableEq α] : ∀ (l D : List α), l.Nodup → (∀ x ∈ l, x ∈ D) → l.length ≤ D.length
  | [], _, _, _ => Nat.zero_le _
  | x :: l, D, hn, hs => by
    have h := List.nodup_cons.mp hn
    have hx := hs x (List.mem_cons_self ..)
    have ih := nd_len l (D.erase x) h.2 fun y hy => (List.mem_erase_of_ne fun e : y = x => h.1 (e ▸ hy)).mpr (hs y (List.mem_cons_of_mem _ hy))
    have e := List.length_erase_of_mem hx
    have p := List.length_pos_of_mem hx
    rw [List.length_cons]
    omega
def cands : List Str := ["qqa", "qqb", "qqc", "qqd", "qqe", "qqf", "qqg"]
theorem cands_nm : ∀ x ∈ cands, Nm x := by
  have h : cands.all (fun x => decide (1 ≤ x.length) && decide (x.length ≤ 8) && x.cps.toList.all (fun c => decide (97 ≤ c) && decide (c ≤ 122))) = true := by decide +kernel
  intro x hx
  have z := List.all_eq_true.mp h x hx
  simp only [Bool.and_eq_true, decide_eq_true_eq, List.all_eq_true] at z
  exact ⟨z.1.1, z.1.2, z.2⟩
theorem cands_nd : cands.Nodup := by decide +kernel
theorem cands_left {ns : List Str} (h : ns.length ≤ 6) : ∃ x r, cands.filter (fun c => !decide (c ∈ ns)) = x :: r ∧ x ∈ cands ∧ x ∉ ns := by
  cases e : cands.filter (fun c => !decide (c ∈ ns)) with
  | nil =>
    have z := nd_len cands ns cands_nd fun x hx => by
      have := List.filter_eq_nil_iff.mp e x hx
      simpa using this
    have l : cands.length = 7 := rfl
    omega
  | cons x r =>
    have m : x ∈ cands.filter (fun c => !decide (c ∈ ns)) := by rw [e]; exact List.mem_cons_self ..
    obtain ⟨m1, m2⟩ := List.mem_filter.mp m
    exact ⟨x, r, rfl, m1, by simpa using m2⟩
section
variable {P : Program} {w : World} {K : PySem.W.Frag} {mg : Str → Option Value} {base : Heap} {f : Addr} {fd : FuncData}
/-- seven names -/
structure Seven (ns : List Str) : Prop where
  len : ns.length = 7
  nd : ns.Nodup
  nm : ∀ x ∈ ns, Nm x
def RLabels {α : Type} : α → V → Hp → Prop := fun _ v H => ∃ b ns, v = .ref b ∧ H b = some (.lst (ns.map V.str)) ∧ Seven ns
abbrev nLabels : List Str := ["_law_pot_here", "_law_found", "_law_k", "_law_label_here", "_law_near"]
theorem scLabels : FnScope nLabels ["_law_pot_here"] (defScope sLabels) := ⟨rfl, rfl, rfl, by decide +kernel, rfl, by decide +kernel, by decide +kernel⟩
theorem b_labels (B : BltL mg) (FL : Fn P w K mg base "_law_label" 2 APt RNm) : Body P w K mg base nLabels "_law_labels" sLabels f 2 APt RLabels := by
  intro cdv Ar outer s H0 E p vs H Hc D hr ex pa rt nx
  obtain ⟨rfl, hp⟩ := pa.now
  refine b_lnew 1 ex (fun l hl => ?_) scLabels.nd (hx := .inr rfl)
  have hlH : H l = none := Evl.fresh_back ex hl
  refine b_for (H := H) (g := gName 2) (ex.trans (Evl.Ex.new hl)) PassesOwn.never rfl (pi_range1 rfl B.range pa_w) (i_rng1 (n := 7) (a_consD e_int a_nil) (by decide) (by decide)) (pg_name (i := 2) scLabels.nd rfl (.inl rfl)) fun H1 Hc1 g1 => ?_
  have gg := (still (ex.trans (Evl.Ex.new hl)) (Evl.Ex.new hl)).trans g1
  refine ⟨fun i σ1 H4 Hc4 => ∃ (ns : List Str) (u1 u2 : Option V), σ1 = [some (.ref p), some (.ref l), u1, u2, none] ∧ H4 l = none ∧ Hc4 l = some (.lst (ns.map V.str)) ∧ ns.length = i ∧ ns.Nodup ∧ (∀ x ∈ ns, Nm x) ∧ Grow H Hc H4 Hc4,
    ⟨[], none, none, rfl, g1.un upd_same hlH, g1.c _ _ upd_same, rfl, List.nodup_nil, fun x hx => absurd hx List.not_mem_nil, gg⟩, ?_, ?_⟩
  · rintro i σ1 H4 Hc4 hi e4 e5 ⟨ns, u1, u2, rfl, hl4, hc4, hlen, hnd, hnm, g4⟩ y H5 Hc5 g5 py
    have hi : i < 7 := hi
    have pt : H5 p = some (PotO p) := (g4.k.trans g5.k) _ _ hp
    refine b_set 3 g5.s (e_callD p FL hr (a_consD (e_var 0) a_nil) (fun H' e => ⟨rfl, e _ _ pt⟩)) (fun v H6 Hc6 g6 p6 => ?_) scLabels.nd
    obtain ⟨x, rfl, hx⟩ := p6.now
    have hl6 := g6.c _ _ (g5.c _ _ hc4)
    have n6 : H6 l = none := g6.un (g5.c _ _ hc4) (g5.un hc4 hl4)
    have g6' := (g4.trans g5).trans g6
    refine b_if (H := upd H6 l (.lst (ns.map V.str))) (g6.s.own hl6) (k := decide (x ∈ ns)) (t_inS (e_var 3) (e_var 1) (fun H' e => .inl (SqL.of (e _ _ upd_same)))) (fun hk H7 Hc7 g7 => ?_) fun hk H7 Hc7 g7 => b_nil ?_
    · have hl7 := g7.c _ _ hl6
      have g7' := g6'.looked n6 g7
      obtain ⟨z, r, hz, hz1, hz2⟩ := cands_left (ns := ns) (by omega)
      have own : Ex (upd H6 l (.lst (ns.map V.str))) Hc7 := g7.k.trans g7.s
      refine b_set 3 (H := upd H6 l (.lst (ns.map V.str))) own (P := is (V.str z)) (e_ix (Pa := lst K ((z :: r).map V.str)) (Pb := is (V.int 0)) ix_list ?_ e_int fun x2 y2 H8 e8 px py => ?_) (fun v H8 Hc8 g8 p8 => b_nil ?_) scLabels.nd
      · refine Cm.imp (e_lc (P := lst K ((cands.filter fun c => !decide (c ∈ ns)).map V.str)) (own := [("_law_near", 4)]) (g := gName 4) rfl scLabels.nd (pi_list pe_w) (blkOk_by (N := nLabels) (sc := defScope sLabels) (by decide +kernel)) (fun _ _ _ _ _ => pg_name (i := 4) scLabels.nd rfl (.inl rfl)) (fun s H C cl fp => pts_one (pt_b s H C cl fp))
          (c_lc (i_list (xs := cands.map V.str) (e_lst (a_consD e_str (a_consD e_str (a_consD e_str (a_consD e_str (a_consD e_str (a_consD e_str (a_consD e_str a_nil))))))) (fun xs _ z => by rw [show xs = _ from z]; exact (by decide : 7 ≤ 100000)) fun xs q H3 e3 z hq => ?_)) (by exact (by decide : 7 ≤ 100000)) (fun i acc _ => acc = ((cands.take i).filter fun c => !decide (c ∈ ns)).map V.str) (fun _ => rfl) (fun j y acc H9 hj e9 py pacc => ?_) fun acc q H9 e9 pacc hq => ?_)) fun v H' _ q => by rw [hz] at q; exact q
        · rw [show xs = _ from z.now] at hq
          exact fun H' e' => ⟨q, rfl, SqL.of (e' _ _ hq)⟩
        · obtain ⟨c, hc, rfl⟩ := txt_get py.now
          have ea : acc = ((cands.take j).filter fun c => !decide (c ∈ ns)).map V.str := pacc.now
          refine ⟨_, !decide (c ∈ ns), bind_name, rfl, c_tb fun s H0 C cl fp => t_cmpD op_notIn_seq (by rfl) (e_var 4) (e_var 1) (r_ninS fun H' e => .inl (SqL.of (e _ _ (e9 _ _ upd_same)))), fun q => c_eb fun s H0 C cl fp => ?_, fun q => ?_⟩
          · refine Cm.imp (e_var (v := V.str c) 4) fun v H' _ z => ?_
            rw [ea, show v = V.str c from z, take_snoc hc, List.filter_append, List.map_append, List.filter_cons_of_pos (by exact q), List.filter_nil] <;> rfl
          · refine .const ?_
            rw [ea, take_snoc hc, List.filter_append, List.filter_cons_of_neg (by rw [q]; exact Bool.false_ne_true), List.filter_nil, List.append_nil]
        · have ea : acc = ((cands.take (cands.map V.str).length).filter fun c => !decide (c ∈ ns)).map V.str := pacc.now
          rw [List.length_map, List.take_length] at ea
          subst ea
          exact fun H' e' => ⟨q, rfl, SqL.of (e' _ _ hq)⟩
      · obtain ⟨a, rfl, hxa⟩ := pz_lst px
        obtain rfl := py.now
        exact r_ixL hxa (L2.atI_nat (j := 0) (by rfl))
      · obtain rfl := p8.now
        have hl8 := g8.c _ _ hl7
        have g8' := g7'.looked n6 g8
        refine b_app (l := l) (xs := ns.map V.str) (P := is (V.str z)) g8'.s (e_var 1) (e_var 3) hl8 (by rw [List.length_map]; omega) fun v8 H8 Hc8 g8 p8 => b_nil ?_
        obtain rfl := p8.now
        have n8 : H8 l = none := g8.un hl8 n6
        refine ⟨H8, ((e4.trans g5.k).trans g6.k).trans g8.k, g8.s.mut n8, ns ++ [z], _, _, rfl, n8, by rw [upd_same, List.map_append] <;> rfl, by rw [List.length_append, hlen] <;> rfl, List.nodup_append.mpr ⟨hnd, List.nodup_cons.mpr ⟨List.not_mem_nil, List.nodup_nil⟩, fun a ha b hb q => hz2 (by rw [List.mem_singleton.mp hb] at q; exact q ▸ ha)⟩, fun a ha => ?_, (g8'.trans g8).mut hl n8⟩
        rcases List.mem_append.mp ha with m | m
        · exact hnm a m
        · rw [List.mem_singleton.mp m]; exact cands_nm z hz1
    · have hl7 := g7.c _ _ hl6
      have g7' := g6'.looked n6 g7
      have hk : x ∉ ns := of_decide_eq_false hk
      refine b_app (l := l) (xs := ns.map V.str) (P := is (V.str x)) g7'.s (e_var 1) (e_var 3) hl7 (by rw [List.length_map]; omega) fun v8 H8 Hc8 g8 p8 => b_nil ?_
      obtain rfl := p8.now
      have n8 : H8 l = none := g8.un hl7 n6
      refine ⟨H8, ((e4.trans g5.k).trans g6.k).trans g8.k, g8.s.mut n8, ns ++ [x], _, _, rfl, n8, by rw [upd_same, List.map_append] <;> rfl, by rw [List.length_append, hlen] <;> rfl, List.nodup_append.mpr ⟨hnd, List.nodup_cons.mpr ⟨List.not_mem_nil, List.nodup_nil⟩, fun a ha b hb q => hk (by rw [List.mem_singleton.mp hb] at q; exact q ▸ ha)⟩, fun a ha => ?_, (g7'.trans g8).mut hl n8⟩
      rcases List.mem_append.mp ha with m | m
      · exact hnm a m
      · rw [List.mem_singleton.mp m]; exact hx
  · rintro σ1 H4 Hc4 e4 e5 ⟨ns, u1, u2, rfl, hl4, hc4, hlen, hnd, hnm, g4⟩
    refine b_ret (P := is (V.ref l)) g4.s (e_var 1) fun v H5 Hc5 g5 p5 => rt v (upd H5 l (.lst (ns.map V.str))) _ ((g4.trans g5).know hl (g5.un hc4 hl4) (g5.c _ _ hc4)) ?_
    obtain rfl := p5.now
    exact fun H' e => ⟨l, ns, rfl, e _ _ upd_same, hlen, hnd, hnm⟩
end
end K19
set_option Elab.async false
set_option linter.all false
set_option maxRecDepth 100000
set_option maxHeartbeats 2000000
namespace K19
open PySem L2 LW
abbrev sIs : Stmt := top 46
def dTold (ns : List Str) (ls : List (Str × Str)) : PyData := .list [.list (ns.map PyData.str), .list (ls.map dPr), .int (ls.length : Int), .int (ns.length : Int)]
theorem dvs_txts {K : PySem.W.Frag} {H : Hp} : ∀ xs : List Str, Dvs K H (xs.map V.str) (xs.map PyData.str)
  | [] => .nil
  | x :: xs => .cons (.str x) (dvs_txts xs)
theorem dvs_prs {K : PySem.W.Frag} {H : Hp} : ∀ {ts : List Addr} {ps : List (Str × Str)}, TsAt H ts ps → Dvs K H (ts.map V.ref) (ps.map dPr)
  | _, _, .nil => .nil
  | _, _, .cons h r => .cons (.tuple (SqT.of h) (.cons (.str _) (.cons (.str _) .nil))) (dvs_prs r)
theorem nm_cps {x : Str} (h : Nm x) : ∀ c ∈ x.cps.toList, c < 16 ^ 8 := fun c hc => Nat.lt_of_le_of_lt (h.2.2 c hc).2 (by decide)
theorem told_shw {ns : List Str} {ls : List (Str × Str)} (nt : Nt ns ls) : Shw (dTold ns ls) := by
  have s : ∀ x, Nm x → ShN 0 82 (.str x) := fun x h => shn_str (m := 8) (nm_cps h) h.2.1
  have a : ShN 1 (60 * 84 + 3) (.list (ns.map PyData.str)) := shn_list (n := 0) (m := 82) (fun d hd => by obtain ⟨x, hx, rfl⟩ := List.mem_map.mp hd; exact s x (nt.nm x hx)) (by rw [List.length_map]; exact nt.len)
  have b : ShN 2 (60 * (2 * 84 + 3 + 2) + 3) (.list (ls.map dPr)) := shn_list (n := 1) (m := 2 * 84 + 3) (fun d hd => by
    obtain ⟨p, hp, rfl⟩ := List.mem_map.mp hd
    refine shn_tuple (n := 0) (m := 82) (fun d hd => ?_) (Nat.le_refl _)
    rcases List.mem_cons.mp hd with rfl | hd
    · exact s _ (nt.nml p hp).1
    · rw [List.mem_singleton.mp hd]; exact s _ (nt.nml p hp).2) (by rw [List.length_map]; exact nt.ll)
  have i : ∀ n : Nat, n ≤ 60 → ShN 0 4 (.int (n : Int)) := fun n hn => shn_int (k := 3) (by decide) (by decide) (by rw [Int.natAbs_natCast]; omega)
  have all : ∀ d ∈ [PyData.list (ns.map PyData.str), .list (ls.map dPr), .int (ls.length : Int), .int (ns.length : Int)], ShN 2 20000 d := fun d hd => by
    simp only [List.mem_cons, List.not_mem_nil, or_false] at hd
    rcases hd with rfl | rfl | rfl | rfl
    · exact a.mono (by decide) (by decide)
    · exact b.mono (by decide) (by decide)
    · exact (i _ nt.ll).mono (by decide) (by decide)
    · exact (i _ nt.len).mono (by decide) (by decide)
  exact (shn_list (k := 4) all (Nat.le_refl _)).shw (by decide) (by decide)
section
variable {P : Program} {w : World} {K : PySem.W.Frag} {mg : Str → Option Value} {base : Heap} {f fi C : Addr} {fd : FuncData}
/-- what the law asks of a net -/
structure NetM (P : Program) (w : World) (K : PySem.W.Frag) (mg : Str → Option Value) (base : Heap) (C : Addr) : Prop where
  nodes : Md P w K mg base C "nodes" 1 (ASelf C) RNodes
  links : Md P w K mg base C "links" 1 (ASelf C) RLinks
  size : Pr P w K mg base C "size" 1 (ASelf C) RSize
  len : Opx P w K mg base C "__len__" 1 (ASelf C) RLen
  eq : Opx P w K mg base C "__eq__" 1 (AEq C) REq
structure IsIn where
  x : NetV
  xs : List Str
  ps : List (Str × Str)
structure IsIn.Ok (y : IsIn) : Prop where
  nds : Nds y.xs
  lks : Lks y.ps (some (true, y.xs))
  pn : y.x.ns.Perm y.xs
  pl : y.x.ls.Perm y.ps
def AIs (C : Addr) (K : PySem.W.Frag) : IsIn → List V → Hp → Prop := fun y vs H => ∃ a b ts, vs = [.ref y.x.a, .ref a, .ref b] ∧ y.x.At C H ∧ SqL K H a (y.xs.map V.str) ∧ SqL K H b (ts.map V.ref) ∧ TsAt H ts y.ps ∧ y.Ok
abbrev nIs : List Str := ["_law_made", "_law_spots", "_law_pairs", "_law_told"]
theorem scIs : FnScope nIs ["_law_made", "_law_spots", "_law_pairs"] (defScope sIs) := ⟨rfl, rfl, rfl, by decide +kernel, rfl, by decide +kernel, by decide +kernel⟩
theorem same_lk {ls : List (Str × Str)} (h : ∀ p ∈ ls, Lt p.1 p.2) : ls.map lk = ls := (List.map_congr_left fun q hq => lk_lk (h q hq)).trans (List.map_id ls)
theorem b_is (B : Blt K mg) (mr : mg "repr" = none) (F : NetF K mg C) (T : NetTy K C) (M : MkN P w K mg base C fi) (N : NetM P w K mg base C) : BodyG P w K mg base nIs "_law_is" sIs f 7 (AIs C K) RTrue := by
  intro cdv Ar outer s H0 E y vs H Hc D hr ex pa rt nx
  obtain ⟨x, xs, ps⟩ := y
  obtain ⟨a, b, ts, rfl, hA, h1, h2, h3, o⟩ := pa.now
  have hA : x.At C H := hA
  have h1 : SqL K H a (xs.map V.str) := h1
  have h3 : TsAt H ts ps := h3
  have pn : x.ns.Perm xs := o.pn
  have pl : x.ls.Perm ps := o.pl
  have nds : Nds xs := o.nds
  have nt : Nt x.ns x.ls := hA.2
  have l3 := h3.length
  have pt : ∀ {H'}, Ex H H' → x.At C H' := fun e => ⟨hA.1.ex e, nt⟩
  have hins : ∃ dx fs, H x.a = some (.ins C dx fs) ∧ fs.lookup ("nodes" : Str) = none ∧ fs.lookup ("links" : Str) = none := by
    obtain ⟨dx, l1, l2, l3, _, _, h, _⟩ := hA.1
    exact ⟨dx, _, h, rfl, rfl⟩
  obtain ⟨dx, fs, hi, hf1, hf2⟩ := hins
  have rr := hr.r
  refine b_set 3 ex (P := fun v H' => ∃ c, v = .ref c ∧ Dv K H' (.ref c) (dTold x.ns x.ls)) (e_lst (a_cons (e_meth0 x N.nodes F.cls (rr.mono (by decide)) (e_var 0) (.at hi) hf1 (fun H' e => ⟨rfl, pt e⟩)) (a_cons (e_meth0 x N.links F.cls (rr.mono (by decide)) (e_var 0) (.at hi) hf2 (fun H' e => ⟨rfl, pt e⟩)) (a_cons (e_prop x N.size F.cls (rr.mono (by decide)) (e_var 0) (.at hi) (fun H' e => ⟨rfl, pt e⟩))
    (a_cons (e_lenO (y := x) (n := (x.ns.length : Int)) N.len (rr.mono (by decide)) B.len (e_var 0) (.at hi) (fun H' e => ⟨rfl, pt e⟩) (fun _ _ z => z) ⟨by omega, by have := nt.len; omega⟩) a_nil)))) (fun ys _ z => ?_) fun ys p H1 e1 z hp => ?_) (fun v H1 Hc1 g1 p1 => ?_) scIs.nd
  · obtain ⟨_, _, rfl, _, _, _, rfl, _, _, _, rfl, _, _, _, rfl, _, rfl⟩ := z
    exact (by decide : 4 ≤ 100000)
  · obtain ⟨_, _, rfl, ⟨n1, rfl, z1⟩, _, _, rfl, ⟨n2, us, rfl, z2, z3⟩, _, _, rfl, rfl, _, _, rfl, rfl, rfl⟩ := z.now
    exact fun H' e' => ⟨p, rfl, .list (SqL.of (e' _ _ hp)) (.cons (.list (SqL.of (e' _ _ z1)) (dvs_txts _)) (.cons (.list (SqL.of (e' _ _ z2)) (dvs_prs (paired_ex e' z3))) (.cons (.int _) (.cons (.int _) .nil))))⟩
  obtain ⟨c, rfl, hd⟩ := p1.now
  have w1 := told_shw nt
  have hq := Pz.sql h1
  have e1 := g1.k
  have lenP : (ts.map V.ref).length = x.ls.length := by rw [List.length_map, l3]; exact pl.length_eq.symm
  have lenN : (xs.map V.str).length = x.ns.length := by rw [List.length_map]; exact pn.length_eq.symm
  refine b_ifF g1.s (t_is (t_cmpD op_ne (by rfl) (e_repr (d := dTold x.ns x.ls) hr.g rr.units mr (Cm.imp (e_var (v := V.ref c) 3) fun v H' e z => ⟨c, z, hd.ex e⟩) w1) (e_repr (d := dTold x.ns x.ls) hr.g rr.units mr (e_lst (a_cons (P := fun v H' => ∃ d, v = .ref d ∧ H' d = some (.lst (x.ns.map V.str))) ?_ (a_cons (P := fun v H' => ∃ d us, v = .ref d ∧ H' d = some (.lst (us.map V.ref)) ∧ TsAt H' us x.ls) ?_
    (a_cons (P := is (V.int (x.ls.length : Int))) (t_is (e_len (xs := ts.map V.ref) B.len (e_var (v := V.ref b) 2) (fun H' e => .inl (Evl.ex_l (e1.trans e) h2))) (by rw [lenP])) (a_cons (P := is (V.int (x.ns.length : Int))) (t_is (e_len (xs := xs.map V.str) B.len (e_var (v := V.ref a) 1) (fun H' e => .inl (hq H' (e1.trans e)))) (by rw [lenN])) a_nil)))) (fun ys _ z => ?_) fun ys p H2 e2 z hp => ?_) w1) (r_ne (x := V.str (dTold x.ns x.ls).shown) (y := V.str (dTold x.ns x.ls).shown) rfl)) ?_) fun H2 Hc2 g2 => b_nil ?_
  · exact e_sortedS B.sorted (e_var 1) (hq.mono e1) (by have := nds.len; omega) pn nt.sn
  · exact e_sortedPS B.sorted (e_var 2) (fun H' e => ⟨Evl.ex_l (e1.trans e) h2, paired_ex (e1.trans e) h3⟩) pl nt.sp
  · obtain ⟨_, _, rfl, _, _, _, rfl, _, _, _, rfl, _, _, _, rfl, _, rfl⟩ := z
    exact (by decide : 4 ≤ 100000)
  · obtain ⟨_, _, rfl, ⟨n1, rfl, z1⟩, _, _, rfl, ⟨n2, us, rfl, z2, z3⟩, _, _, rfl, rfl, _, _, rfl, rfl, rfl⟩ := z.now
    exact fun H' e' => ⟨p, rfl, .list (SqL.of (e' _ _ hp)) (.cons (.list (SqL.of (e' _ _ z1)) (dvs_txts _)) (.cons (.list (SqL.of (e' _ _ z2)) (dvs_prs (paired_ex e' z3))) (.cons (.int _) (.cons (.int _) .nil))))⟩
  · simp
  · have e12 := g1.k.trans g2.k
    refine b_ret (P := is (V.bl true)) g2.s (e_and (k := true) (k' := true) (e_isi (ty := .ref C) (u := .ref C) (c := V.ref C) B.isi (e_var (v := V.ref x.a) 0) (e_glob (v := V.ref C) rfl F.mgN rfl) (fun H' e => .base (.ins (e _ _ (e12 _ _ hi)) F.cls T.ha T.hn T.htk T.hm)) (.own C) T.kit) fun _ => e_one ?_) fun v H3 Hc3 g3 q => rt v _ _ ((g1.trans g2).trans g3) q
    obtain ⟨fe, he, Ge⟩ := N.eq.ex
    refine e_cmp (Pa := is (V.ref x.a)) (Pb := RNet C ⟨true, xs, true, ps⟩) (op_ownEq he Ge (rr.mono (by decide)) pass0) (by rfl) (e_var 0) (e_make M.cl F.mgN M.init (rr.mono (by decide)) (a_consD (e_var 1) (a_consD (e_var 2) a_nil)) fun vs H3 e3 z => ?_) fun u1 u2 H3 e3 z1 z2 => ?_
    · obtain rfl := z.now
      exact ⟨⟨true, xs, true, ps⟩, fun H' e => ⟨a, b, ts, rfl, hq H' ((e12.trans e3).trans e), Evl.ex_l ((e12.trans e3).trans e) h2, paired_ex ((e12.trans e3).trans e) h3, ⟨nds, o.lks⟩⟩, fun _ _ _ q => q⟩
    · obtain rfl := z1.now
      obtain ⟨b2, ns, ls, rfl, hB, hn, hl, nt2⟩ := z2.now
      have hl : ls.Perm (ps.map lk) := hl
      have hn : ns.Perm xs := hn
      have ids : ps.map lk = ps := same_lk fun p hp => (nt.lk p (pl.mem_iff.mpr hp)).2.2
      rw [ids] at hl
      obtain rfl : ns = x.ns := sortN_uniq nt2.sn nt.sn (hn.trans pn.symm)
      obtain rfl : ls = x.ls := sortP_uniq nt2.sp nt.sp (hl.trans pl.symm)
      obtain ⟨dy, l1, l2, l3, us, as, hb2, hrest⟩ := id hB
      refine t_is (r_ownEq false (y := (x, ⟨b2, x.ns, x.ls⟩)) (c := true) (.at ((e12.trans e3) _ _ hi)) (.at hb2) (fun H' e => ⟨rfl, pt ((e12.trans e3).trans e), ⟨hB.ex e, nt2⟩⟩) fun v H' z => ?_) rfl
      rw [show v = _ from z]
      simp
end
end K19
set_option Elab.async false
set_option linter.all false
set_option maxRecDepth 100000
set_option maxHeartbeats 4000000
namespace K19
open PySem L2 LW
abbrev sThree : Stmt := top 45
/-! slices of lists -/
theorem cut_to {xs : List V} {n : Nat} (h : n ≤ xs.length) : cutV xs none (some (n : Int)) = xs.take n := by
  unfold cutV
  rw [HT.sIx_none, HT.sIx_nat, List.drop_zero, Nat.sub_zero, Nat.min_eq_left h]
theorem e_slTo {X : Cx} {σ : St} {H : Hp} {o i : Expr} {pos p2 : Pos} {a : Addr} {xs : List V} {n : Nat} (ho : Cm H (is (V.ref a)) (wE X o σ)) (hi : Cm H (is (V.int (n : Int))) (wE X i σ)) (h : Pz H (fun H' => SqL X.K H' a xs)) (hn : n ≤ xs.length) :
    Cm H (fun v H' => ∃ b, v = .ref b ∧ H' b = some (.lst (xs.take n))) (wE X (.Subscript o (.Slice none (some i) none p2) pos) σ) := by
  refine ce (pe_slice sl_list pe_w po_none (po_some pe_w)) fun Hc ex Q q => ?_
  refine ho Hc ex _ fun v Hn H2 g p => ?_
  obtain rfl : v = V.ref a := p.now
  show wE X i σ H2 _
  refine hi.mono g.k H2 g.s _ fun w Hm H3 g3 p3 => ?_
  obtain rfl : w = V.int (n : Int) := p3.now
  refine ⟨(n : Int), rfl, a, xs, rfl, h H3 ((g.k.trans g3.k).trans g3.s), fun b hb => ?_⟩
  rw [cut_to hn]
  exact q _ _ _ ((g.trans g3).trans (Grow.new g3.s hb)) fun H' e => ⟨b, rfl, e _ _ upd_same⟩
section
variable {P : Program} {w : World} {K : PySem.W.Frag} {mg : Str → Option Value} {base : Heap} {f C : Addr} {fd : FuncData}
/-- the class's own makers -/
structure NetC (P : Program) (w : World) (K : PySem.W.Frag) (mg : Str → Option Value) (base : Heap) (C : Addr) : Prop where
  mgN : mg "Net" = some (.ref C)
  ex : ∃ mc, ClX.CRead K C mc ∧ (∃ p g, ClX.CMet K C mc "path" p g ∧ FnR P w K mg base CX0 7 g (StarSp 1 (SpF (APath C K) (RPath C)))) ∧ (∃ p g, ClX.CMet K C mc "ring" p g ∧ FnR P w K mg base CX0 7 g (StarSp 1 (SpF (ARing C K) (RRing C)))) ∧
    (∃ p g, ClX.CMet K C mc "full" p g ∧ FnR P w K mg base CX0 7 g (StarSp 1 (SpF (AFull C K) (RFull C)))) ∧ ∃ p g, SMet K C mc "of" p g ∧ FnR P w K mg base CX0 7 g (StarSp 0 (SpF (AOf K) (ROf C)))
variable {X : Cx} {σ : St} {H : Hp} {e : Expr} {es : List Expr} {pos p1 apos : Pos} {xs : List Str}
theorem e_path (N : NetC X.prog X.w X.K X.mg X.base C) (hr : Room 7 X.A) (ha : Cm H (is (xs.map V.str)) (wA X (e :: es) σ)) (n : Nds xs) (hg : Gl X "Net" := by rfl) {pl : Sem Bool} (hs : starEach (e :: es) X.env = (false, eval e X.env) :: starEach es X.env := by rfl) (hpl : (backTo pos (starEach es X.env)).any (·.1) = false := by rfl)
    (ht : eval (.Call (.Attribute (.Name "Net" p1) "path" apos) (e :: es) [] pos) X.env = (eval (.Name "Net" p1) X.env >>= fun ov => standAt apos.atName >>= fun _ => holding [ov] (getMethod ov "path" pl) >>= fun fx => callWith pos fx.1 fx.2 (backTo pos (starEach (e :: es) X.env)) (backToKw pos (keywordEach [] X.env))) := by rfl) :
    Cm H (RPath C xs) (wE X (.Call (.Attribute (.Name "Net" p1) "path" apos) (e :: es) [] pos) σ) := by
  obtain ⟨mc, r, ⟨p, g, c, G⟩, _⟩ := N.ex
  refine e_cmeth r c G hr (e_glob hg N.mgN rfl) ha (fun vs H1 e1 z => ?_) (pl := pl) hs hpl ht
  obtain rfl := z.now
  exact c_star (ws := [.ref C]) (rest := xs.map V.str) xs rfl (by rw [List.length_map]; have := n.len; omega) fun p H2 e2 hp H' e' => ⟨p, rfl, SqT.of (e' _ _ hp), n⟩
theorem e_ring (N : NetC X.prog X.w X.K X.mg X.base C) (hr : Room 7 X.A) (ha : Cm H (is (xs.map V.str)) (wA X (e :: es) σ)) (n : Nds xs) (n3 : 3 ≤ xs.length) (n5 : xs.length ≤ 50) (hg : Gl X "Net" := by rfl) {pl : Sem Bool} (hs : starEach (e :: es) X.env = (false, eval e X.env) :: starEach es X.env := by rfl) (hpl : (backTo pos (starEach es X.env)).any (·.1) = false := by rfl)
    (ht : eval (.Call (.Attribute (.Name "Net" p1) "ring" apos) (e :: es) [] pos) X.env = (eval (.Name "Net" p1) X.env >>= fun ov => standAt apos.atName >>= fun _ => holding [ov] (getMethod ov "ring" pl) >>= fun fx => callWith pos fx.1 fx.2 (backTo pos (starEach (e :: es) X.env)) (backToKw pos (keywordEach [] X.env))) := by rfl) :
    Cm H (RRing C xs) (wE X (.Call (.Attribute (.Name "Net" p1) "ring" apos) (e :: es) [] pos) σ) := by
  obtain ⟨mc, r, _, ⟨p, g, c, G⟩, _⟩ := N.ex
  refine e_cmeth r c G hr (e_glob hg N.mgN rfl) ha (fun vs H1 e1 z => ?_) (pl := pl) hs hpl ht
  obtain rfl := z.now
  exact c_star (ws := [.ref C]) (rest := xs.map V.str) xs rfl (by rw [List.length_map]; have := n.len; omega) fun p H2 e2 hp H' e' => ⟨p, rfl, SqT.of (e' _ _ hp), n, n3, n5⟩
theorem e_full (N : NetC X.prog X.w X.K X.mg X.base C) (hr : Room 7 X.A) (ha : Cm H (is (xs.map V.str)) (wA X (e :: es) σ)) (n : Nds xs) (n8 : xs.length ≤ 8) (hg : Gl X "Net" := by rfl) {pl : Sem Bool} (hs : starEach (e :: es) X.env = (false, eval e X.env) :: starEach es X.env := by rfl) (hpl : (backTo pos (starEach es X.env)).any (·.1) = false := by rfl)
    (ht : eval (.Call (.Attribute (.Name "Net" p1) "full" apos) (e :: es) [] pos) X.env = (eval (.Name "Net" p1) X.env >>= fun ov => standAt apos.atName >>= fun _ => holding [ov] (getMethod ov "full" pl) >>= fun fx => callWith pos fx.1 fx.2 (backTo pos (starEach (e :: es) X.env)) (backToKw pos (keywordEach [] X.env))) := by rfl) :
    Cm H (RFull C xs) (wE X (.Call (.Attribute (.Name "Net" p1) "full" apos) (e :: es) [] pos) σ) := by
  obtain ⟨mc, r, _, _, ⟨p, g, c, G⟩, _⟩ := N.ex
  refine e_cmeth r c G hr (e_glob hg N.mgN rfl) ha (fun vs H1 e1 z => ?_) (pl := pl) hs hpl ht
  obtain rfl := z.now
  exact c_star (ws := [.ref C]) (rest := xs.map V.str) xs rfl (by rw [List.length_map]; have := n.len; omega) fun p H2 e2 hp H' e' => ⟨p, rfl, SqT.of (e' _ _ hp), n, n8⟩
/-- the three nets of a row -/
def R3 (C : Addr) (xs : List Str) : V → Hp → Prop := fun v H => ∃ b v1 v2 v3, v = .ref b ∧ H b = some (.lst [v1, v2, v3]) ∧ RPath C xs v1 H ∧ (if 3 ≤ xs.length then RRing C xs v2 H else v2 = .non) ∧ RFull C xs v3 H
theorem made_ex {ps : List (Str × Str)} {v : V} {H H' : Hp} (e : Ex H H') (h : RMade C xs ps v H) : RMade C xs ps v H' := by
  obtain ⟨a, ns, ls, h1, h2, h3⟩ := h
  exact ⟨a, ns, ls, h1, h2.ex e, h3⟩
theorem e_three {e1 e2 e3 : Expr} (h1 : Cm H (RPath C xs) (wE X e1 σ)) (h2 : Cm H (fun v H' => if 3 ≤ xs.length then RRing C xs v H' else v = .non) (wE X e2 σ)) (h3 : Cm H (RFull C xs) (wE X e3 σ)) (s1 : starEach [e1, e2, e3] X.env = (false, eval e1 X.env) :: starEach [e2, e3] X.env := by rfl)
    (s2 : starEach [e2, e3] X.env = (false, eval e2 X.env) :: starEach [e3] X.env := by rfl) (s3 : starEach [e3] X.env = (false, eval e3 X.env) :: starEach [] X.env := by rfl) : Cm H (R3 C xs) (wE X (.List [e1, e2, e3] pos) σ) := by
  refine e_lst (a_cons h1 (a_cons h2 (a_cons h3 a_nil s3) s2) s1) (fun ys _ z => ?_) fun ys p H1 e z hp => ?_
  · obtain ⟨_, _, rfl, _, _, _, rfl, _, _, _, rfl, _, rfl⟩ := z
    exact (by decide : 3 ≤ 100000)
  · obtain ⟨v1, _, rfl, z1, v2, _, rfl, z2, v3, _, rfl, z3, rfl⟩ := z.now
    refine fun H' e' => ⟨p, v1, v2, v3, rfl, e' _ _ hp, made_ex e' z1, ?_, made_ex e' z3⟩
    by_cases h : 3 ≤ xs.length
    · rw [if_pos h] at z2 ⊢; exact made_ex e' z2
    · rw [if_neg h] at z2 ⊢; exact z2
end
end K19
set_option Elab.async false
set_option linter.all false
set_option maxRecDepth 100000
set_option maxHeartbeats 4000000
namespace K19
open PySem L2 LW
abbrev nThree : List Str := ["_law_some", "_law_size", "_law_one_row", "_law_a", "_law_b", "_law_c", "_law_d", "_law_e", "_law_f", "_law_g"]
theorem scThree : FnScope nThree ["_law_some", "_law_size"] (defScope sThree) := ⟨rfl, rfl, rfl, by decide +kernel, rfl, by decide +kernel, by decide +kernel⟩
def AThree (K : PySem.W.Frag) : List Str × Nat → List V → Hp → Prop := fun x vs H => ∃ a, vs = [.ref a, .int (x.2 : Int)] ∧ SqL K H a (x.1.map V.str) ∧ 1 ≤ x.2 ∧ x.2 ≤ 7 ∧ x.2 ≤ x.1.length ∧ x.1.length ≤ 7 ∧ x.1.Nodup ∧ ∀ z ∈ x.1, Nm z
def RThree (C : Addr) : List Str × Nat → V → Hp → Prop := fun x => R3 C (x.1.take x.2)
theorem three1 {P : Program} {w : World} {K : PySem.W.Frag} {mg : Str → Option Value} {base : Heap} {ff C : Addr} {cdv : Value} {Ar : Around} {outer : List Env} {s : Shared} {H0 : Hp} {E : XK} {D : Ends} {H2 Hc2 : Hp} {q o : Addr} {a : Str} {r : List Str} (N : NetC P w K mg base C)
    (hr : Room 7 (fx P w K mg base nThree "_law_three" sThree ff cdv Ar outer s H0 E).A) (ex : Ex H2 Hc2) (hq : Pz H2 (fun H' => SqL K H' q ((a :: r).map V.str))) (ho : H2 o = some (.lst ([a].map V.str))) (n : Nds [a]) (rt : ∀ v Hn H3, Grow H2 Hc2 Hn H3 → Pz Hn (R3 C [a] v) → D.rt v H3) :
    wB (fx P w K mg base nThree "_law_three" sThree ff cdv Ar outer s H0 E) ((defBody sThree).drop 1) D [some (.ref q), some (.int 1), some (.ref o), none, none, none, none, none, none, none] Hc2 := by
  refine b_ifT ex (t_is (t_cmpD op_eq (by rfl) (e_var 1) e_int (r_eq (x := V.int 1) (y := V.int 1) rfl)) (by decide)) fun H20 Hc20 g20 => ?_
  exact b_ret (P := R3 C [a]) g20.s (e_three (e_path N hr (a_consD (e_item (j := 0) (e_var 0) e_int (hq.mono g20.k) rfl) a_nil) n) (Cm.imp e_non fun v _ _ z => z) (e_full N hr (a_consD (e_item (j := 0) (e_var 0) e_int (hq.mono g20.k) rfl) a_nil) n (by exact (by decide : 1 ≤ 8)))) fun v Hn H30 g30 p => rt v _ _ (g20.trans g30) p
theorem three2 {P : Program} {w : World} {K : PySem.W.Frag} {mg : Str → Option Value} {base : Heap} {ff C : Addr} {cdv : Value} {Ar : Around} {outer : List Env} {s : Shared} {H0 : Hp} {E : XK} {D : Ends} {H2 Hc2 : Hp} {q o : Addr} {a b : Str} {r : List Str} (N : NetC P w K mg base C)
    (hr : Room 7 (fx P w K mg base nThree "_law_three" sThree ff cdv Ar outer s H0 E).A) (ex : Ex H2 Hc2) (hq : Pz H2 (fun H' => SqL K H' q ((a :: b :: r).map V.str))) (ho : H2 o = some (.lst ([a, b].map V.str))) (n : Nds [a, b]) (rt : ∀ v Hn H3, Grow H2 Hc2 Hn H3 → Pz Hn (R3 C [a, b] v) → D.rt v H3) :
    wB (fx P w K mg base nThree "_law_three" sThree ff cdv Ar outer s H0 E) ((defBody sThree).drop 1) D [some (.ref q), some (.int 2), some (.ref o), none, none, none, none, none, none, none] Hc2 := by
  refine b_ifF ex (t_is (t_cmpD op_eq (by rfl) (e_var 1) e_int (r_eq (x := V.int 2) (y := V.int 1) rfl)) (by decide)) fun H3 Hc3 g3 => b_nil ?_
  refine b_ifT g3.s (t_is (t_cmpD op_eq (by rfl) (e_var 1) e_int (r_eq (x := V.int 2) (y := V.int 2) rfl)) (by decide)) fun H20 Hc20 g20 => ?_
  exact b_ret (P := R3 C [a, b]) g20.s (e_three (e_path N hr (a_consD (e_item (j := 0) (e_var 0) e_int (hq.mono (g3.trans g20).k) rfl) (a_consD (e_item (j := 1) (e_var 0) e_int (hq.mono (g3.trans g20).k) rfl) a_nil)) n) (Cm.imp e_non fun v _ _ z => z) (e_full N hr (a_consD (e_item (j := 0) (e_var 0) e_int (hq.mono (g3.trans g20).k) rfl) (a_consD (e_item (j := 1) (e_var 0) e_int (hq.mono (g3.trans g20).k) rfl) a_nil)) n (by exact (by decide : 2 ≤ 8)))) fun v Hn H30 g30 p => rt v _ _ ((g3.trans g20).trans g30) p
theorem three3 {P : Program} {w : World} {K : PySem.W.Frag} {mg : Str → Option Value} {base : Heap} {ff C : Addr} {cdv : Value} {Ar : Around} {outer : List Env} {s : Shared} {H0 : Hp} {E : XK} {D : Ends} {H2 Hc2 : Hp} {q o : Addr} {a b c : Str} {r : List Str} (N : NetC P w K mg base C)
    (hr : Room 7 (fx P w K mg base nThree "_law_three" sThree ff cdv Ar outer s H0 E).A) (ex : Ex H2 Hc2) (hq : Pz H2 (fun H' => SqL K H' q ((a :: b :: c :: r).map V.str))) (ho : H2 o = some (.lst ([a, b, c].map V.str))) (n : Nds [a, b, c]) (rt : ∀ v Hn H3, Grow H2 Hc2 Hn H3 → Pz Hn (R3 C [a, b, c] v) → D.rt v H3) :
    wB (fx P w K mg base nThree "_law_three" sThree ff cdv Ar outer s H0 E) ((defBody sThree).drop 1) D [some (.ref q), some (.int 3), some (.ref o), none, none, none, none, none, none, none] Hc2 := by
  refine b_ifF ex (t_is (t_cmpD op_eq (by rfl) (e_var 1) e_int (r_eq (x := V.int 3) (y := V.int 1) rfl)) (by decide)) fun H3 Hc3 g3 => b_nil ?_
  refine b_ifF g3.s (t_is (t_cmpD op_eq (by rfl) (e_var 1) e_int (r_eq (x := V.int 3) (y := V.int 2) rfl)) (by decide)) fun H4 Hc4 g4 => b_nil ?_
  refine b_ifT g4.s (t_is (t_cmpD op_eq (by rfl) (e_var 1) e_int (r_eq (x := V.int 3) (y := V.int 3) rfl)) (by decide)) fun H20 Hc20 g20 => ?_
  refine b_asg (g := gUnl K 3 (gCons (gName 3) (gCons (gName 4) (gCons (gName 5) gNil)))) (P := is (V.ref o)) g20.s (e_var 2) (pg_unl rfl (pgs_cons (pg_name (i := 3) scThree.nd rfl (.inl rfl)) (pgs_cons (pg_name (i := 4) scThree.nd rfl (.inl rfl)) (pgs_cons (pg_name (i := 5) scThree.nd rfl (.inl rfl)) pgs_nil)))) fun v H30 Hc30 g30 p30 => ?_
  obtain rfl : v = V.ref o := p30.now
  refine ⟨o, [a, b, c].map V.str, rfl, SqL.of (g30.s _ _ ((((g3.trans g4).trans g20).trans g30).k _ _ ho)), rfl, _, _, rfl, _, _, rfl, _, _, rfl, rfl, ?_⟩
  exact b_ret (P := R3 C [a, b, c]) g30.s (e_three (e_path N hr (a_consD (e_var 3) (a_consD (e_var 4) (a_consD (e_var 5) a_nil))) n) (Cm.imp (e_ring N hr (a_consD (e_var 3) (a_consD (e_var 4) (a_consD (e_var 5) a_nil))) n (by exact (by decide : 3 ≤ 3)) (by exact (by decide : 3 ≤ 50))) fun v _ _ z => z) (e_full N hr (a_consD (e_var 3) (a_consD (e_var 4) (a_consD (e_var 5) a_nil))) n (by exact (by decide : 3 ≤ 8)))) fun v Hn H31 g31 p => rt v _ _ ((((g3.trans g4).trans g20).trans g30).trans g31) p
theorem three4 {P : Program} {w : World} {K : PySem.W.Frag} {mg : Str → Option Value} {base : Heap} {ff C : Addr} {cdv : Value} {Ar : Around} {outer : List Env} {s : Shared} {H0 : Hp} {E : XK} {D : Ends} {H2 Hc2 : Hp} {q o : Addr} {a b c d : Str} {r : List Str} (N : NetC P w K mg base C)
    (hr : Room 7 (fx P w K mg base nThree "_law_three" sThree ff cdv Ar outer s H0 E).A) (ex : Ex H2 Hc2) (hq : Pz H2 (fun H' => SqL K H' q ((a :: b :: c :: d :: r).map V.str))) (ho : H2 o = some (.lst ([a, b, c, d].map V.str))) (n : Nds [a, b, c, d]) (rt : ∀ v Hn H3, Grow H2 Hc2 Hn H3 → Pz Hn (R3 C [a, b, c, d] v) → D.rt v H3) :
    wB (fx P w K mg base nThree "_law_three" sThree ff cdv Ar outer s H0 E) ((defBody sThree).drop 1) D [some (.ref q), some (.int 4), some (.ref o), none, none, none, none, none, none, none] Hc2 := by
  refine b_ifF ex (t_is (t_cmpD op_eq (by rfl) (e_var 1) e_int (r_eq (x := V.int 4) (y := V.int 1) rfl)) (by decide)) fun H3 Hc3 g3 => b_nil ?_
  refine b_ifF g3.s (t_is (t_cmpD op_eq (by rfl) (e_var 1) e_int (r_eq (x := V.int 4) (y := V.int 2) rfl)) (by decide)) fun H4 Hc4 g4 => b_nil ?_
  refine b_ifF g4.s (t_is (t_cmpD op_eq (by rfl) (e_var 1) e_int (r_eq (x := V.int 4) (y := V.int 3) rfl)) (by decide)) fun H5 Hc5 g5 => b_nil ?_
  refine b_ifT g5.s (t_is (t_cmpD op_eq (by rfl) (e_var 1) e_int (r_eq (x := V.int 4) (y := V.int 4) rfl)) (by decide)) fun H20 Hc20 g20 => ?_
  refine b_asg (g := gUnl K 4 (gCons (gName 3) (gCons (gName 4) (gCons (gName 5) (gCons (gName 6) gNil))))) (P := is (V.ref o)) g20.s (e_var 2) (pg_unl rfl (pgs_cons (pg_name (i := 3) scThree.nd rfl (.inl rfl)) (pgs_cons (pg_name (i := 4) scThree.nd rfl (.inl rfl)) (pgs_cons (pg_name (i := 5) scThree.nd rfl (.inl rfl)) (pgs_cons (pg_name (i := 6) scThree.nd rfl (.inl rfl)) pgs_nil))))) fun v H30 Hc30 g30 p30 => ?_
  obtain rfl : v = V.ref o := p30.now
  refine ⟨o, [a, b, c, d].map V.str, rfl, SqL.of (g30.s _ _ (((((g3.trans g4).trans g5).trans g20).trans g30).k _ _ ho)), rfl, _, _, rfl, _, _, rfl, _, _, rfl, _, _, rfl, rfl, ?_⟩
  exact b_ret (P := R3 C [a, b, c, d]) g30.s (e_three (e_path N hr (a_consD (e_var 3) (a_consD (e_var 4) (a_consD (e_var 5) (a_consD (e_var 6) a_nil)))) n) (Cm.imp (e_ring N hr (a_consD (e_var 3) (a_consD (e_var 4) (a_consD (e_var 5) (a_consD (e_var 6) a_nil)))) n (by exact (by decide : 3 ≤ 4)) (by exact (by decide : 4 ≤ 50))) fun v _ _ z => z) (e_full N hr (a_consD (e_var 3) (a_consD (e_var 4) (a_consD (e_var 5) (a_consD (e_var 6) a_nil)))) n (by exact (by decide : 4 ≤ 8)))) fun v Hn H31 g31 p => rt v _ _ (((((g3.trans g4).trans g5).trans g20).trans g30).trans g31) p
theorem three5 {P : Program} {w : World} {K : PySem.W.Frag} {mg : Str → Option Value} {base : Heap} {ff C : Addr} {cdv : Value} {Ar : Around} {outer : List Env} {s : Shared} {H0 : Hp} {E : XK} {D : Ends} {H2 Hc2 : Hp} {q o : Addr} {a b c d e : Str} {r : List Str} (N : NetC P w K mg base C)
    (hr : Room 7 (fx P w K mg base nThree "_law_three" sThree ff cdv Ar outer s H0 E).A) (ex : Ex H2 Hc2) (hq : Pz H2 (fun H' => SqL K H' q ((a :: b :: c :: d :: e :: r).map V.str))) (ho : H2 o = some (.lst ([a, b, c, d, e].map V.str))) (n : Nds [a, b, c, d, e]) (rt : ∀ v Hn H3, Grow H2 Hc2 Hn H3 → Pz Hn (R3 C [a, b, c, d, e] v) → D.rt v H3) :
    wB (fx P w K mg base nThree "_law_three" sThree ff cdv Ar outer s H0 E) ((defBody sThree).drop 1) D [some (.ref q), some (.int 5), some (.ref o), none, none, none, none, none, none, none] Hc2 := by
  refine b_ifF ex (t_is (t_cmpD op_eq (by rfl) (e_var 1) e_int (r_eq (x := V.int 5) (y := V.int 1) rfl)) (by decide)) fun H3 Hc3 g3 => b_nil ?_
  refine b_ifF g3.s (t_is (t_cmpD op_eq (by rfl) (e_var 1) e_int (r_eq (x := V.int 5) (y := V.int 2) rfl)) (by decide)) fun H4 Hc4 g4 => b_nil ?_
  refine b_ifF g4.s (t_is (t_cmpD op_eq (by rfl) (e_var 1) e_int (r_eq (x := V.int 5) (y := V.int 3) rfl)) (by decide)) fun H5 Hc5 g5 => b_nil ?_
  refine b_ifF g5.s (t_is (t_cmpD op_eq (by rfl) (e_var 1) e_int (r_eq (x := V.int 5) (y := V.int 4) rfl)) (by decide)) fun H6 Hc6 g6 => b_nil ?_
  refine b_ifT g6.s (t_is (t_cmpD op_eq (by rfl) (e_var 1) e_int (r_eq (x := V.int 5) (y := V.int 5) rfl)) (by decide)) fun H20 Hc20 g20 => ?_
  refine b_asg (g := gUnl K 5 (gCons (gName 3) (gCons (gName 4) (gCons (gName 5) (gCons (gName 6) (gCons (gName 7) gNil)))))) (P := is (V.ref o)) g20.s (e_var 2) (pg_unl rfl (pgs_cons (pg_name (i := 3) scThree.nd rfl (.inl rfl)) (pgs_cons (pg_name (i := 4) scThree.nd rfl (.inl rfl)) (pgs_cons (pg_name (i := 5) scThree.nd rfl (.inl rfl)) (pgs_cons (pg_name (i := 6) scThree.nd rfl (.inl rfl)) (pgs_cons (pg_name (i := 7) scThree.nd rfl (.inl rfl)) pgs_nil)))))) fun v H30 Hc30 g30 p30 => ?_
  obtain rfl : v = V.ref o := p30.now
  refine ⟨o, [a, b, c, d, e].map V.str, rfl, SqL.of (g30.s _ _ ((((((g3.trans g4).trans g5).trans g6).trans g20).trans g30).k _ _ ho)), rfl, _, _, rfl, _, _, rfl, _, _, rfl, _, _, rfl, _, _, rfl, rfl, ?_⟩
  exact b_ret (P := R3 C [a, b, c, d, e]) g30.s (e_three (e_path N hr (a_consD (e_var 3) (a_consD (e_var 4) (a_consD (e_var 5) (a_consD (e_var 6) (a_consD (e_var 7) a_nil))))) n) (Cm.imp (e_ring N hr (a_consD (e_var 3) (a_consD (e_var 4) (a_consD (e_var 5) (a_consD (e_var 6) (a_consD (e_var 7) a_nil))))) n (by exact (by decide : 3 ≤ 5)) (by exact (by decide : 5 ≤ 50))) fun v _ _ z => z) (e_full N hr (a_consD (e_var 3) (a_consD (e_var 4) (a_consD (e_var 5) (a_consD (e_var 6) (a_consD (e_var 7) a_nil))))) n (by exact (by decide : 5 ≤ 8)))) fun v Hn H31 g31 p => rt v _ _ ((((((g3.trans g4).trans g5).trans g6).trans g20).trans g30).trans g31) p
theorem three6 {P : Program} {w : World} {K : PySem.W.Frag} {mg : Str → Option Value} {base : Heap} {ff C : Addr} {cdv : Value} {Ar : Around} {outer : List Env} {s : Shared} {H0 : Hp} {E : XK} {D : Ends} {H2 Hc2 : Hp} {q o : Addr} {a b c d e f : Str} {r : List Str} (N : NetC P w K mg base C)
    (hr : Room 7 (fx P w K mg base nThree "_law_three" sThree ff cdv Ar outer s H0 E).A) (ex : Ex H2 Hc2) (hq : Pz H2 (fun H' => SqL K H' q ((a :: b :: c :: d :: e :: f :: r).map V.str))) (ho : H2 o = some (.lst ([a, b, c, d, e, f].map V.str))) (n : Nds [a, b, c, d, e, f]) (rt : ∀ v Hn H3, Grow H2 Hc2 Hn H3 → Pz Hn (R3 C [a, b, c, d, e, f] v) → D.rt v H3) :
    wB (fx P w K mg base nThree "_law_three" sThree ff cdv Ar outer s H0 E) ((defBody sThree).drop 1) D [some (.ref q), some (.int 6), some (.ref o), none, none, none, none, none, none, none] Hc2 := by
  refine b_ifF ex (t_is (t_cmpD op_eq (by rfl) (e_var 1) e_int (r_eq (x := V.int 6) (y := V.int 1) rfl)) (by decide)) fun H3 Hc3 g3 => b_nil ?_
  refine b_ifF g3.s (t_is (t_cmpD op_eq (by rfl) (e_var 1) e_int (r_eq (x := V.int 6) (y := V.int 2) rfl)) (by decide)) fun H4 Hc4 g4 => b_nil ?_
  refine b_ifF g4.s (t_is (t_cmpD op_eq (by rfl) (e_var 1) e_int (r_eq (x := V.int 6) (y := V.int 3) rfl)) (by decide)) fun H5 Hc5 g5 => b_nil ?_
  refine b_ifF g5.s (t_is (t_cmpD op_eq (by rfl) (e_var 1) e_int (r_eq (x := V.int 6) (y := V.int 4) rfl)) (by decide)) fun H6 Hc6 g6 => b_nil ?_
  refine b_ifF g6.s (t_is (t_cmpD op_eq (by rfl) (e_var 1) e_int (r_eq (x := V.int 6) (y := V.int 5) rfl)) (by decide)) fun H7 Hc7 g7 => b_nil ?_
  refine b_ifT g7.s (t_is (t_cmpD op_eq (by rfl) (e_var 1) e_int (r_eq (x := V.int 6) (y := V.int 6) rfl)) (by decide)) fun H20 Hc20 g20 => ?_
  refine b_asg (g := gUnl K 6 (gCons (gName 3) (gCons (gName 4) (gCons (gName 5) (gCons (gName 6) (gCons (gName 7) (gCons (gName 8) gNil))))))) (P := is (V.ref o)) g20.s (e_var 2) (pg_unl rfl (pgs_cons (pg_name (i := 3) scThree.nd rfl (.inl rfl)) (pgs_cons (pg_name (i := 4) scThree.nd rfl (.inl rfl)) (pgs_cons (pg_name (i := 5) scThree.nd rfl (.inl rfl)) (pgs_cons (pg_name (i := 6) scThree.nd rfl (.inl rfl)) (pgs_cons (pg_name (i := 7) scThree.nd rfl (.inl rfl)) (pgs_cons (pg_name (i := 8) scThree.nd rfl (.inl rfl)) pgs_nil))))))) fun v H30 Hc30 g30 p30 => ?_
  obtain rfl : v = V.ref o := p30.now
  refine ⟨o, [a, b, c, d, e, f].map V.str, rfl, SqL.of (g30.s _ _ (((((((g3.trans g4).trans g5).trans g6).trans g7).trans g20).trans g30).k _ _ ho)), rfl, _, _, rfl, _, _, rfl, _, _, rfl, _, _, rfl, _, _, rfl, _, _, rfl, rfl, ?_⟩
  exact b_ret (P := R3 C [a, b, c, d, e, f]) g30.s (e_three (e_path N hr (a_consD (e_var 3) (a_consD (e_var 4) (a_consD (e_var 5) (a_consD (e_var 6) (a_consD (e_var 7) (a_consD (e_var 8) a_nil)))))) n) (Cm.imp (e_ring N hr (a_consD (e_var 3) (a_consD (e_var 4) (a_consD (e_var 5) (a_consD (e_var 6) (a_consD (e_var 7) (a_consD (e_var 8) a_nil)))))) n (by exact (by decide : 3 ≤ 6)) (by exact (by decide : 6 ≤ 50))) fun v _ _ z => z) (e_full N hr (a_consD (e_var 3) (a_consD (e_var 4) (a_consD (e_var 5) (a_consD (e_var 6) (a_consD (e_var 7) (a_consD (e_var 8) a_nil)))))) n (by exact (by decide : 6 ≤ 8)))) fun v Hn H31 g31 p => rt v _ _ (((((((g3.trans g4).trans g5).trans g6).trans g7).trans g20).trans g30).trans g31) p
theorem three7 {P : Program} {w : World} {K : PySem.W.Frag} {mg : Str → Option Value} {base : Heap} {ff C : Addr} {cdv : Value} {Ar : Around} {outer : List Env} {s : Shared} {H0 : Hp} {E : XK} {D : Ends} {H2 Hc2 : Hp} {q o : Addr} {a b c d e f g : Str} {r : List Str} (N : NetC P w K mg base C)
    (hr : Room 7 (fx P w K mg base nThree "_law_three" sThree ff cdv Ar outer s H0 E).A) (ex : Ex H2 Hc2) (hq : Pz H2 (fun H' => SqL K H' q ((a :: b :: c :: d :: e :: f :: g :: r).map V.str))) (ho : H2 o = some (.lst ([a, b, c, d, e, f, g].map V.str))) (n : Nds [a, b, c, d, e, f, g]) (rt : ∀ v Hn H3, Grow H2 Hc2 Hn H3 → Pz Hn (R3 C [a, b, c, d, e, f, g] v) → D.rt v H3) :
    wB (fx P w K mg base nThree "_law_three" sThree ff cdv Ar outer s H0 E) ((defBody sThree).drop 1) D [some (.ref q), some (.int 7), some (.ref o), none, none, none, none, none, none, none] Hc2 := by
  refine b_ifF ex (t_is (t_cmpD op_eq (by rfl) (e_var 1) e_int (r_eq (x := V.int 7) (y := V.int 1) rfl)) (by decide)) fun H3 Hc3 g3 => b_nil ?_
  refine b_ifF g3.s (t_is (t_cmpD op_eq (by rfl) (e_var 1) e_int (r_eq (x := V.int 7) (y := V.int 2) rfl)) (by decide)) fun H4 Hc4 g4 => b_nil ?_
  refine b_ifF g4.s (t_is (t_cmpD op_eq (by rfl) (e_var 1) e_int (r_eq (x := V.int 7) (y := V.int 3) rfl)) (by decide)) fun H5 Hc5 g5 => b_nil ?_
  refine b_ifF g5.s (t_is (t_cmpD op_eq (by rfl) (e_var 1) e_int (r_eq (x := V.int 7) (y := V.int 4) rfl)) (by decide)) fun H6 Hc6 g6 => b_nil ?_
  refine b_ifF g6.s (t_is (t_cmpD op_eq (by rfl) (e_var 1) e_int (r_eq (x := V.int 7) (y := V.int 5) rfl)) (by decide)) fun H7 Hc7 g7 => b_nil ?_
  refine b_ifF g7.s (t_is (t_cmpD op_eq (by rfl) (e_var 1) e_int (r_eq (x := V.int 7) (y := V.int 6) rfl)) (by decide)) fun H8 Hc8 g8 => b_nil ?_
  refine b_asg (g := gUnl K 7 (gCons (gName 3) (gCons (gName 4) (gCons (gName 5) (gCons (gName 6) (gCons (gName 7) (gCons (gName 8) (gCons (gName 9) gNil)))))))) (P := is (V.ref o)) g8.s (e_var 2) (pg_unl rfl (pgs_cons (pg_name (i := 3) scThree.nd rfl (.inl rfl)) (pgs_cons (pg_name (i := 4) scThree.nd rfl (.inl rfl)) (pgs_cons (pg_name (i := 5) scThree.nd rfl (.inl rfl)) (pgs_cons (pg_name (i := 6) scThree.nd rfl (.inl rfl)) (pgs_cons (pg_name (i := 7) scThree.nd rfl (.inl rfl)) (pgs_cons (pg_name (i := 8) scThree.nd rfl (.inl rfl)) (pgs_cons (pg_name (i := 9) scThree.nd rfl (.inl rfl)) pgs_nil)))))))) fun v H30 Hc30 g30 p30 => ?_
  obtain rfl : v = V.ref o := p30.now
  refine ⟨o, [a, b, c, d, e, f, g].map V.str, rfl, SqL.of (g30.s _ _ (((((((g3.trans g4).trans g5).trans g6).trans g7).trans g8).trans g30).k _ _ ho)), rfl, _, _, rfl, _, _, rfl, _, _, rfl, _, _, rfl, _, _, rfl, _, _, rfl, _, _, rfl, rfl, ?_⟩
  exact b_ret (P := R3 C [a, b, c, d, e, f, g]) g30.s (e_three (e_path N hr (a_consD (e_var 3) (a_consD (e_var 4) (a_consD (e_var 5) (a_consD (e_var 6) (a_consD (e_var 7) (a_consD (e_var 8) (a_consD (e_var 9) a_nil))))))) n) (Cm.imp (e_ring N hr (a_consD (e_var 3) (a_consD (e_var 4) (a_consD (e_var 5) (a_consD (e_var 6) (a_consD (e_var 7) (a_consD (e_var 8) (a_consD (e_var 9) a_nil))))))) n (by exact (by decide : 3 ≤ 7)) (by exact (by decide : 7 ≤ 50))) fun v _ _ z => z) (e_full N hr (a_consD (e_var 3) (a_consD (e_var 4) (a_consD (e_var 5) (a_consD (e_var 6) (a_consD (e_var 7) (a_consD (e_var 8) (a_consD (e_var 9) a_nil))))))) n (by exact (by decide : 7 ≤ 8)))) fun v Hn H31 g31 p => rt v _ _ (((((((g3.trans g4).trans g5).trans g6).trans g7).trans g8).trans g30).trans g31) p
end K19
set_option Elab.async false
set_option linter.all false
set_option maxRecDepth 100000
set_option maxHeartbeats 1000000
namespace K19
open PySem L2 LW
theorem len1 {u : List Str} (h : u.length = 1) : ∃ xa, u = [xa] := by
  match u, h with
  | [xa], _ => exact ⟨xa, rfl⟩
theorem len2 {u : List Str} (h : u.length = 2) : ∃ xa xb, u = [xa, xb] := by
  match u, h with
  | [xa, xb], _ => exact ⟨xa, xb, rfl⟩
theorem len3 {u : List Str} (h : u.length = 3) : ∃ xa xb xc, u = [xa, xb, xc] := by
  match u, h with
  | [xa, xb, xc], _ => exact ⟨xa, xb, xc, rfl⟩
theorem len4 {u : List Str} (h : u.length = 4) : ∃ xa xb xc xd, u = [xa, xb, xc, xd] := by
  match u, h with
  | [xa, xb, xc, xd], _ => exact ⟨xa, xb, xc, xd, rfl⟩
theorem len5 {u : List Str} (h : u.length = 5) : ∃ xa xb xc xd xe, u = [xa, xb, xc, xd, xe] := by
  match u, h with
  | [xa, xb, xc, xd, xe], _ => exact ⟨xa, xb, xc, xd, xe, rfl⟩
theorem len6 {u : List Str} (h : u.length = 6) : ∃ xa xb xc xd xe xf, u = [xa, xb, xc, xd, xe, xf] := by
  match u, h with
  | [xa, xb, xc, xd, xe, xf], _ => exact ⟨xa, xb, xc, xd, xe, xf, rfl⟩
theorem len7 {u : List Str} (h : u.length = 7) : ∃ xa xb xc xd xe xf xg, u = [xa, xb, xc, xd, xe, xf, xg] := by
  match u, h with
  | [xa, xb, xc, xd, xe, xf, xg], _ => exact ⟨xa, xb, xc, xd, xe, xf, xg, rfl⟩
section
variable {P : Program} {w : World} {K : PySem.W.Frag} {mg : Str → Option Value} {base : Heap} {f C : Addr} {fd : FuncData}
theorem b_three (N : NetC P w K mg base C) : Body P w K mg base nThree "_law_three" sThree f 7 (AThree K) (RThree C) := by
  intro cdv Ar outer s H0 E x vs H Hc D hr ex pa rt nx
  obtain ⟨ns, n⟩ := x
  obtain ⟨a, rfl, h1, n1, n7, nl, l7, nd, nm⟩ := pa.now
  have h1 : SqL K H a (ns.map V.str) := h1
  have n1 : 1 ≤ n := n1
  have n7 : n ≤ 7 := n7
  have nl : n ≤ ns.length := nl
  have l7 : ns.length ≤ 7 := l7
  have nd : ns.Nodup := nd
  have nm : ∀ z ∈ ns, Nm z := nm
  have nds : Nds (ns.take n) := ⟨by rw [List.length_take]; omega, fun e => by have z := congrArg List.length e; rw [List.length_take, List.length_nil] at z; omega, nd.sublist (List.take_sublist _ _), fun z hz => nm z (List.mem_of_mem_take hz)⟩
  refine b_set 2 ex (e_slTo (xs := ns.map V.str) (n := n) (e_var (v := V.ref a) 0) (e_var 1) (.sql h1) (by rw [List.length_map]; exact nl)) (fun v H2 Hc2 g2 p2 => ?_) scThree.nd
  obtain ⟨o, rfl, ho⟩ := p2.now
  rw [← List.map_take] at ho
  have hq : Pz H2 (fun H' => SqL K H' a (ns.map V.str)) := (Pz.sql h1).mono g2.k
  have rt' : ∀ v Hn H3, Grow H2 Hc2 Hn H3 → Pz Hn (R3 C (ns.take n) v) → D.rt v H3 := fun v Hn H3 g p => rt v _ _ (g2.trans g) p
  clear rt nx pa p2 h1
  have lst : ∀ (k : Nat), k ≤ ns.length → ∃ u r, ns = u ++ r ∧ u.length = k := fun k hk => ⟨ns.take k, ns.drop k, (List.take_append_drop k ns).symm, by rw [List.length_take]; omega⟩
  rcases (by omega : n = 1 ∨ n = 2 ∨ n = 3 ∨ n = 4 ∨ n = 5 ∨ n = 6 ∨ n = 7) with rfl | rfl | rfl | rfl | rfl | rfl | rfl
  · obtain ⟨u, r, rfl, hu⟩ := lst 1 nl
    obtain ⟨xa, rfl⟩ := len1 hu
    exact three1 N hr g2.s hq ho nds rt'
  · obtain ⟨u, r, rfl, hu⟩ := lst 2 nl
    obtain ⟨xa, xb, rfl⟩ := len2 hu
    exact three2 N hr g2.s hq ho nds rt'
  · obtain ⟨u, r, rfl, hu⟩ := lst 3 nl
    obtain ⟨xa, xb, xc, rfl⟩ := len3 hu
    exact three3 N hr g2.s hq ho nds rt'
  · obtain ⟨u, r, rfl, hu⟩ := lst 4 nl
    obtain ⟨xa, xb, xc, xd, rfl⟩ := len4 hu
    exact three4 N hr g2.s hq ho nds rt'
  · obtain ⟨u, r, rfl, hu⟩ := lst 5 nl
    obtain ⟨xa, xb, xc, xd, xe, rfl⟩ := len5 hu
    exact three5 N hr g2.s hq ho nds rt'
  · obtain ⟨u, r, rfl, hu⟩ := lst 6 nl
    obtain ⟨xa, xb, xc, xd, xe, xf, rfl⟩ := len6 hu
    exact three6 N hr g2.s hq ho nds rt'
  · obtain ⟨u, r, rfl, hu⟩ := lst 7 nl
    obtain ⟨xa, xb, xc, xd, xe, xf, xg, rfl⟩ := len7 hu
    exact three7 N hr g2.s hq ho nds rt'
end
end K19
set_option Elab.async false
set_option linter.all false
set_option maxRecDepth 100000
set_option maxHeartbeats 2000000
/-! plain mathematics of paths, rings, full nets -/
namespace K19
open PySem L2 LW
theorem along_mem {xs : List Str} {p : Str × Str} : p ∈ (along xs).map lk ↔ ∃ i x y, xs[i]? = some x ∧ xs[i + 1]? = some y ∧ p = lnk x y := by
  constructor
  · intro h
    obtain ⟨q, hq, rfl⟩ := List.mem_map.mp h
    obtain ⟨i, hi⟩ := List.getElem?_of_mem hq
    obtain ⟨a, b⟩ := along_at hi
    exact ⟨i, _, _, a, b, rfl⟩
  · rintro ⟨i, x, y, hx, hy, rfl⟩
    have l := (List.getElem?_eq_some_iff.mp hy).1
    obtain ⟨x', y', a, b, c⟩ := along_get (xs := xs) (i := i) (by omega)
    rw [hx] at a; rw [hy] at b
    cases a; cases b
    exact List.mem_map.mpr ⟨_, List.mem_of_getElem? c, rfl⟩
theorem rev_at {xs : List Str} {i : Nat} {x : Str} (h : xs.reverse[i]? = some x) : i < xs.length ∧ xs[xs.length - 1 - i]? = some x := by
  have l := (List.getElem?_eq_some_iff.mp h).1
  rw [List.length_reverse] at l
  rw [List.getElem?_reverse l] at h
  exact ⟨l, h⟩
theorem along_rev {xs : List Str} {p : Str × Str} (h : p ∈ (along xs.reverse).map lk) : p ∈ (along xs).map lk := by
  obtain ⟨i, x, y, hx, hy, rfl⟩ := along_mem.mp h
  obtain ⟨l1, h1⟩ := rev_at hx
  obtain ⟨l2, h2⟩ := rev_at hy
  refine along_mem.mpr ⟨xs.length - 1 - (i + 1), y, x, h2, ?_, lnk_comm x y⟩
  rw [show xs.length - 1 - (i + 1) + 1 = xs.length - 1 - i by omega]
  exact h1
theorem along_rev_iff {xs : List Str} {p : Str × Str} : p ∈ (along xs.reverse).map lk ↔ p ∈ (along xs).map lk :=
  ⟨along_rev, fun h => along_rev (by rw [List.reverse_reverse]; exact h)⟩
/-- the links of a ring, by places around -/
theorem around_mem {xs : List Str} (h3 : 3 ≤ xs.length) {p : Str × Str} : p ∈ (around xs).map lk ↔ ∃ i x y, xs[i]? = some x ∧ xs[(i + 1) % xs.length]? = some y ∧ p = lnk x y := by
  obtain ⟨z, a, hz, ha, e⟩ := around_of h3
  rw [e, List.map_append, List.mem_append, along_mem]
  constructor
  · rintro (⟨i, x, y, hx, hy, rfl⟩ | h)
    · have l := (List.getElem?_eq_some_iff.mp hy).1
      exact ⟨i, x, y, hx, by rw [Nat.mod_eq_of_lt l]; exact hy, rfl⟩
    · have h := List.mem_singleton.mp h
      refine ⟨xs.length - 1, z, a, hz, ?_, h⟩
      rw [show xs.length - 1 + 1 = xs.length by omega, Nat.mod_self]
      exact ha
  · rintro ⟨i, x, y, hx, hy, rfl⟩
    have l := (List.getElem?_eq_some_iff.mp hx).1
    by_cases q : i + 1 < xs.length
    · rw [Nat.mod_eq_of_lt q] at hy
      exact .inl ⟨i, x, y, hx, hy, rfl⟩
    · have ei : i = xs.length - 1 := by omega
      subst ei
      rw [show xs.length - 1 + 1 = xs.length by omega, Nat.mod_self] at hy
      rw [hz] at hx
      rw [ha] at hy
      cases hx; cases hy
      exact .inr (List.mem_singleton.mpr rfl)
theorem around_rev {xs : List Str} (h3 : 3 ≤ xs.length) {p : Str × Str} (h : p ∈ (around xs.reverse).map lk) : p ∈ (around xs).map lk := by
  obtain ⟨i, x, y, hx, hy, rfl⟩ := (around_mem (by rw [List.length_reverse]; exact h3)).mp h
  rw [List.length_reverse] at hy
  obtain ⟨l1, h1⟩ := rev_at hx
  obtain ⟨l2, h2⟩ := rev_at hy
  refine (around_mem h3).mpr ⟨xs.length - 1 - (i + 1) % xs.length, y, x, h2, ?_, lnk_comm x y⟩
  by_cases q : i + 1 < xs.length
  · rw [Nat.mod_eq_of_lt q, show xs.length - 1 - (i + 1) + 1 = xs.length - 1 - i by omega, Nat.mod_eq_of_lt (by omega)]
    exact h1
  · have ei : i = xs.length - 1 := by omega
    subst ei
    rw [show xs.length - 1 + 1 = xs.length by omega, Nat.mod_self, Nat.sub_zero, show xs.length - 1 + 1 = xs.length by omega, Nat.mod_self]
    rw [Nat.sub_self] at h1
    exact h1
/-- begun elsewhere -/
theorem turn_at {xs : List Str} {k i : Nat} (hk : k < xs.length) (hi : i < xs.length) : (xs.drop k ++ xs.take k)[i]? = xs[(i + k) % xs.length]? := by
  by_cases q : i < xs.length - k
  · rw [List.getElem?_append_left (by rw [List.length_drop]; exact q), List.getElem?_drop, Nat.mod_eq_of_lt (by omega), Nat.add_comm]
  · rw [List.getElem?_append_right (by rw [List.length_drop]; omega), List.length_drop, List.getElem?_take_of_lt (by omega)]
    congr 1
    rw [Nat.mod_eq_sub_mod (by omega), Nat.mod_eq_of_lt (by omega)]
    omega
theorem around_turn {xs : List Str} (h3 : 3 ≤ xs.length) {k : Nat} (hk : k < xs.length) {p : Str × Str} (h : p ∈ (around (xs.drop k ++ xs.take k)).map lk) : p ∈ (around xs).map lk := by
  have len : (xs.drop k ++ xs.take k).length = xs.length := by rw [List.length_append, List.length_drop, List.length_take]; omega
  obtain ⟨i, x, y, hx, hy, rfl⟩ := (around_mem (by omega)).mp h
  have li := (List.getElem?_eq_some_iff.mp hx).1
  rw [len] at hy li
  rw [turn_at hk li] at hx
  rw [turn_at hk (Nat.mod_lt _ (by omega))] at hy
  refine (around_mem h3).mpr ⟨(i + k) % xs.length, x, y, hx, ?_, rfl⟩
  rw [← hy]
  congr 1
  rw [Nat.mod_add_mod, Nat.mod_add_mod]
  congr 1
  omega
/-- nodup lists of the same members -/
theorem perm_mem {α : Type} [DecidableEq α] {l r : List α} (a : l.Nodup) (b : r.Nodup) (h : ∀ x, x ∈ l ↔ x ∈ r) : l.Perm r := (List.perm_ext_iff_of_nodup a b).mpr h
end K19
set_option Elab.async false
set_option linter.all false
set_option maxRecDepth 100000
set_option maxHeartbeats 2000000
namespace K19
open PySem L2 LW
/-- a ring less the link between its last node and its first one is the path -/
theorem around_without {xs : List Str} (N : Nds xs) (h3 : 3 ≤ xs.length) {z a : Str} (hz : xs[xs.length - 1]? = some z) (ha : xs[0]? = some a) {ls : List (Str × Str)} (hl : ls.Perm ((around xs).map lk)) : (without ls (lk (a, z))).Perm ((along xs).map lk) := by
  obtain ⟨k1, k2⟩ := around_lks N h3
  obtain ⟨m1, m2⟩ := along_lks N
  obtain ⟨z', a', hz', ha', e⟩ := around_of h3
  rw [hz] at hz'
  rw [ha] at ha'
  cases hz'
  cases ha'
  have el : lk (a, z) = lk (z, a) := lnk_comm a z
  have em : (around xs).map lk = (along xs).map lk ++ [lk (z, a)] := by rw [e, List.map_append] <;> rfl
  have out : lk (z, a) ∉ (along xs).map lk := fun m => by
    rw [em] at k2
    exact (List.nodup_append.mp k2).2.2 _ m _ (List.mem_singleton_self _) rfl
  refine (List.perm_ext_iff_of_nodup ((hl.nodup_iff.mpr k2).sublist List.filter_sublist) m2).mpr fun p => ?_
  rw [List.mem_filter, hl.mem_iff, em, el, List.mem_append, List.mem_singleton]
  constructor
  · rintro ⟨m | m, h⟩
    · exact m
    · rw [m] at h; simp at h
  · intro m
    exact ⟨.inl m, by simpa using fun e : p = lk (z, a) => out (e ▸ m)⟩
/-- a row whose third node has gone, the second one renamed: the ring of it is the ring drawn together -/
theorem around_drawn {xs : List Str} (N : Nds xs) (h4 : 4 ≤ xs.length) {x1 x2 k g : Str} (e1 : xs[1]? = some x1) (e2 : xs[2]? = some x2) (hk : (k = x1 ∧ g = x2) ∨ (k = x2 ∧ g = x1)) {p : Str × Str} :
    (∃ q ∈ (around xs).map lk, fr k g q.1 ≠ fr k g q.2 ∧ p = lnk (fr k g q.1) (fr k g q.2)) ↔ p ∈ (around ((xs.eraseIdx 2).map (fr k g))).map lk := by
  have len : ((xs.eraseIdx 2).map (fr k g)).length = xs.length - 1 := by rw [List.length_map, List.length_eraseIdx_of_lt (by omega)]
  have ne12 : x1 ≠ x2 := fun e => by rw [e] at e1; have := nd_at N.nd e1 e2; omega
  have f1 : fr k g x1 = k := by
    unfold fr
    rcases hk with ⟨a, b⟩ | ⟨a, b⟩
    · rw [if_neg (by rw [b]; exact ne12)]; exact a.symm
    · rw [if_pos b.symm]
  have f2 : fr k g x2 = k := by
    unfold fr
    rcases hk with ⟨a, b⟩ | ⟨a, b⟩
    · rw [if_pos b.symm]
    · rw [if_neg (by rw [b]; exact ne12.symm)]; exact a.symm
  have fo : ∀ {i : Nat} {y : Str}, xs[i]? = some y → i ≠ 1 → i ≠ 2 → fr k g y = y ∧ y ≠ k := fun {i y} hy n1 n2 => by
    have a : y ≠ x1 := fun e => by rw [e] at hy; exact n1 (nd_at N.nd hy e1)
    have b : y ≠ x2 := fun e => by rw [e] at hy; exact n2 (nd_at N.nd hy e2)
    unfold fr
    rcases hk with ⟨c, d⟩ | ⟨c, d⟩
    · exact ⟨if_neg (by rw [d]; exact b), by rw [c]; exact a⟩
    · exact ⟨if_neg (by rw [d]; exact a), by rw [c]; exact b⟩
  -- places of the shorter row
  have at_ : ∀ i, ((xs.eraseIdx 2).map (fr k g))[i]? = (xs[if i < 2 then i else i + 1]?).map (fr k g) := fun i => by
    rw [List.getElem?_map, List.getElem?_eraseIdx]
    split <;> rfl
  have sym : ∀ x y, lnk (fr k g (lnk x y).1) (fr k g (lnk x y).2) = lnk (fr k g x) (fr k g y) := fun x y => by
    rcases lnk_cases x y with e | e <;> rw [e]
    exact lnk_comm _ _
  have dif : ∀ x y, (fr k g (lnk x y).1 ≠ fr k g (lnk x y).2) ↔ fr k g x ≠ fr k g y := fun x y => by
    rcases lnk_cases x y with e | e <;> rw [e]
    exact ne_comm
  -- one link of the ring, by the place i
  have apart : ∀ {i : Nat} {x y : Str}, xs[i]? = some x → xs[(i + 1) % xs.length]? = some y → i ≠ 1 → fr k g x ≠ fr k g y := fun {i x y} hx hy n1 => by
    have li := (List.getElem?_eq_some_iff.mp hx).1
    have nxt : (i + 1) % xs.length = i + 1 ∨ ((i + 1) % xs.length = 0 ∧ i = xs.length - 1) := by
      by_cases q : i + 1 < xs.length
      · exact .inl (Nat.mod_eq_of_lt q)
      · exact .inr ⟨by rw [show i + 1 = xs.length by omega, Nat.mod_self], by omega⟩
    have n2 : (i + 1) % xs.length ≠ 2 := by omega
    by_cases a : i = 2
    · subst a
      rw [e2] at hx
      cases hx
      rw [f2, (fo hy (by omega) n2).1]
      exact fun e => (fo hy (by omega) n2).2 e.symm
    · by_cases b : (i + 1) % xs.length = 1
      · rw [b, e1] at hy
        cases hy
        rw [f1, (fo hx n1 a).1]
        exact (fo hx n1 a).2
      · rw [(fo hx n1 a).1, (fo hy b n2).1]
        exact fun e => by
          rw [e] at hx
          have := nd_at N.nd hx hy
          omega
  rw [around_mem (by rw [len]; omega), len]
  constructor
  · rintro ⟨q, hq, hne, rfl⟩
    obtain ⟨i, x, y, hx, hy, rfl⟩ := (around_mem (by omega)).mp hq
    rw [sym]
    rw [dif] at hne
    have li := (List.getElem?_eq_some_iff.mp hx).1
    have n1 : i ≠ 1 := fun e => by
      subst e
      rw [Nat.mod_eq_of_lt (by omega)] at hy
      rw [e1] at hx; rw [e2] at hy
      cases hx; cases hy
      exact hne (f1.trans f2.symm)
    by_cases i0 : i = 0
    · subst i0
      refine ⟨0, fr k g x, fr k g y, by rw [at_, if_pos (by decide), hx] <;> rfl, ?_, rfl⟩
      rw [Nat.mod_eq_of_lt (by omega)] at hy ⊢
      rw [at_, if_pos (by decide), hy] <;> rfl
    · refine ⟨i - 1, fr k g x, fr k g y, ?_, ?_, rfl⟩
      · by_cases i2 : i = 2
        · subst i2
          rw [e2] at hx
          cases hx
          rw [at_, if_pos (by decide), e1]
          show some (fr k g x1) = some (fr k g x2)
          rw [f1, f2]
        · rw [at_, if_neg (by omega), show i - 1 + 1 = i by omega, hx] <;> rfl
      · by_cases q : i + 1 < xs.length
        · rw [Nat.mod_eq_of_lt q] at hy
          rw [show i - 1 + 1 = i by omega, Nat.mod_eq_of_lt (by omega), at_, if_neg (by omega), hy] <;> rfl
        · rw [show i + 1 = xs.length by omega, Nat.mod_self] at hy
          rw [show i - 1 + 1 = xs.length - 1 by omega, Nat.mod_self, at_, if_pos (by decide), hy] <;> rfl
  · rintro ⟨j, u, v, hu, hv, rfl⟩
    rw [at_] at hu hv
    obtain ⟨x, hx, rfl⟩ := Option.map_eq_some_iff.mp hu
    obtain ⟨y, hy, rfl⟩ := Option.map_eq_some_iff.mp hv
    have fin : ∀ {i : Nat} {x' : Str}, xs[i]? = some x' → xs[(i + 1) % xs.length]? = some y → i ≠ 1 → fr k g x' = fr k g x → ∃ q ∈ (around xs).map lk, fr k g q.1 ≠ fr k g q.2 ∧ lnk (fr k g x) (fr k g y) = lnk (fr k g q.1) (fr k g q.2) := fun {i x'} h1 h2 n1 ee => by
      refine ⟨lnk x' y, (around_mem (by omega)).mpr ⟨i, x', y, h1, h2, rfl⟩, (dif _ _).mpr (apart h1 h2 n1), ?_⟩
      rw [sym, ee]
    have lx := (List.getElem?_eq_some_iff.mp hx).1
    by_cases j0 : j = 0
    · subst j0
      rw [if_pos (by decide)] at hx
      rw [Nat.mod_eq_of_lt (by omega), if_pos (by decide)] at hy
      exact fin hx (by rw [Nat.mod_eq_of_lt (by omega)]; exact hy) (by decide) rfl
    · by_cases j1 : j = 1
      · subst j1
        rw [if_pos (by decide)] at hx
        rw [e1] at hx
        cases hx
        rw [Nat.mod_eq_of_lt (by omega), if_neg (by decide)] at hy
        exact fin e2 (by rw [Nat.mod_eq_of_lt (by omega)]; exact hy) (by decide) (f2.trans f1.symm)
      · rw [if_neg (by omega)] at hx lx
        refine fin hx ?_ (by omega) rfl
        by_cases q : j + 1 < xs.length - 1
        · rw [Nat.mod_eq_of_lt q, if_neg (by omega)] at hy
          rw [Nat.mod_eq_of_lt (by omega)]
          exact hy
        · rw [show j + 1 = xs.length - 1 by omega, Nat.mod_self, if_pos (by decide)] at hy
          rw [show j + 1 + 1 = xs.length by omega, Nat.mod_self]
          exact hy
end K19
namespace K19
open PySem L2 LW
/-- all pairs of different nodes, in whatever sequence the nodes stand -/
theorem full_mem {xs : List Str} (nd : xs.Nodup) {p : Str × Str} : p ∈ (fullP xs).map lk ↔ ∃ x ∈ xs, ∃ y ∈ xs, x ≠ y ∧ p = lnk x y := by
  constructor
  · intro h
    obtain ⟨q, hq, rfl⟩ := List.mem_map.mp h
    obtain ⟨i, hi, h⟩ := List.mem_flatMap.mp hq
    obtain ⟨j, hj, a, b⟩ := frow_mem (List.mem_range.mp hi) h
    exact ⟨q.1, List.mem_of_getElem? a, q.2, List.mem_of_getElem? b, fun e => by rw [e] at a; have := nd_at nd a b; omega, rfl⟩
  · rintro ⟨x, hx, y, hy, ne, rfl⟩
    have go : ∀ {i j : Nat} {x y : Str}, xs[i]? = some x → xs[j]? = some y → j < i → lnk x y ∈ (fullP xs).map lk := fun {i j x y} h1 h2 hij => by
      have li := (List.getElem?_eq_some_iff.mp h1).1
      refine List.mem_map.mpr ⟨(x, y), List.mem_flatMap.mpr ⟨i, List.mem_range.mpr li, List.mem_map.mpr ⟨j, List.mem_range.mpr hij, ?_⟩⟩, rfl⟩
      rw [Option.some.inj ((at_getD li).symm.trans h1), Option.some.inj ((at_getD (by omega)).symm.trans h2)]
    obtain ⟨i, h1⟩ := List.getElem?_of_mem hx
    obtain ⟨j, h2⟩ := List.getElem?_of_mem hy
    rcases Nat.lt_trichotomy i j with h | h | h
    · rw [lnk_comm]; exact go h2 h1 h
    · subst h
      rw [h1] at h2
      cases h2
      exact (ne rfl).elim
    · exact go h1 h2 h
theorem full_perm {xs ys : List Str} (N : Nds xs) (M : Nds ys) (h : ys.Perm xs) : ((fullP ys).map lk).Perm ((fullP xs).map lk) :=
  (List.perm_ext_iff_of_nodup (full_lks M).2 (full_lks N).2).mpr fun p => by
    rw [full_mem M.nd, full_mem N.nd]
    constructor
    · rintro ⟨x, hx, y, hy, z⟩; exact ⟨x, h.mem_iff.mp hx, y, h.mem_iff.mp hy, z⟩
    · rintro ⟨x, hx, y, hy, z⟩; exact ⟨x, h.mem_iff.mpr hx, y, h.mem_iff.mpr hy, z⟩
end K19
set_option Elab.async false
set_option linter.all false
set_option maxRecDepth 100000
set_option maxHeartbeats 2000000
namespace K19
open PySem L2 LW
abbrev sSizeR : Stmt := top 47
abbrev sOfR : Stmt := top 48
abbrev sRight : Stmt := top 49
abbrev sLaw : Stmt := top 50
section
variable {C : Addr} {X : Cx} {σ : St} {H : Hp} {e : Expr} {es : List Expr} {pos p1 apos : Pos} {ps : List (Str × Str)}
theorem e_of (N : NetC X.prog X.w X.K X.mg X.base C) (hr : Room 7 X.A) (ha : Cm H (fun vs H' => ∃ ts, vs = ts.map V.ref ∧ TsAt H' ts ps) (wA X (e :: es) σ)) (o : Ofs ps) (hg : Gl X "Net" := by rfl) {pl : Sem Bool} (hs : starEach (e :: es) X.env = (false, eval e X.env) :: starEach es X.env := by rfl) (hpl : (backTo pos (starEach es X.env)).any (·.1) = false := by rfl)
    (ht : eval (.Call (.Attribute (.Name "Net" p1) "of" apos) (e :: es) [] pos) X.env = (eval (.Name "Net" p1) X.env >>= fun ov => standAt apos.atName >>= fun _ => holding [ov] (getMethod ov "of" pl) >>= fun fx => callWith pos fx.1 fx.2 (backTo pos (starEach (e :: es) X.env)) (backToKw pos (keywordEach [] X.env))) := by rfl) :
    Cm H (ROf C ps) (wE X (.Call (.Attribute (.Name "Net" p1) "of" apos) (e :: es) [] pos) σ) := by
  obtain ⟨mc, r, _, _, _, p, g, c, G⟩ := N.ex
  refine e_smeth r c G hr (e_glob hg N.mgN rfl) ha (fun vs H1 e1 z => ?_) (pl := pl) hs hpl ht
  obtain ⟨ts, rfl, hts⟩ := z.now
  exact c_star (ws := []) (rest := ts.map V.ref) ps rfl (by rw [List.length_map, hts.length]; have := o.len; omega) fun p H2 e2 hp H' e' => ⟨p, ts, rfl, SqT.of (e' _ _ hp), paired_ex (e2.trans e') hts, o⟩
end
section
variable {P : Program} {w : World} {K : PySem.W.Frag} {mg : Str → Option Value} {base : Heap} {f fi C : Addr} {fd : FuncData}
def ASizeR (K : PySem.W.Frag) : (Addr × List Str) × Nat → List V → Hp → Prop := fun x vs H => ∃ b, vs = [.ref x.1.1, .ref b, .int (x.2 : Int)] ∧ H x.1.1 = some (PotO x.1.1) ∧ SqL K H b (x.1.2.map V.str) ∧ Seven x.1.2 ∧ 1 ≤ x.2 ∧ x.2 ≤ 7
def AOfR (K : PySem.W.Frag) : Addr × List Str → List V → Hp → Prop := fun x vs H => ∃ b, vs = [.ref x.1, .ref b] ∧ H x.1 = some (PotO x.1) ∧ SqL K H b (x.2.map V.str) ∧ Seven x.2
abbrev nRight : List Str := ["_law_pot_here", "_law_some", "_law_size"]
theorem scRight : FnScope nRight ["_law_pot_here"] (defScope sRight) := ⟨rfl, rfl, rfl, by decide +kernel, rfl, by decide +kernel, by decide +kernel⟩
theorem ofs_ba : Ofs [("b", "a")] := by
  refine ⟨by decide, by simp, fun p hp => ?_, by simp⟩
  rw [List.mem_singleton.mp hp]
  refine ⟨⟨by decide +kernel, by decide +kernel, ?_⟩, ⟨by decide +kernel, by decide +kernel, ?_⟩, by decide +kernel⟩
  · have e : ("b" : Str).cps.toList = [98] := by decide +kernel
    show ∀ c ∈ ("b" : Str).cps.toList, 97 ≤ c ∧ c ≤ 122
    rw [e]
    simp
  · have e : ("a" : Str).cps.toList = [97] := by decide +kernel
    show ∀ c ∈ ("a" : Str).cps.toList, 97 ≤ c ∧ c ≤ 122
    rw [e]
    simp
theorem b_right (B : Blt K mg) (BL : BltL mg) (N : NetC P w K mg base C) (FL : Fn P w K mg base "_law_labels" 3 APt RLabels) (FS : Gn P w K mg base "_law_size_right" 12 (ASizeR K) RTrue) (FO : Gn P w K mg base "_law_of_right" 12 (AOfR K) RTrue) (FI : Gn P w K mg base "_law_is" 8 (AIs C K) RTrue) :
    BodyG P w K mg base nRight "_law_right" sRight f 12 APt RTrue := by
  intro cdv Ar outer s H0 E p vs H Hc D hr ex pa rt nx
  obtain ⟨rfl, hp⟩ := pa.now
  refine b_set 1 ex (e_callD p FL (hr.r.mono (by decide)) (a_consD (e_var 0) a_nil) (fun H' e => ⟨rfl, e _ _ hp⟩)) (fun v H1 Hc1 g1 p1 => ?_) scRight.nd (hx := .inr rfl)
  obtain ⟨b, ns, rfl, hb, S⟩ := p1.now
  have hp1 := g1.k _ _ hp
  refine b_ifF g1.s (t_not (k := true) (t_val (t_is (e_all (bs := List.replicate 7 true) rfl B.all (e_lc (own := [("_law_size", 2)]) (g := gName 2) rfl scRight.nd (pi_range2 rfl BL.range pa_w) (blkOk_by (N := nRight) (sc := defScope sRight) (by decide +kernel)) (fun _ _ _ _ _ => pg_name (i := 2) scRight.nd rfl (.inl rfl)) (fun _ _ _ _ _ => pts_nil)
    (c_lc (i_rng2 (lo := 1) (n := 8) (a_consD e_int (a_consD e_int a_nil)) (by decide)) (by decide) (fun i acc _ => acc = (List.replicate i true).map V.bl) (fun _ => rfl) (fun i y acc H9 hi e9 py pacc => ?_) fun acc q H9 e9 pacc hq => ?_))) (by rfl)))) fun H2 Hc2 g2 => b_nil ?_
  · have hi : i < 7 := hi
    obtain rfl : y = V.int (1 + (i : Int)) := py.now
    refine ⟨_, true, bind_name, rfl, c_yes, fun _ => c_eb fun s H0 C cl fp => ?_, fun q => nomatch q⟩
    refine Cm.imp (e_callGD ((p, ns), i + 1) FS hr (a_consD (e_var (v := V.ref p) 0) (a_consD (e_var (v := V.ref b) 1) (a_consD (t_is (e_var (v := V.int (1 + (i : Int))) 2) (by congr 1; omega)) a_nil))) (fun H' e => ⟨b, rfl, e _ _ (e9 _ _ hp1), SqL.of (e _ _ (e9 _ _ hb)), S, by exact Nat.succ_le_succ (Nat.zero_le _), by exact hi⟩)) fun v H' _ z => ?_
    have ea : acc = (List.replicate i true).map V.bl := pacc.now
    rw [ea, show v = V.bl true from z, List.replicate_succ', List.map_append] <;> rfl
  · have ea : acc = (List.replicate 7 true).map V.bl := pacc.now
    subst ea
    exact fun H' e' => ⟨q, rfl, SqL.of (e' _ _ hq)⟩
  have hp2 := g2.k _ _ hp1
  have hb2 := g2.k _ _ hb
  refine b_ret (P := is (V.bl true)) g2.s (e_and (k := true) (k' := true) (e_callGD (p, ns) FO hr (a_consD (e_var 0) (a_consD (e_var 1) a_nil)) (fun H' e => ⟨b, rfl, e _ _ hp2, SqL.of (e _ _ hb2), S⟩)) fun _ => e_one ?_) fun v H3 Hc3 g3 q => rt v _ _ ((g1.trans g2).trans g3) q
  refine e_callG FI (hr.mono (by decide)) (a_cons (P := ROf C [("b", "a")]) (e_of N (hr.r.mono (by decide)) (Cm.imp (a_cons (P := pr ("b", "a")) (e_tup (a_consD e_str (a_consD e_str a_nil)) (fun xs _ z => by rw [show xs = _ from z]; exact (by decide : 2 ≤ 100000)) fun ys p H3 e3 z hp => ?_) a_nil) fun vs H' _ z => ?_) ofs_ba)
    (a_cons (P := nl (([ "a", "b" ] : List Str).map V.str)) (e_lst (a_consD e_str (a_consD e_str a_nil)) (fun xs _ z => by rw [show xs = _ from z]; exact (by decide : 2 ≤ 100000)) fun ys p H3 e3 z hp => ?_) (a_cons (P := RPs [("a", "b")]) (e_lst (a_cons (P := pr ("a", "b")) (e_tup (a_consD e_str (a_consD e_str a_nil)) (fun xs _ z => by rw [show xs = _ from z]; exact (by decide : 2 ≤ 100000)) fun ys p H3 e3 z hp => ?_) a_nil) (fun xs _ z => ?_) fun ys p H3 e3 z hp => ?_) a_nil))) fun vs H3 e3 z => ?_
  · rw [show ys = _ from z.now] at hp
    exact fun H' e' => ⟨p, rfl, e' _ _ hp⟩
  · obtain ⟨_, _, rfl, ⟨t, rfl, ht⟩, rfl⟩ := z
    exact ⟨[t], rfl, .cons ht .nil⟩
  · rw [show ys = _ from z.now] at hp
    exact fun H' e' => ⟨p, rfl, e' _ _ hp⟩
  · rw [show ys = _ from z.now] at hp
    exact fun H' e' => ⟨p, rfl, e' _ _ hp⟩
  · obtain ⟨_, _, rfl, _, rfl⟩ := z
    exact (by decide : 1 ≤ 100000)
  · obtain ⟨_, _, rfl, ⟨t, rfl, ht⟩, rfl⟩ := z.now
    exact fun H' e' => ⟨p, [t], rfl, e' _ _ hp, .cons (e' _ _ ht) .nil⟩
  · obtain ⟨_, _, rfl, ⟨a, xn, xl, rfl, hA, hn, hl, nt⟩, _, _, rfl, ⟨c, rfl, hc⟩, _, _, rfl, ⟨d, ts, rfl, hd, hts⟩, rfl⟩ := z.now
    have el : lk ("b", "a") = (("a" : Str), ("b" : Str)) := by decide +kernel
    have hl : xl.Perm [lk ("b", "a")] := hl
    rw [el] at hl
    have pn : xn.Perm (["a", "b"] : List Str) := (List.perm_ext_iff_of_nodup nt.nd (by decide +kernel)).mpr fun x => by
      rw [hn x]
      simp only [List.mem_cons, List.not_mem_nil, or_false, exists_eq_left]
      exact Or.comm
    have nds : Nds (["a", "b"] : List Str) := ⟨by decide, by simp, by decide +kernel, fun x hx => nt.nm x (pn.mem_iff.mpr hx)⟩
    have lks : Lks ([("a", "b")] : List (Str × Str)) (some (true, (["a", "b"] : List Str))) := ⟨by decide, fun p hp => ?_, by simp, fun p hp => ?_⟩
    · exact ⟨⟨⟨a, xn, xl⟩, ["a", "b"], [("a", "b")]⟩, fun H' e' => ⟨c, d, ts, rfl, ⟨hA.ex e', nt⟩, SqL.of (e' _ _ hc), SqL.of (e' _ _ hd), paired_ex e' hts, ⟨nds, lks, pn, hl⟩⟩, fun v _ _ q => q⟩
    · rw [List.mem_singleton.mp hp]
      exact ⟨nds.nm "a" (by simp), nds.nm "b" (by simp), by decide +kernel⟩
    · rw [List.mem_singleton.mp hp]
      exact ⟨by simp, by simp⟩
/-! the law -/
abbrev nLaw : List Str := ["_law_script", "_law_k"]
theorem scLaw : FnScope nLaw ["_law_script"] (defScope sLaw) := ⟨rfl, rfl, rfl, by decide +kernel, rfl, by decide +kernel, by decide +kernel⟩
def ALaw (K : PySem.W.Frag) : List Int → List V → Hp → Prop := fun xs vs H => ∃ a, vs = [.ref a] ∧ SqL K H a (xs.map V.int) ∧ xs.length ≤ 63
theorem b_law (B : Blt K mg) (BL : BltL mg) (mn : mg "min" = none) (FP : Fn P w K mg base "_law_pot" 1 (APot K) RPot) (FR : Gn P w K mg base "_law_right" 13 APt RTrue) : BodyG P w K mg base nLaw "law" sLaw f 13 (ALaw K) RTrue := by
  intro cdv Ar outer s H0 E xs vs H Hc D hr ex pa rt nx
  obtain ⟨a, rfl, h1, hz⟩ := pa.now
  have hq := Pz.sql h1
  have l0 : (xs.map V.int).length = xs.length := List.length_map _
  obtain ⟨n, hn1, hn2⟩ : ∃ n : Nat, n ≤ 4 ∧ (if (if ((xs.map V.int).length : Int) < 4 then ((xs.map V.int).length : Int) else 4) > 1 then (if ((xs.map V.int).length : Int) < 4 then ((xs.map V.int).length : Int) else 4) else 1) = (n : Int) := by
    rw [l0]
    refine ⟨(if (if (xs.length : Int) < 4 then (xs.length : Int) else 4) > 1 then (if (xs.length : Int) < 4 then (xs.length : Int) else 4) else 1).toNat, ?_, ?_⟩ <;> split <;> (try split) <;> omega
  refine b_ret (P := is (V.bl true)) ex (t_is (e_all (bs := List.replicate n true) rfl B.all (e_lc (own := [("_law_k", 1)]) (g := gName 1) rfl scLaw.nd (pi_range1 rfl BL.range pa_w) (blkOk_by (N := nLaw) (sc := defScope sLaw) (by decide +kernel)) (fun _ _ _ _ _ => pg_name (i := 1) scLaw.nd rfl (.inl rfl)) (fun _ _ _ _ _ => pts_nil)
    (c_lc (i_rng1 (n := (n : Int)) (a_consD (t_is (e_bltD (call_max2 rfl) BL.max (a_consD e_int (a_consD (e_bltD (call_min2 rfl) mn (a_consD e_int (a_consD (e_len (xs := xs.map V.int) BL.len (e_var (v := V.ref a) 0) (hq.imp fun _ _ z => .inl z)) a_nil)) (Cm.ret (fun _ _ _ q => ⟨4, ((xs.map V.int).length : Int), rfl, q⟩) (.const rfl))) a_nil)) (Cm.ret (fun _ _ _ q => ⟨1, _, rfl, q⟩) (.const rfl))) (by rw [← hn2])) a_nil) (by omega) (by omega)) (by omega) (fun i acc _ => acc = (List.replicate i true).map V.bl) (fun _ => rfl) (fun i y acc H9 hi e9 py pacc => ?_) fun acc q H9 e9 pacc hq => ?_))) (by congr 1; exact List.all_eq_true.mpr fun b hb => List.eq_of_mem_replicate hb)) fun v Hn H2 g q => rt v _ _ g q
  · have hi : i < n := by simpa using hi
    obtain rfl : y = V.int (0 + (i : Int)) := py.now
    refine ⟨_, true, bind_name, rfl, c_yes, fun _ => c_eb fun s H0 C cl fp => ?_, fun q => nomatch q⟩
    refine Cm.imp (e_callG (P := is (V.bl true)) FR hr (a_cons (e_callD (xs, (i : Int)) FP (hr.r.mono (by decide)) (a_consD (e_var (v := V.ref a) 0) (a_consD (t_is (e_var (v := V.int (0 + (i : Int))) 1) (by rw [Int.zero_add])) a_nil)) (fun H' e => ⟨a, rfl, hq H' (e9.trans e), by exact Int.natCast_nonneg i, by show (i : Int) < 10; omega⟩)) a_nil) fun vs H1 e1 z => ?_) fun v H' _ z => ?_
    · obtain ⟨_, _, rfl, ⟨p, rfl, hp⟩, rfl⟩ := z.now
      exact ⟨p, fun H' e => ⟨rfl, e _ _ hp⟩, fun _ _ _ q => q⟩
    · have ea : acc = (List.replicate i true).map V.bl := pacc.now
      rw [ea, show v = V.bl true from z, List.replicate_succ', List.map_append] <;> rfl
  · have ea : acc = (List.replicate (Int.toNat (n : Int)) true).map V.bl := pacc.now
    rw [Int.toNat_natCast] at ea
    subst ea
    exact fun H' e' => ⟨q, rfl, SqL.of (e' _ _ hq)⟩
end
end K19
set_option Elab.async false
set_option linter.all false
set_option maxRecDepth 100000
set_option maxHeartbeats 2000000
namespace K19
open PySem L2 LW
/-- a net of just these nodes and links -/
def IsNet (C : Addr) (ns : List Str) (ls : List (Str × Str)) : V → Hp → Prop := fun v H => ∃ a, v = .ref a ∧ NetAt C a ns ls H ∧ Nt ns ls
theorem isNet_ex {C : Addr} {ns : List Str} {ls : List (Str × Str)} {v : V} {H H' : Hp} (e : Ex H H') (h : IsNet C ns ls v H) : IsNet C ns ls v H' := by
  obtain ⟨a, h1, h2, h3⟩ := h
  exact ⟨a, h1, h2.ex e, h3⟩
theorem made_is {C : Addr} {ns ys : List Str} {ls qs : List (Str × Str)} {v : V} {H : Hp} (h : RMade C ys qs v H) (nt : Nt ns ls) (pn : ns.Perm ys) (pl : ls.Perm (qs.map lk)) : IsNet C ns ls v H := by
  obtain ⟨a, ns2, ls2, rfl, hA, hn, hl, nt2⟩ := h
  obtain rfl : ns2 = ns := sortN_uniq nt2.sn nt.sn (hn.trans pn.symm)
  obtain rfl : ls2 = ls := sortP_uniq nt2.sp nt.sp (hl.trans pl.symm)
  exact ⟨a, rfl, hA, nt⟩
theorem perm_sub {α : Type} [DecidableEq α] {l r : List α} (a : l.Nodup) (b : r.Nodup) (h : ∀ x ∈ l, x ∈ r) (e : r.length ≤ l.length) : l.Perm r :=
  (List.perm_ext_iff_of_nodup a b).mpr fun x => ⟨h x, fun m => Decidable.byContradiction fun n => by
    have z := nd_len l (r.erase x) a fun y hy => (List.mem_erase_of_ne fun q : y = x => n (q ▸ hy)).mpr (h y hy)
    have p := List.length_pos_of_mem m
    rw [List.length_erase_of_mem m] at z
    omega⟩
section
variable {C : Addr} {X : Cx} {σ : St} {H : Hp} {i o : Expr} {pos : Pos} {ns : List Str} {ls : List (Str × Str)} {k : Nat}
theorem t_neI (F : Opx X.prog X.w X.K X.mg X.base C "__eq__" 1 (AEq C) REq) (nb : NeBy X.K C) (hr : Room 2 X.A) (h1 : Cm H (IsNet C ns ls) (wE X i σ)) (h2 : Cm H (IsNet C ns ls) (wE X o σ)) (hm : behindInMarks .NotEq o = false := by rfl) : Cm H (is false) (wT X (.Compare i [.NotEq] [o] pos) σ) := by
  obtain ⟨f, h, G⟩ := F.ex
  refine t_cmp (op_ownNe h nb G hr pass0) hm h1 h2 fun x y H1 e1 p1 p2 => ?_
  obtain ⟨a, rfl, hA, nt⟩ := p1.now
  obtain ⟨b, rfl, hB, _⟩ := p2.now
  obtain ⟨dx, l1, l2, l3, ts, as, z1, _⟩ := id hA
  obtain ⟨dy, m1, m2, m3, us, bs, y1, _⟩ := id hB
  refine t_is (r_ownEq true (y := (⟨a, ns, ls⟩, ⟨b, ns, ls⟩)) (c := true) (.at z1) (.at y1) (fun H' e => ⟨rfl, ⟨hA.ex e, nt⟩, ⟨hB.ex e, nt⟩⟩) fun v H' z => ?_) rfl
  rw [show v = _ from z]
  simp
theorem e_eqI (F : Opx X.prog X.w X.K X.mg X.base C "__eq__" 1 (AEq C) REq) (hr : Room 1 X.A) (h1 : Cm H (IsNet C ns ls) (wE X i σ)) (h2 : Cm H (IsNet C ns ls) (wE X o σ)) (hm : behindInMarks .Eq o = false := by rfl) : Cm H (is (V.bl true)) (wE X (.Compare i [.Eq] [o] pos) σ) := by
  obtain ⟨f, h, G⟩ := F.ex
  refine e_cmp (op_ownEq h G hr pass0) hm h1 h2 fun x y H1 e1 p1 p2 => ?_
  obtain ⟨a, rfl, hA, nt⟩ := p1.now
  obtain ⟨b, rfl, hB, _⟩ := p2.now
  obtain ⟨dx, l1, l2, l3, ts, as, z1, _⟩ := id hA
  obtain ⟨dy, m1, m2, m3, us, bs, y1, _⟩ := id hB
  refine t_is (r_ownEq false (y := (⟨a, ns, ls⟩, ⟨b, ns, ls⟩)) (c := true) (.at z1) (.at y1) (fun H' e => ⟨rfl, ⟨hA.ex e, nt⟩, ⟨hB.ex e, nt⟩⟩) fun v H' z => ?_) rfl
  rw [show v = _ from z]
  simp
end
/-- pairs that are links already, of these nodes -/
theorem lks_of {xs : List Str} {ps : List (Str × Str)} (k1 : ∀ p ∈ ps, Lk p ∧ p.1 ∈ xs ∧ p.2 ∈ xs) (k2 : (ps.map lk).Nodup) (l : ps.length ≤ 60) : Lks (ps.map lk) (some (true, xs)) := by
  have sw : ∀ p : Str × Str, Lk p → Lk (lk p) := fun p k => by
    unfold lk
    rcases lnk_cases p.1 p.2 with z | z <;> rw [z]
    · exact k
    · exact ⟨k.2.1, k.1, fun e => k.2.2 e.symm⟩
  refine ⟨by rw [List.length_map]; exact l, fun p hp => ?_, ?_, fun p hp => ?_⟩
  · obtain ⟨q, hq, rfl⟩ := List.mem_map.mp hp
    exact sw q (k1 q hq).1
  · rw [List.map_map]
    have e : ps.map (lk ∘ lk) = ps.map lk := List.map_congr_left fun q hq => lk_lk (lk_lt (k1 q hq).1)
    rw [e]
    exact k2
  · obtain ⟨q, hq, rfl⟩ := List.mem_map.mp hp
    obtain ⟨_, m1, m2⟩ := k1 q hq
    show (lk q).1 ∈ xs ∧ (lk q).2 ∈ xs
    unfold lk
    rcases lnk_cases q.1 q.2 with z | z <;> rw [z]
    · exact ⟨m1, m2⟩
    · exact ⟨m2, m1⟩
/-- what is to be known of the three nets of a row -/
structure Row3 (C : Addr) (xs : List Str) (x1 x3 : NetV) (H : Hp) : Prop where
  a1 : x1.At C H
  a3 : x3.At C H
  n1 : x1.ns.Perm xs
  n3 : x3.ns.Perm xs
  l1 : x1.ls.Perm ((along xs).map lk)
  l3 : x3.ls.Perm ((fullP xs).map lk)
theorem Row3.ex {C : Addr} {xs : List Str} {x1 x3 : NetV} {H H' : Hp} (e : Ex H H') (h : Row3 C xs x1 x3 H) : Row3 C xs x1 x3 H' := ⟨⟨h.a1.1.ex e, h.a1.2⟩, ⟨h.a3.1.ex e, h.a3.2⟩, h.n1, h.n3, h.l1, h.l3⟩
/-- the ring with the second and the third node of it as one -/
theorem drawn_left {x0 x1 x2 : Str} {r : List Str} (N : Nds (x0 :: x1 :: x2 :: r)) (hr : r ≠ []) {k g : Str} (hk : (k = x1 ∧ g = x2) ∨ (k = x2 ∧ g = x1)) :
    ((x0 :: x1 :: x2 :: r).eraseIdx 2).map (fr k g) = x0 :: k :: r ∧ (x0 :: x1 :: x2 :: r).filter (fun z => !decide (z = g)) = x0 :: k :: r ∧ Nds (x0 :: k :: r) := by
  have nd := N.nd
  simp only [List.nodup_cons, List.mem_cons, not_or] at nd
  obtain ⟨⟨n01, n02, n0r⟩, ⟨n12, n1r⟩, n2r, ndr⟩ := nd
  have keep : ∀ z ∈ r, fr k g z = z := fun z hz => by
    unfold fr
    refine if_neg fun e => ?_
    rcases hk with ⟨_, b⟩ | ⟨_, b⟩
    · exact n2r (b ▸ e ▸ hz)
    · exact n1r (b ▸ e ▸ hz)
  have kr : r.map (fr k g) = r := (List.map_congr_left keep).trans (List.map_id r)
  have fr2 : r.filter (fun z => !decide (z = g)) = r := List.filter_eq_self.mpr fun z hz => by
    have : z ≠ g := fun e => by
      rcases hk with ⟨_, b⟩ | ⟨_, b⟩
      · exact n2r (b ▸ e ▸ hz)
      · exact n1r (b ▸ e ▸ hz)
    simpa using this
  refine ⟨?_, ?_, ?_⟩
  · show fr k g x0 :: fr k g x1 :: r.map (fr k g) = _
    rw [kr]
    unfold fr
    rcases hk with ⟨a, b⟩ | ⟨a, b⟩ <;> subst a b
    · rw [if_neg n02, if_neg n12]
    · rw [if_neg n01, if_pos rfl]
  · rcases hk with ⟨a, b⟩ | ⟨a, b⟩ <;> subst a b <;> simp only [List.filter_cons, fr2, decide_eq_true_eq, Bool.not_eq_true', decide_eq_false_iff_not]
    · simp [n02, n12]
    · simp [n01, Ne.symm n12]
  · have nm := N.nm
    have ln := N.len
    simp only [List.length_cons] at ln
    refine ⟨by simp only [List.length_cons]; omega, by simp, ?_, fun z hz => ?_⟩
    · rcases hk with ⟨a, b⟩ | ⟨a, b⟩ <;> subst a b <;> simp only [List.nodup_cons, List.mem_cons, not_or]
      · exact ⟨⟨n01, n0r⟩, n1r, ndr⟩
      · exact ⟨⟨n02, n0r⟩, n2r, ndr⟩
    · rcases List.mem_cons.mp hz with rfl | hz
      · exact nm _ (by simp)
      · rcases List.mem_cons.mp hz with rfl | hz
        · rcases hk with ⟨a, b⟩ | ⟨a, b⟩ <;> subst a b <;> exact nm _ (by simp)
        · exact nm _ (by simp [hz])
theorem three_full {a b c : Str} : ((around [a, b, c]).map lk).Perm ((fullP [a, b, c]).map lk) := by
  have e1 : (around [a, b, c]).map lk = [lnk a b, lnk b c, lnk c a] := rfl
  have e2 : (fullP [a, b, c]).map lk = [lnk b a, lnk c a, lnk c b] := rfl
  rw [e1, e2, lnk_comm b a, lnk_comm c b]
  exact .cons _ (.swap _ _ _)
end K19
set_option Elab.async false
set_option linter.all false
set_option maxRecDepth 100000
set_option maxHeartbeats 4000000
namespace K19
open PySem L2 LW
section
variable {C : Addr} {X : Cx} {σ : St} {H : Hp} {i o e1 e2 : Expr} {pos pn : Pos} {ns : List Str} {ls : List (Str × Str)} {k : Nat} {P1 P2 : V → Hp → Prop} {v : V}
theorem e_eqU (F : Opx X.prog X.w X.K X.mg X.base C "__eq__" 1 (AEq C) REq) (hr : Room 1 X.A) (h1 : Cm H P1 (wE X i σ)) (h2 : Cm H P2 (wE X o σ)) (u : ∀ v w H', P1 v H' → P2 w H' → ∃ ns ls, IsNet C ns ls v H' ∧ IsNet C ns ls w H') (hm : behindInMarks .Eq o = false := by rfl) : Cm H (is (V.bl true)) (wE X (.Compare i [.Eq] [o] pos) σ) := by
  obtain ⟨f, h, G⟩ := F.ex
  refine e_cmp (op_ownEq h G hr pass0) hm h1 h2 fun x y H1 e1 p1 p2 => ?_
  obtain ⟨ns, ls, ⟨a, rfl, hA, nt⟩, ⟨b, rfl, hB, _⟩⟩ := u x y H1 p1.now p2.now
  obtain ⟨dx, l1, l2, l3, ts, as, z1, _⟩ := id hA
  obtain ⟨dy, m1, m2, m3, us, bs, y1, _⟩ := id hB
  refine t_is (r_ownEq false (y := (⟨a, ns, ls⟩, ⟨b, ns, ls⟩)) (c := true) (.at z1) (.at y1) (fun H' e => ⟨rfl, ⟨hA.ex e, nt⟩, ⟨hB.ex e, nt⟩⟩) fun v H' z => ?_) rfl
  rw [show v = _ from z]
  simp
theorem c_isN {t : Hp → VK → Prop} (h : Cm H (is v) t) (n : IsNet C ns ls v H) : Cm H (IsNet C ns ls) t := Cm.imp h fun u H' e z => by
  rw [show u = v from z]
  exact isNet_ex e n
theorem c_three {ys : List Str} {m : Nat} (FT : Fn X.prog X.w X.K X.mg X.base "_law_three" 8 (AThree X.K) (RThree C)) (hr : Room 8 X.A) (h1 : Cm H (nl (ys.map V.str)) (wE X e1 σ)) (h2 : Cm H (is (V.int (m : Int))) (wE X e2 σ)) (m1 : 1 ≤ m) (m7 : m ≤ 7) (ml : m ≤ ys.length) (l7 : ys.length ≤ 7) (nd : ys.Nodup) (nm : ∀ z ∈ ys, Nm z)
    (hg : Gl X "_law_three" := by rfl) (hs : starEach [e1, e2] X.env = (false, eval e1 X.env) :: starEach [e2] X.env := by rfl) (hs2 : starEach [e2] X.env = (false, eval e2 X.env) :: starEach [] X.env := by rfl) :
    Cm H (R3 C (ys.take m)) (wE X (.Call (.Name "_law_three" pn) [e1, e2] [] pos) σ) :=
  e_call FT hr (a_cons h1 (a_cons h2 a_nil hs2) hs) (fun vs H1 e z => by
    obtain ⟨_, _, rfl, ⟨a, rfl, ha⟩, _, _, rfl, rfl, rfl⟩ := z.now
    exact ⟨(ys, m), fun H' e => ⟨a, rfl, SqL.of (e _ _ ha), m1, m7, ml, l7, nd, nm⟩, fun v H' _ q => q⟩) hg (by decide) hs (by rw [hs2] <;> rfl)
theorem e_r30 {zs : List Str} (h : Cm H (R3 C zs) (wE X o σ)) (hi : Cm H (is (V.int 0)) (wE X i σ)) (hs : PlainIx i := by exact fun _ _ => rfl) : Cm H (RPath C zs) (wE X (.Subscript o i pos) σ) :=
  e_ix (Pb := is (V.int 0)) ix_list h hi (fun x y H1 e1 px py => by
    obtain ⟨b, v1, v2, v3, rfl, hb, z1, z2, z3⟩ := px.now
    obtain rfl := py.now
    exact Cm.imp (r_ixL (.sql (SqL.of hb)) (L2.atI_nat (j := 0) rfl)) fun v H' e z => by
      rw [show v = v1 from z]
      exact made_ex e z1) hs
theorem e_r31 {zs : List Str} (h3 : 3 ≤ zs.length) (h : Cm H (R3 C zs) (wE X o σ)) (hi : Cm H (is (V.int 1)) (wE X i σ)) (hs : PlainIx i := by exact fun _ _ => rfl) : Cm H (RRing C zs) (wE X (.Subscript o i pos) σ) :=
  e_ix (Pb := is (V.int 1)) ix_list h hi (fun x y H1 e1 px py => by
    obtain ⟨b, v1, v2, v3, rfl, hb, z1, z2, z3⟩ := px.now
    obtain rfl := py.now
    rw [if_pos h3] at z2
    exact Cm.imp (r_ixL (.sql (SqL.of hb)) (L2.atI_nat (j := 1) rfl)) fun v H' e z => by
      rw [show v = v2 from z]
      exact made_ex e z2) hs
end
section
variable {P : Program} {w : World} {K : PySem.W.Frag} {mg : Str → Option Value} {base : Heap} {f fi C : Addr} {fd : FuncData}
structure NetM2 (P : Program) (w : World) (K : PySem.W.Frag) (mg : Str → Option Value) (base : Heap) (C : Addr) : Prop where
  part : Md P w K mg base C "is_part_of" 2 (APart C) RTrue
  drawn : Md P w K mg base C "drawn_together" 7 (ACont C K) (RDrawn C)
  sub : ∃ f, BinBy K C f "tuple" Operator.Sub.info.2 ∧ FnR P w K mg base CX0 7 f (SpF (ACont C K) (RSub C))
  ne : NeBy K C
abbrev nSizeR : List Str := ["_law_pot_here", "_law_some", "_law_size", "_law_spots", "_law_told", "_law_this", "_law_mate", "_law_pairs", "_law_every", "_law_k", "_law_at", "_law_turned", "_law_left", "_law_spot"]
theorem scSizeR : FnScope nSizeR ["_law_pot_here", "_law_some", "_law_size"] (defScope sSizeR) := ⟨rfl, rfl, rfl, by decide +kernel, rfl, by decide +kernel, by decide +kernel⟩
/-- [link(this, mate) for this, mate in zip(spots, spots[1:])] -/
theorem drop_map (xs : List Str) : (xs.map V.str).drop 1 = (xs.drop 1).map V.str := (List.map_drop ..).symm
end
end K19
set_option Elab.async false
set_option linter.all false
set_option maxRecDepth 100000
set_option maxHeartbeats 4000000
namespace K19
open PySem L2 LW
structure RowN (C : Addr) (xs : List Str) (t l : Addr) (x1 x2 x3 : NetV) (H : Hp) : Prop where
  hl : H l = some (.lst (xs.map V.str))
  ht : H t = some (.lst [.ref x1.a, .ref x2.a, .ref x3.a])
  a1 : x1.At C H
  a2 : x2.At C H
  a3 : x3.At C H
  n1 : x1.ns.Perm xs
  n2 : x2.ns.Perm xs
  n3 : x3.ns.Perm xs
  l1 : x1.ls.Perm ((along xs).map lk)
  l2 : x2.ls.Perm ((around xs).map lk)
  l3 : x3.ls.Perm ((fullP xs).map lk)
theorem At.ex {C : Addr} {x : NetV} {H H' : Hp} (e : Ex H H') (h : x.At C H) : x.At C H' := ⟨h.1.ex e, h.2⟩
theorem RowN.ex {C : Addr} {xs : List Str} {t l : Addr} {x1 x2 x3 : NetV} {H H' : Hp} (e : Ex H H') (h : RowN C xs t l x1 x2 x3 H) : RowN C xs t l x1 x2 x3 H' :=
  ⟨e _ _ h.hl, e _ _ h.ht, At.ex e h.a1, At.ex e h.a2, At.ex e h.a3, h.n1, h.n2, h.n3, h.l1, h.l2, h.l3⟩
theorem At.isNet {C : Addr} {x : NetV} {H : Hp} (h : x.At C H) : IsNet C x.ns x.ls (.ref x.a) H := ⟨x.a, rfl, h.1, h.2⟩
theorem At.ins {C : Addr} {x : NetV} {H : Hp} (h : x.At C H) : ∃ dx l1 l2 l3, H x.a = some (.ins C dx [("_nodes", .ref l1), ("_links", .ref l2), ("_near", .ref l3)]) := by
  obtain ⟨⟨dx, l1, l2, l3, ts, as, h1, _⟩, _⟩ := h
  exact ⟨dx, l1, l2, l3, h1⟩
section
variable {P : Program} {w : World} {K : PySem.W.Frag} {mg : Str → Option Value} {base : Heap} {ff C : Addr} {cdv : Value} {Ar : Around} {outer : List Env} {s : Shared} {H0 : Hp} {E : XK} {D : Ends} {H Hc : Hp} {p b l t : Addr} {n : Nat} {xs : List Str} {x1 x2 x3 : NetV} {s5 s6 s7 s8 s9 s10 s11 : Option V}
theorem size_tail12 (B : Blt K mg) (mn : mg "min" = none) (F : NetF K mg C) (N : NetM P w K mg base C) (M : NetM2 P w K mg base C) (FT : Fn P w K mg base "_law_three" 8 (AThree K) (RThree C))
    (hr : RoomG 11 (fx P w K mg base nSizeR "_law_size_right" sSizeR ff cdv Ar outer s H0 E).A) (ex : Ex H Hc) (R : RowN C xs t l x1 x2 x3 H) (nds : Nds xs) (hn : xs.length = n) (n3 : 3 ≤ n) (n7 : n ≤ 7)
    (rt : ∀ v Hn H3, Grow H Hc Hn H3 → v = .bl true → D.rt v H3) :
    wB (fx P w K mg base nSizeR "_law_size_right" sSizeR ff cdv Ar outer s H0 E) ((defBody sSizeR).drop 12) D [some (.ref p), some (.ref b), some (.int (n : Int)), some (.ref l), some (.ref t), s5, s6, s7, s8, s9, s10, s11, none, none] Hc := by
  have rr := hr.r
  refine b_if ex (k := decide (3 < (n : Int))) (t_cmpD op_gt (by rfl) (e_var 2) e_int (r_I0 (g := fun i j => V.bl (decide (j < i))) (i := (n : Int)) (j := 3))) (fun hk H1 Hc1 g1 => ?_) fun hk H1 Hc1 g1 => b_nil ?_
  · have hk : 3 < (n : Int) := of_decide_eq_true hk
    have R1 := R.ex g1.k
    match xs, hn with
    | [], hn => exact absurd hn (by simp only [List.length_nil]; omega)
    | [_], hn => exact absurd hn (by simp only [List.length_cons, List.length_nil]; omega)
    | [_, _], hn => exact absurd hn (by simp only [List.length_cons, List.length_nil]; omega)
    | [_, _, _], hn => exact absurd hn (by simp only [List.length_cons, List.length_nil]; omega)
    | y0 :: y1 :: y2 :: y3 :: r, hn =>
      have hn' : r.length + 4 = n := by simpa using hn
      have nd := nds.nd
      simp only [List.nodup_cons, List.mem_cons, not_or] at nd
      have n12 : y1 ≠ y2 := nd.2.1.1
      generalize hkk : (if Lt y2 y1 then y2 else y1) = kk
      generalize hgg : (if Lt y2 y1 then y1 else y2) = gg
      have hk2 : (kk = y1 ∧ gg = y2) ∨ (kk = y2 ∧ gg = y1) := by
        by_cases c : Lt y2 y1
        · rw [if_pos c] at hkk hgg; exact .inr ⟨hkk.symm, hgg.symm⟩
        · rw [if_neg c] at hkk hgg; exact .inl ⟨hkk.symm, hgg.symm⟩
      have elk : lk (y1, y2) = (kk, gg) := by
        show lnk y1 y2 = _
        unfold lnk
        by_cases c : Lt y2 y1
        · rw [if_pos c] at hkk hgg
          rw [if_neg c.as, hkk, hgg]
        · rw [if_neg c] at hkk hgg
          rw [if_pos (Decidable.byContradiction fun q => n12 (Lt.tri q c)), hkk, hgg]
      obtain ⟨d1, d2, d3⟩ := drawn_left nds (by simp) hk2
      refine b_asg (g := gTup K 2 (gCons (gName 5) (gCons (gName 6) gNil))) (P := pr (y1, y2)) g1.s (e_tup (a_consD (v := V.str y1) (e_item (j := 1) (e_var 3) e_int (.sql (SqL.of R1.hl)) rfl) (a_consD (v := V.str y2) (e_item (j := 2) (e_var 3) e_int (.sql (SqL.of R1.hl)) rfl) a_nil)) (fun xs _ z => by rw [show xs = _ from z]; exact (by decide : 2 ≤ 100000)) fun ys q H3 e3 z hq => ?_)
        (pg_tup rfl (pgs_cons (pg_name (i := 5) scSizeR.nd rfl (.inr rfl)) (pgs_cons (pg_name (i := 6) scSizeR.nd rfl (.inr rfl)) pgs_nil))) fun v H2 Hc2 g2 p2 => ?_
      · rw [show ys = _ from z.now] at hq
        exact fun H' e' => ⟨q, rfl, e' _ _ hq⟩
      obtain ⟨q, rfl, hq⟩ := p2.now
      refine bind_two (K := K) (.sqt (SqT.of hq)) Hc2 g2.s _ ?_
      have R2 := R1.ex g2.k
      refine b_setLc 12 (own := [("_law_spot", 13)]) (g := gName 13) (P := nl ((y0 :: kk :: y3 :: r).map V.str)) g2.s rfl scSizeR.nd rfl rfl rfl (pi_list pe_w) (blkOk_by (N := nSizeR) (sc := defScope sSizeR) (by decide +kernel)) (fun _ _ _ _ _ => pg_name (i := 13) scSizeR.nd rfl (.inl rfl)) (fun s H C cl fp => pts_one (pt_b s H C cl fp))
        (c_lc (i_list (xs := (y0 :: y1 :: y2 :: y3 :: r).map V.str) (Cm.imp (e_var (v := V.ref l) 3) fun v H' e z => ⟨l, z, SqL.of (e _ _ R2.hl)⟩)) (by rw [List.length_map, hn]; omega) (fun i acc _ => acc = ((((y0 :: y1 :: y2 :: y3 :: r).take i).filter fun z => !decide (z = y2)).map fun z => if z = y1 then kk else z).map V.str) (fun _ => rfl) (fun i y acc H9 hi e9 py pacc => ?_) fun acc a H9 e9 pacc ha => ?_) fun v H3 Hc3 g3 p3 => ?_
      · obtain ⟨z, hz, rfl⟩ := txt_get py.now
        have ea : acc = _ := pacc.now
        refine ⟨_, !decide (z = y2), bind_name, rfl, c_tb fun s H0 C cl fp => t_is (t_cmpD op_ne (by rfl) (e_var (v := V.str z) 13) (e_var (v := V.str y2) 6) (r_ne (x := V.str z) (y := V.str y2) rfl)) (by by_cases h : z = y2 <;> simp [h]), fun c => c_eb fun s H0 C cl fp => ?_, fun c => ?_⟩
        · refine Cm.imp (e_if (P := is (V.str (if z = y1 then kk else z))) (k := decide (z = y1)) (t_is (t_cmpD op_eq (by rfl) (e_var (v := V.str z) 13) (e_var (v := V.str y1) 5) (r_eq (x := V.str z) (y := V.str y1) rfl)) (by by_cases h : z = y1 <;> simp [h])) (fun k => ?_) fun k => ?_) fun v H' _ q => ?_
          · rw [if_pos (of_decide_eq_true k), ← hkk]
            exact e_bltD (call_minS rfl) mn (a_consD (e_var (v := V.str y1) 5) (a_consD (e_var (v := V.str y2) 6) a_nil)) (Cm.ret (fun _ _ _ q => ⟨y1, y2, rfl, q⟩) (.const rfl))
          · rw [if_neg (of_decide_eq_false k)]
            exact e_var (v := V.str z) 13
          · rw [ea, show v = V.str (if z = y1 then kk else z) from q, take_snoc hz, List.filter_append, List.map_append, List.map_append, List.filter_cons_of_pos (by exact c), List.filter_nil] <;> rfl
        · refine .const ?_
          rw [ea, take_snoc hz, List.filter_append, List.filter_cons_of_neg (by rw [c]; exact Bool.false_ne_true), List.filter_nil, List.append_nil]
      · have ea : acc = _ := pacc.now
        rw [List.length_map, List.take_length] at ea
        have el : (((y0 :: y1 :: y2 :: y3 :: r).filter fun z => !decide (z = y2)).map fun z => if z = y1 then kk else z) = y0 :: kk :: y3 :: r := by
          have f2 := (drawn_left nds (by simp) (k := y1) (g := y2) (.inl ⟨rfl, rfl⟩)).2.1
          rw [f2]
          have k3 : (y3 :: r).map (fun z => if z = y1 then kk else z) = y3 :: r := (List.map_congr_left fun z hz => if_neg fun e => by
            have : z ∉ y1 :: y3 :: r ∨ True := .inr trivial
            rcases List.mem_cons.mp hz with e2 | e2
            · exact nd.2.1.2.1 (by rw [← e, e2])
            · exact nd.2.1.2.2 (by rw [← e]; exact e2)).trans (List.map_id _)
          show (if y0 = y1 then kk else y0) :: (if y1 = y1 then kk else y1) :: (y3 :: r).map _ = _
          rw [k3, if_neg nd.1.1, if_pos rfl]
        rw [el] at ea
        subst ea
        exact fun H' e' => ⟨a, rfl, e' _ _ ha⟩
      obtain ⟨a, rfl, ha⟩ := p3.now
      have R3' := R2.ex g3.k
      have hq3 := g3.k _ _ hq
      obtain ⟨dx, q1, q2, q3, hi⟩ := At.ins R3'.a2
      have lks := around_lks nds (show 3 ≤ (y0 :: y1 :: y2 :: y3 :: r).length by rw [hn]; exact n3)
      have m12 : lk (y1, y2) ∈ x2.ls := R3'.l2.mem_iff.mpr ((around_mem (by rw [hn]; exact n3)).mpr ⟨1, y1, y2, rfl, by rw [hn, Nat.mod_eq_of_lt (by omega)] <;> rfl, rfl⟩)
      have dl : (y0 :: kk :: y3 :: r).length = n - 1 := by simp only [List.length_cons]; omega
      refine b_ret (P := is (V.bl true)) g3.s (e_eqU (P1 := RDrawn C (x2, (y1, y2))) (P2 := RRing C (y0 :: kk :: y3 :: r)) N.eq (rr.mono (by decide)) (e_meth M.drawn F.cls (rr.mono (by decide)) (e_item (j := 1) (e_var 4) e_int (.sql (SqL.of R3'.ht)) rfl) (.at hi) rfl (a_cons (P := pr (y1, y2)) (e_tup (a_consD (e_var (v := V.str y1) 5) (a_consD (e_var (v := V.str y2) 6) a_nil)) (fun xs _ z => by rw [show xs = _ from z]; exact (by decide : 2 ≤ 100000)) fun ys q H3 e3 z hq => ?_) a_nil) fun vs H4 e4 z => ?_)
        (e_r31 (by rw [dl]; omega) (Cm.imp (c_three (C := C) (ys := y0 :: kk :: y3 :: r) (m := n - 1) FT (rr.mono (by decide)) (Cm.imp (e_var (v := V.ref a) 12) fun v H' e z => ⟨a, z, e _ _ ha⟩) (t_is (e_opD op_sub (e_var 2) e_int (r_I0 (g := fun i j => V.int (i - j)) (i := (n : Int)) (j := 1))) (by congr 1; omega)) (by omega) (by omega) (by rw [dl]; exact Nat.le_refl _) (by rw [dl]; omega) d3.nd d3.nm) fun v H' _ z => by rw [← dl, List.take_length] at z; exact z) e_int) fun v w H' z1 z2 => ?_) fun v H4 Hc4 g4 z => rt v _ _ (((g1.trans g2).trans g3).trans g4) z.now
      · rw [show ys = _ from z.now] at hq
        exact fun H' e' => ⟨q, rfl, e' _ _ hq⟩
      · obtain ⟨_, _, rfl, ⟨c, rfl, hc⟩, rfl⟩ := z.now
        exact ⟨(x2, (y1, y2)), fun H' e => ⟨c, rfl, SqT.of (e _ _ hc), At.ex (e4.trans e) R3'.a2, ⟨nds.nm _ (by simp), nds.nm _ (by simp), n12⟩, m12⟩, fun v H' _ q => q⟩
      · obtain ⟨c, ns, ls, rfl, hA, hns, hls, nt⟩ := z1
        have hns : ns.Perm (x2.ns.filter fun z => !decide (z = (lk (y1, y2)).2)) := hns
        have hls : ∀ q, q ∈ ls ↔ ∃ p ∈ x2.ls, fr (lk (y1, y2)).1 (lk (y1, y2)).2 p.1 ≠ fr (lk (y1, y2)).1 (lk (y1, y2)).2 p.2 ∧ q = lnk (fr (lk (y1, y2)).1 (lk (y1, y2)).2 p.1) (fr (lk (y1, y2)).1 (lk (y1, y2)).2 p.2) := hls
        rw [elk] at hns hls
        have pn : ns.Perm (y0 :: kk :: y3 :: r) := by rw [← d2]; exact hns.trans (R3'.n2.filter _)
        have pl : ls.Perm ((around (y0 :: kk :: y3 :: r)).map lk) := (List.perm_ext_iff_of_nodup nt.nl (around_lks d3 (by rw [dl]; omega)).2).mpr fun q => by
          rw [hls, ← d1, ← around_drawn nds (by rw [hn]; omega) rfl rfl hk2]
          constructor
          · rintro ⟨p, hp, y⟩; exact ⟨p, R3'.l2.mem_iff.mp hp, y⟩
          · rintro ⟨p, hp, y⟩; exact ⟨p, R3'.l2.mem_iff.mpr hp, y⟩
        exact ⟨ns, ls, ⟨c, rfl, hA, nt⟩, made_is z2 nt pn pl⟩
  · have hk : ¬ 3 < (n : Int) := of_decide_eq_false hk
    have R1 := R.ex g1.k
    match xs, hn with
    | [], hn => exact absurd hn (by simp only [List.length_nil]; omega)
    | [_], hn => exact absurd hn (by simp only [List.length_cons, List.length_nil]; omega)
    | [_, _], hn => exact absurd hn (by simp only [List.length_cons, List.length_nil]; omega)
    | _ :: _ :: _ :: _ :: r, hn => exact absurd hn (by simp only [List.length_cons]; omega)
    | [y0, y1, y2], hn =>
      refine b_ret (P := is (V.bl true)) g1.s (e_eqU (P1 := IsNet C x2.ns x2.ls) (P2 := IsNet C x2.ns x2.ls) N.eq (rr.mono (by decide)) (c_isN (e_item (j := 1) (e_var 4) e_int (.sql (SqL.of R1.ht)) rfl) (At.isNet R1.a2)) (c_isN (e_item (j := 2) (e_var 4) e_int (.sql (SqL.of R1.ht)) rfl) ?_) fun v w H' z1 z2 => ⟨_, _, z1, z2⟩) fun v H4 Hc4 g4 z => rt v _ _ (g1.trans g4) z.now
      have en : x3.ns = x2.ns := sortN_uniq R1.a3.2.sn R1.a2.2.sn (R1.n3.trans R1.n2.symm)
      have el : x3.ls = x2.ls := sortP_uniq R1.a3.2.sp R1.a2.2.sp ((R1.l3.trans three_full.symm).trans R1.l2.symm)
      rw [← en, ← el]
      exact At.isNet R1.a3
end
end K19
set_option Elab.async false
set_option linter.all false
set_option maxRecDepth 100000
set_option maxHeartbeats 4000000
namespace K19
open PySem L2 LW
theorem ts_app {H : Hp} : ∀ {ts us : List Addr} {ps qs : List (Str × Str)}, TsAt H ts ps → TsAt H us qs → TsAt H (ts ++ us) (ps ++ qs)
  | _, _, _, _, .nil, h => h
  | _, _, _, _, .cons a b, h => .cons a (ts_app b h)
section
variable {P : Program} {w : World} {K : PySem.W.Frag} {mg : Str → Option Value} {base : Heap} {ff C : Addr} {cdv : Value} {Ar : Around} {outer : List Env} {s : Shared} {H0 : Hp} {E : XK} {D : Ends} {H Hc : Hp} {p b l t : Addr} {n : Nat} {xs : List Str} {x1 x2 x3 : NetV} {s5 s6 s7 s8 s9 s10 s11 : Option V}
/-- the ring turned, the row turned round: from 10 on -/
theorem size_tail10 (B : Blt K mg) (mn : mg "min" = none) (F : NetF K mg C) (N : NetM P w K mg base C) (M : NetM2 P w K mg base C) (FT : Fn P w K mg base "_law_three" 8 (AThree K) (RThree C))
    (hr : RoomG 11 (fx P w K mg base nSizeR "_law_size_right" sSizeR ff cdv Ar outer s H0 E).A) (ex : Ex H Hc) (R : RowN C xs t l x1 x2 x3 H) (nds : Nds xs) (hn : xs.length = n) (n3 : 3 ≤ n) (n7 : n ≤ 7)
    {tu b0 b1 : Addr} {w1 w2 w3 u1 u2 u3 : V} (htu : H tu = some (.lst [.ref b0, .ref b1])) (hb0 : H b0 = some (.lst [w1, w2, w3])) (hb1 : H b1 = some (.lst [u1, u2, u3]))
    (i1 : IsNet C x2.ns x2.ls w2 H) (i2 : IsNet C x3.ns x3.ls w3 H) (i3 : IsNet C x1.ns x1.ls u1 H) (i4 : IsNet C x2.ns x2.ls u2 H)
    (rt : ∀ v Hn H3, Grow H Hc Hn H3 → v = .bl true → D.rt v H3) :
    wB (fx P w K mg base nSizeR "_law_size_right" sSizeR ff cdv Ar outer s H0 E) ((defBody sSizeR).drop 10) D [some (.ref p), some (.ref b), some (.int (n : Int)), some (.ref l), some (.ref t), s5, s6, s7, s8, s9, s10, some (.ref tu), none, none] Hc := by
  have rr := hr.r
  refine b_ifF ex (t_w (w_or (k := false) (k' := false) (t_neI N.eq M.ne (rr.mono (by decide)) (c_isN (e_item (j := 1) (e_item (j := 0) (e_var 11) e_int (.sql (SqL.of htu)) rfl) e_int (.sql (SqL.of hb0)) rfl) i1) (c_isN (e_item (j := 1) (e_var 4) e_int (.sql (SqL.of R.ht)) rfl) (At.isNet R.a2))) fun _ =>
    w_or (k := false) (k' := false) (t_neI N.eq M.ne (rr.mono (by decide)) (c_isN (e_item (j := 1) (e_item (j := 1) (e_var 11) e_int (.sql (SqL.of htu)) rfl) e_int (.sql (SqL.of hb1)) rfl) i4) (c_isN (e_item (j := 1) (e_var 4) e_int (.sql (SqL.of R.ht)) rfl) (At.isNet R.a2))) fun _ =>
      w_or1 (t_neI N.eq M.ne (rr.mono (by decide)) (c_isN (e_item (j := 0) (e_item (j := 1) (e_var 11) e_int (.sql (SqL.of htu)) rfl) e_int (.sql (SqL.of hb1)) rfl) i3) (c_isN (e_item (j := 0) (e_var 4) e_int (.sql (SqL.of R.ht)) rfl) (At.isNet R.a1))))) fun H1 Hc1 g1 => b_nil ?_
  have R1 := R.ex g1.k
  have htu1 := g1.k _ _ htu
  have hb01 := g1.k _ _ hb0
  obtain ⟨z, a, hz, ha, ea⟩ := around_of (show 3 ≤ xs.length by omega)
  obtain ⟨dx, q1, q2, q3, hi2⟩ := At.ins R1.a2
  obtain ⟨dy, q4, q5, q6, hi1⟩ := At.ins R1.a1
  have l0 : (xs.map V.str).length = xs.length := List.length_map _
  have nza : a ≠ z := fun q => by rw [q] at ha; have := nd_at nds.nd hz ha; omega
  have lkm : lk (a, z) ∈ (around xs).map lk := by
    rw [ea, List.map_append]
    exact List.mem_append_right _ (List.mem_singleton.mpr (lnk_comm a z))
  have ma := List.mem_of_getElem? ha
  have mz := List.mem_of_getElem? hz
  obtain ⟨fs, hbin, hsub⟩ := M.sub
  refine b_ifF g1.s (t_w (w_or (k := false) (k' := false) (t_neI N.eq M.ne (rr.mono (by decide)) (c_isN (e_item (j := 2) (e_item (j := 0) (e_var 11) e_int (.sql (SqL.of htu1)) rfl) e_int (.sql (SqL.of hb01)) rfl) (isNet_ex g1.k i2)) (c_isN (e_item (j := 2) (e_var 4) e_int (.sql (SqL.of R1.ht)) rfl) (At.isNet R1.a3))) fun _ =>
    w_or (k := false) (k' := false) (t_neI (ns := x1.ns) (ls := x1.ls) N.eq M.ne (rr.mono (by decide)) (Cm.imp (e_binT hbin hsub (rr.mono (by decide)) (e_item (j := 1) (e_var 4) e_int (.sql (SqL.of R1.ht)) rfl) (.at hi2) (e_tup (P := fun v H' => ∃ b, v = .ref b ∧ H' b = some (.tup [.str a, .str z])) (a_consD (v := V.str a) (e_item (j := 0) (e_var 3) e_int (.sql (SqL.of R1.hl)) (by rw [List.getElem?_map, ha] <;> rfl)) (a_consD (v := V.str z) (e_ixD ix_list (e_var (v := V.ref l) 3) (e_un un_neg e_int (Cm.ret (fun _ _ _ q => ⟨1, rfl, q⟩) (.const rfl))) (r_ixL (.sql (SqL.of R1.hl)) (atI_neg1 (by rw [l0, List.getElem?_map, hz] <;> rfl)))) a_nil)) (fun xs _ z => by rw [show xs = _ from z]; exact (by decide : 2 ≤ 100000)) fun ys q H3 e3 z hq => ?_) (x2, (a, z))
        fun c H2 e2 hc H' e => ⟨c, rfl, SqT.of (e _ _ hc), At.ex (e2.trans e) R1.a2, ⟨nds.nm _ ma, nds.nm _ mz, nza⟩, R1.l2.mem_iff.mpr lkm⟩) fun v H' e2 y => ?_) (c_isN (e_item (j := 0) (e_var 4) e_int (.sql (SqL.of R1.ht)) rfl) (At.isNet R1.a1))) fun _ =>
      w_or1 (t_not (k := true) (t_val (e_meth M.part F.cls (rr.mono (by decide)) (e_item (j := 0) (e_var 4) e_int (.sql (SqL.of R1.ht)) rfl) (.at hi1) rfl (a_consD (e_item (j := 1) (e_var 4) e_int (.sql (SqL.of R1.ht)) rfl) a_nil) fun vs H4 e4 y => ⟨(x1, x2), ?_, fun v H' _ q => q⟩))))) fun H2 Hc2 g2 => b_nil ?_
  · rw [show ys = _ from z.now] at hq
    exact fun H' e' => ⟨q, rfl, e' _ _ hq⟩
  · obtain ⟨c, rfl, hA, nt⟩ := y
    have el : without x2.ls (lk (a, z)) = x1.ls := sortP_uniq nt.sp R1.a1.2.sp ((around_without nds (by omega) hz ha R1.l2).trans R1.l1.symm)
    have en : x2.ns = x1.ns := sortN_uniq R1.a2.2.sn R1.a1.2.sn (R1.n2.trans R1.n1.symm)
    have hA : NetAt C c x2.ns (without x2.ls (lk (a, z))) H' := hA
    have nt : Nt x2.ns (without x2.ls (lk (a, z))) := nt
    rw [el, en] at hA nt
    exact ⟨c, rfl, hA, nt⟩
  · obtain rfl := y.now
    refine fun H' e => ⟨rfl, At.ex (e4.trans e) R1.a1, At.ex (e4.trans e) R1.a2, fun y hy => R1.n2.mem_iff.mpr (R1.n1.mem_iff.mp hy), fun y hy => R1.l2.mem_iff.mpr ?_⟩
    rw [ea, List.map_append]
    exact List.mem_append_left _ (R1.l1.mem_iff.mp hy)
  exact size_tail12 B mn F N M FT hr g2.s (R1.ex g2.k) nds hn n3 n7 fun v Hn H3 g e => rt v _ _ ((g1.trans g2).trans g) e
/-- from 7 on -/
theorem size_tail7 (B : Blt K mg) (mn : mg "min" = none) (F : NetF K mg C) (N : NetM P w K mg base C) (M : NetM2 P w K mg base C) (FT : Fn P w K mg base "_law_three" 8 (AThree K) (RThree C)) (FK : Fn P w K mg base "_law_link" 1 AP2 RLkO) (FD : Fn P w K mg base "_law_draw" 1 AD RD) (FI : Gn P w K mg base "_law_is" 8 (AIs C K) RTrue)
    (hr : RoomG 11 (fx P w K mg base nSizeR "_law_size_right" sSizeR ff cdv Ar outer s H0 E).A) (ex : Ex H Hc) (R : RowN C xs t l x1 x2 x3 H) (nds : Nds xs) (hn : xs.length = n) (n3 : 3 ≤ n) (n7 : n ≤ 7) (hp : H p = some (PotO p))
    {q : Addr} {ts : List Addr} (hq : H q = some (.lst (ts.map V.ref))) (hts : TsAt H ts ((along xs).map lk))
    (rt : ∀ v Hn H3, Grow H Hc Hn H3 → v = .bl true → D.rt v H3) :
    wB (fx P w K mg base nSizeR "_law_size_right" sSizeR ff cdv Ar outer s H0 E) ((defBody sSizeR).drop 7) D [some (.ref p), some (.ref b), some (.int (n : Int)), some (.ref l), some (.ref t), s5, s6, some (.ref q), s8, s9, none, none, none, none] Hc := by
  have rr := hr.r
  have h3 : 3 ≤ xs.length := by omega
  obtain ⟨z, a, hz, ha, ea⟩ := around_of h3
  have l0 : (xs.map V.str).length = xs.length := List.length_map _
  have lks := around_lks nds h3
  have lar : (around xs).length ≤ 60 := by
    rw [ea, List.length_append, List.length_singleton]
    unfold along
    rw [List.length_zip]
    omega
  have lts := hts.length
  have lal : ((along xs).map lk).length ≤ 60 := by
    rw [List.length_map]
    unfold along
    rw [List.length_zip]
    omega
  refine b_ifF ex (t_not (k := true) (t_val (e_callG FI (hr.mono (by decide)) (a_cons (P := is (V.ref x2.a)) (e_item (j := 1) (e_var 4) e_int (.sql (SqL.of R.ht)) rfl) (a_cons (P := is (V.ref l)) (e_var 3) (a_cons (P := RPs ((around xs).map lk)) (e_op (Pa := is (V.ref q)) (Pb := RPs [lk (z, a)]) op_cat (e_var 7) (e_lst (a_cons (P := pr (lk (a, z))) (e_callD (a, z) FK (rr.mono (by decide)) (a_consD (v := V.str a) (e_item (j := 0) (e_var 3) e_int (.sql (SqL.of R.hl)) (by rw [List.getElem?_map, ha] <;> rfl)) (a_consD (v := V.str z) (e_ixD ix_list (e_var (v := V.ref l) 3) (e_un un_neg e_int (Cm.ret (fun _ _ _ q => ⟨1, rfl, q⟩) (.const rfl))) (r_ixL (.sql (SqL.of R.hl)) (atI_neg1 (by rw [l0, List.getElem?_map, hz] <;> rfl)))) a_nil)) (.const rfl)) a_nil) (fun xs _ z => ?_) fun ys d H3 e3 y hd => ?_) fun u v H1 e1 y1 y2 => ?_) a_nil))) fun vs H4 e4 y => ?_))) fun H1 Hc1 g1 => b_nil ?_
  · obtain ⟨_, _, rfl, _, rfl⟩ := z
    exact (by decide : 1 ≤ 100000)
  · obtain ⟨_, _, rfl, ⟨c, rfl, hc⟩, rfl⟩ := y.now
    have e : lk (a, z) = lk (z, a) := lnk_comm a z
    rw [e] at hc
    exact fun H' e' => ⟨d, [c], rfl, e' _ _ hd, .cons (e' _ _ hc) .nil⟩
  · obtain rfl := y1.now
    obtain ⟨d, us, rfl, hd, hu⟩ := y2.now
    have e : (around xs).map lk = (along xs).map lk ++ [lk (z, a)] := by rw [ea, List.map_append] <;> rfl
    refine fun Hc ex Q y => ⟨q, d, _, _, rfl, rfl, ex _ _ (e1 _ _ hq), ex _ _ hd, Evl.sz_of (by rw [List.length_map, List.length_map, lts, hu.length]; simp only [List.length_cons, List.length_nil]; omega), fun c hc => y _ _ _ (Grow.new ex hc) fun H' e' => ⟨c, ts ++ us, rfl, ?_, ?_⟩⟩
    · rw [List.map_append]; exact e' _ _ upd_same
    · rw [e]
      exact ts_app (paired_ex (e1.trans ((Evl.Ex.new (Evl.fresh_back ex hc)).trans e')) hts) (paired_ex ((Evl.Ex.new (Evl.fresh_back ex hc)).trans e') hu)
  · obtain ⟨_, _, rfl, rfl, _, _, rfl, rfl, _, _, rfl, ⟨c, us, rfl, hc, hu⟩, rfl⟩ := y.now
    exact ⟨⟨x2, xs, (around xs).map lk⟩, fun H' e => ⟨l, c, us, rfl, At.ex (e4.trans e) R.a2, SqL.of ((e4.trans e) _ _ R.hl), SqL.of (e _ _ hc), paired_ex e hu, ⟨nds, lks_of lks.1 lks.2 lar, R.n2, R.l2⟩⟩, fun v _ _ q => q⟩
  have R1 := R.ex g1.k
  refine b_set 10 g1.s (P := RD (p, (n : Int))) (e_callD (p, (n : Int)) FD (rr.mono (by decide)) (a_consD (e_var 0) (a_consD (e_var 2) a_nil)) (fun H' e => ad (e _ _ (g1.k _ _ hp)) (by omega) (by omega))) (fun v H2 Hc2 g2 p2 => ?_) scSizeR.nd
  obtain ⟨r, rfl, r0, r1⟩ := p2.now
  have r1 : r < (n : Int) := r1
  obtain ⟨k, rfl⟩ : ∃ k : Nat, r = (k : Int) := ⟨r.toNat, by omega⟩
  have hk : k < xs.length := by omega
  have R2 := R1.ex g2.k
  have ly : (xs.drop k ++ xs.take k).length = n := by rw [List.length_append, List.length_drop, List.length_take]; omega
  have py : (xs.drop k ++ xs.take k).Perm xs := List.perm_append_comm.trans (List.Perm.of_eq (List.take_append_drop k xs))
  have Ny : Nds (xs.drop k ++ xs.take k) := ⟨by omega, fun e => by rw [e] at ly; simp at ly; omega, py.nodup_iff.mpr nds.nd, fun x hx => nds.nm x (py.mem_iff.mp hx)⟩
  have lr : xs.reverse.length = n := by rw [List.length_reverse]; exact hn
  have pr' : xs.reverse.Perm xs := List.reverse_perm xs
  have Nr : Nds xs.reverse := ⟨by omega, fun e => by rw [e] at lr; simp at lr; omega, pr'.nodup_iff.mpr nds.nd, fun x hx => nds.nm x (pr'.mem_iff.mp hx)⟩
  have al : ∀ {ys : List Str}, 3 ≤ ys.length → ys.length = xs.length → ((around ys).map lk).length = ((around xs).map lk).length := fun {ys} y3 e => by
    obtain ⟨_, _, _, _, e1⟩ := around_of y3
    rw [e1, ea, List.length_map, List.length_map, List.length_append, List.length_append]
    unfold along
    rw [List.length_zip, List.length_zip, List.length_drop, List.length_drop, e] <;> rfl
  have pay : ((around (xs.drop k ++ xs.take k)).map lk).Perm ((around xs).map lk) := perm_sub (around_lks Ny (by omega)).2 lks.2 (fun q hq => around_turn h3 hk hq) (Nat.le_of_eq (al (by omega) (by omega)).symm)
  have par : ((around xs.reverse).map lk).Perm ((around xs).map lk) := perm_sub (around_lks Nr (by omega)).2 lks.2 (fun q hq => around_rev h3 hq) (Nat.le_of_eq (al (by omega) (by omega)).symm)
  have pal : ((along xs.reverse).map lk).Perm ((along xs).map lk) := (List.perm_ext_iff_of_nodup (along_lks Nr).2 (along_lks nds).2).mpr fun q => along_rev_iff
  refine b_set 11 g2.s (P := fun v H' => ∃ tu b0 b1 w1 w2 w3 u1 u2 u3, v = .ref tu ∧ H' tu = some (.lst [.ref b0, .ref b1]) ∧ H' b0 = some (.lst [w1, w2, w3]) ∧ H' b1 = some (.lst [u1, u2, u3]) ∧ IsNet C x2.ns x2.ls w2 H' ∧ IsNet C x3.ns x3.ls w3 H' ∧ IsNet C x1.ns x1.ls u1 H' ∧ IsNet C x2.ns x2.ls u2 H')
    (e_lst (a_cons (P := R3 C (xs.drop k ++ xs.take k)) (Cm.imp (c_three (C := C) (ys := xs.drop k ++ xs.take k) (m := n) FT (rr.mono (by decide)) (Cm.imp (e_cat (e_slLo (n := k) (e_var (v := V.ref l) 3) (e_var 10) (.sql (SqL.of R2.hl)) (by rw [l0]; omega)) (e_slHi (n := k) (e_var (v := V.ref l) 3) (e_var 10) (.sql (SqL.of R2.hl)) (by rw [l0]; omega)) (by simp only [List.length_drop, List.length_take, List.length_map]; omega)) fun v H' _ q => by rw [List.map_append, List.map_drop, List.map_take]; exact q) (e_var 2) (by omega) n7 (by omega) (by omega) Ny.nd Ny.nm) fun v H' _ y => by rw [List.take_of_length_le (by omega)] at y; exact y)
      (a_cons (P := R3 C xs.reverse) (Cm.imp (c_three (C := C) (ys := xs.reverse) (m := n) FT (rr.mono (by decide)) (Cm.imp (e_revL (e_var (v := V.ref l) 3) (.sql (SqL.of R2.hl))) fun v H' _ q => by rw [List.map_reverse]; exact q) (e_var 2) (by omega) n7 (by omega) (by omega) Nr.nd Nr.nm) fun v H' _ y => by rw [List.take_of_length_le (by omega)] at y; exact y) a_nil)) (fun xs _ z => ?_) fun ys d H3 e3 y hd => ?_) (fun v H3 Hc3 g3 p3 => ?_) scSizeR.nd
  · obtain ⟨_, _, rfl, _, _, _, rfl, _, rfl⟩ := z
    exact (by decide : 2 ≤ 100000)
  · obtain ⟨_, _, rfl, ⟨b0, w1, w2, w3, rfl, hb0, y1, y2, y3⟩, _, _, rfl, ⟨b1, u1, u2, u3, rfl, hb1, y4, y5, y6⟩, rfl⟩ := y.now
    rw [if_pos (by omega)] at y2 y5
    have m1 : IsNet C x2.ns x2.ls w2 H3 := made_is y2 R2.a2.2 (R2.n2.trans py.symm) (R2.l2.trans pay.symm)
    have m2 : IsNet C x3.ns x3.ls w3 H3 := made_is y3 R2.a3.2 (R2.n3.trans py.symm) (R2.l3.trans (full_perm nds Ny py).symm)
    have m3 : IsNet C x1.ns x1.ls u1 H3 := made_is y4 R2.a1.2 (R2.n1.trans pr'.symm) (R2.l1.trans pal.symm)
    have m4 : IsNet C x2.ns x2.ls u2 H3 := made_is y5 R2.a2.2 (R2.n2.trans pr'.symm) (R2.l2.trans par.symm)
    exact fun H' e => ⟨d, b0, b1, w1, w2, w3, u1, u2, u3, rfl, e _ _ hd, e _ _ hb0, e _ _ hb1, isNet_ex e m1, isNet_ex e m2, isNet_ex e m3, isNet_ex e m4⟩
  obtain ⟨tu, b0, b1, w1, w2, w3, u1, u2, u3, rfl, htu, hb0, hb1, i1, i2, i3, i4⟩ := p3.now
  exact size_tail10 B mn F N M FT hr g3.s (R2.ex g3.k) nds hn n3 n7 htu hb0 hb1 i1 i2 i3 i4 fun v Hn H4 g e => rt v _ _ (((g1.trans g2).trans g3).trans g) e
end
end K19
set_option Elab.async false
set_option linter.all false
set_option maxRecDepth 100000
set_option maxHeartbeats 4000000
namespace K19
open PySem L2 LW
theorem ts_nil {H : Hp} : TsAt H [] [] := .nil
section
variable {P : Program} {w : World} {K : PySem.W.Frag} {mg : Str → Option Value} {base : Heap} {f fi C : Addr} {fd : FuncData}
theorem b_sizeR (B : Blt K mg) (BL : BltL mg) (mn : mg "min" = none) (mz : mg "zip" = none) (F : NetF K mg C) (N : NetM P w K mg base C) (M : NetM2 P w K mg base C) (FT : Fn P w K mg base "_law_three" 8 (AThree K) (RThree C)) (FK : Fn P w K mg base "_law_link" 1 AP2 RLkO) (FD : Fn P w K mg base "_law_draw" 1 AD RD)
    (FI : Gn P w K mg base "_law_is" 8 (AIs C K) RTrue) : BodyG P w K mg base nSizeR "_law_size_right" sSizeR f 11 (ASizeR K) RTrue := by
  intro cdv Ar outer s H0 E x vs H Hc D hr ex pa rt nx
  obtain ⟨⟨p, ns⟩, n⟩ := x
  obtain ⟨b, rfl, hp, hb, S, n1, n7⟩ := pa.now
  have hp : H p = some (PotO p) := hp
  have hb : SqL K H b (ns.map V.str) := hb
  have S : Seven ns := S
  have n1 : 1 ≤ n := n1
  have n7 : n ≤ 7 := n7
  have rr := hr.r
  have ls := S.len
  have lxs : (ns.take n).length = n := by rw [List.length_take]; omega
  have nds : Nds (ns.take n) := ⟨by omega, fun e => by rw [e] at lxs; simp at lxs; omega, S.nd.sublist (List.take_sublist _ _), fun z hz => S.nm z (List.mem_of_mem_take hz)⟩
  refine b_par 3 4 (Pa := fun ws H' => ∃ u us, ws = u :: us ∧ nl ((ns.take n).map V.str) u H' ∧ ∃ u2 us2, us = u2 :: us2 ∧ R3 C (ns.take n) u2 H' ∧ us2 = []) ex rfl scSizeR.nd (a_cons (Cm.imp (e_slHi (n := n) (e_var (v := V.ref b) 1) (e_var 2) (.sql hb) (by rw [List.length_map]; omega)) fun v H' _ q => by rw [List.map_take]; exact q)
    (a_cons (e_callD (ns, n) FT (rr.mono (by decide)) (a_consD (e_var 1) (a_consD (e_var 2) a_nil)) (fun H' e => ⟨b, rfl, Evl.ex_l e hb, n1, n7, by show n ≤ ns.length; omega, by show ns.length ≤ 7; omega, S.nd, S.nm⟩)) a_nil)) (fun vs H' ⟨u, us, e, _, u2, us2, e2, _, e3⟩ => ⟨u, u2, by rw [e, e2, e3]⟩) fun v1 v2 H1 Hc1 g1 p1 => ?_
  obtain ⟨_, _, e1, ⟨l, rfl, hl⟩, _, _, e2, ⟨t, v1, v2, v3, rfl, ht, z1, z2, z3⟩, _⟩ := p1.now
  cases e1
  cases e2
  generalize ns.take n = xs at *
  obtain ⟨a1, ns1, ls1, rfl, hA1, hn1, hl1, nt1⟩ := z1
  obtain ⟨a3, ns3, ls3, rfl, hA3, hn3, hl3, nt3⟩ := z3
  have hl1 : ls1.Perm ((along xs).map lk) := hl1
  have hl3 : ls3.Perm ((fullP xs).map lk) := hl3
  have hp1 := g1.k _ _ hp
  have al := along_lks nds
  have lal : (along xs).length = n - 1 := by
    unfold along
    rw [List.length_zip, List.length_drop]
    omega
  -- pairs
  refine b_setLc 7 (own := [("_law_this", 5), ("_law_mate", 6)]) (g := gTup K 2 (gCons (gName 5) (gCons (gName 6) gNil))) (P := RPs ((along xs).map lk)) g1.s rfl scSizeR.nd rfl rfl rfl (pi_zip rfl mz pa_w) (blkOk_by (N := nSizeR) (sc := defScope sSizeR) (by decide +kernel)) (fun _ _ _ _ _ => pg_tup rfl (pgs_cons (pg_name (i := 5) scSizeR.nd rfl (.inl rfl)) (pgs_cons (pg_name (i := 6) scSizeR.nd rfl (.inl rfl)) pgs_nil))) (fun _ _ _ _ _ => pts_nil)
    (c_lc (i_zip (xs := xs.map V.str) (ys := (xs.map V.str).drop 1) (Cm.imp (a_cons (P := is (V.ref l)) (e_var 3) (a_cons (e_slLo (n := 1) (e_var (v := V.ref l) 3) e_int (.sql (SqL.of hl)) (by rw [List.length_map]; omega)) a_nil)) fun ws H' e z => ?_)) (by rw [List.length_drop, List.length_map]; omega) (fun i acc H' => ∃ us, acc = us.map V.ref ∧ TsAt H' us (((along xs).map lk).take i)) (fun _ => ⟨[], rfl, .nil⟩) (fun i y acc H9 hi e9 py pacc => ?_) fun acc a H9 e9 pacc ha => ?_) fun v H2 Hc2 g2 p2 => ?_
  · obtain ⟨_, _, rfl, rfl, _, _, rfl, ⟨c, rfl, hc⟩, rfl⟩ := z
    exact ⟨l, c, rfl, SqL.of (e _ _ hl), SqL.of hc⟩
  · rw [List.length_drop, List.length_map] at hi
    obtain ⟨T, u, v, rfl, hT, hu, hv⟩ := py.now
    obtain ⟨x, hx, rfl⟩ := txt_get hu
    rw [drop_map] at hv
    obtain ⟨y, hy, rfl⟩ := txt_get hv
    have hal : (along xs)[i]? = some (x, y) := by
      unfold along
      rw [List.getElem?_zip_eq_some]
      exact ⟨hx, hy⟩
    refine ⟨_, true, bind_two (.sqt (SqT.of hT)), rfl, c_yes, fun _ => c_eb fun s H0 C cl fp => ?_, fun q => nomatch q⟩
    refine Cm.imp (e_callD (x, y) FK (rr.mono (by decide)) (a_consD (e_var (v := V.str x) 5) (a_consD (e_var (v := V.str y) 6) a_nil)) (.const rfl)) fun v H' e z => ?_
    obtain ⟨d, rfl, hd⟩ := z
    obtain ⟨us, rfl, hu⟩ := pacc H' e
    refine ⟨us ++ [d], by simp, ?_⟩
    rw [take_snoc (x := lk (x, y)) (by rw [List.getElem?_map, hal] <;> rfl)]
    exact ts_snoc hd hu
  · obtain ⟨us, rfl, hu⟩ := pacc.now
    rw [List.take_of_length_le (by rw [List.length_map, lal, List.length_drop, List.length_map]; omega)] at hu
    exact fun H' e' => ⟨a, us, rfl, e' _ _ ha, paired_ex e' hu⟩
  obtain ⟨q, ts, rfl, hq, hts⟩ := p2.now
  have hl2 := g2.k _ _ hl
  have ht2 := g2.k _ _ ht
  refine b_ifF g2.s (t_not (k := true) (t_val (e_callGD ⟨⟨a1, ns1, ls1⟩, xs, (along xs).map lk⟩ FI (hr.mono (by decide)) (a_consD (e_item (j := 0) (e_var 4) e_int (.sql (SqL.of ht2)) rfl) (a_consD (e_var 3) (a_consD (e_var 7) a_nil))) fun H' e => ⟨l, q, ts, rfl, ⟨hA1.ex (g2.k.trans e), nt1⟩, SqL.of (e _ _ hl2), SqL.of (e _ _ hq), paired_ex e hts, ⟨nds, lks_of al.1 al.2 (by omega), hn1, hl1⟩⟩))) fun H3 Hc3 g3 => b_nil ?_
  -- every
  refine b_lnew 8 g3.s (fun m hm => ?_) scSizeR.nd
  have hmH : H3 m = none := Evl.fresh_back g3.s hm
  have hl3 := g3.k _ _ hl2
  have ht3 := g3.k _ _ ht2
  have l0 : (xs.map V.str).length = xs.length := List.length_map _
  refine b_for (H := H3) (g := gTup K 2 (gCons (gName 9) (gCons (gName 5) gNil))) (g3.s.trans (Evl.Ex.new hm)) PassesOwn.never rfl (pi_enum rfl B.enum pa_w) (i_enum (xs := xs.map V.str) (Cm.imp (a_consD (e_var (v := V.ref l) 3) a_nil) fun ws H' e z => ⟨l, z, SqL.of (e _ _ hl3)⟩))
    (pg_tup rfl (pgs_cons (pg_name (i := 9) scSizeR.nd rfl (.inl rfl)) (pgs_cons (pg_name (i := 5) scSizeR.nd rfl (.inr rfl)) pgs_nil))) fun H4 Hc4 g4 => ?_
  have gg := (still (g3.s.trans (Evl.Ex.new hm)) (Evl.Ex.new hm)).trans g4
  refine ⟨fun i σ1 H5 Hc5 => ∃ (u1 u2 : Option V) (us : List Addr), σ1 = [some (.ref p), some (.ref b), some (.int (n : Int)), some (.ref l), some (.ref t), u2, none, some (.ref q), some (.ref m), u1, none, none, none, none] ∧ H5 m = none ∧ Hc5 m = some (.lst (us.map V.ref)) ∧ TsAt H5 us (((List.range i).flatMap (frow xs)).map lk) ∧ us.length ≤ i * 7 ∧ Grow H3 Hc3 H5 Hc5,
    ⟨none, none, [], rfl, g4.un upd_same hmH, g4.c _ _ upd_same, .nil, Nat.zero_le _, gg⟩, ?_, ?_⟩
  · rintro i σ1 H5 Hc5 hi e5 e5' ⟨u1, u2, us, rfl, hm5, hc5, hus, hul, g5⟩ y H6 Hc6 g6 py
    rw [l0] at hi
    obtain ⟨T, v, rfl, hT, hv⟩ := py.now
    obtain ⟨x, hx, rfl⟩ := txt_get hv
    refine bind_two (K := K) (.sqt (SqT.of hT)) Hc6 g6.s _ ?_
    have hl6 := (g5.k.trans g6.k) _ _ hl3
    have hc6 := g6.c _ _ hc5
    have n6 := g6.un hc5 hm5
    refine b_ext (l := m) (xs := us.map V.ref) (P := RPs ((frow xs i).map lk)) g6.s (e_var 8) (e_lc (own := [("_law_mate", 6)]) (g := gName 6) rfl scSizeR.nd (pi_list pe_w) (blkOk_by (N := nSizeR) (sc := defScope sSizeR) (by decide +kernel)) (fun _ _ _ _ _ => pg_name (i := 6) scSizeR.nd rfl (.inl rfl)) (fun _ _ _ _ _ => pts_nil)
      (c_lc (i_list (xs := (xs.take i).map V.str) (Cm.imp (e_slHi (n := i) (e_var (v := V.ref l) 3) (e_var (v := V.int (i : Int)) 9) (.sql (SqL.of hl6)) (by rw [l0]; omega)) fun v H' e z => ?_)) (by rw [List.length_map, List.length_take]; omega) (fun j acc H' => ∃ us, acc = us.map V.ref ∧ TsAt H' us (((frow xs i).map lk).take j)) (fun _ => ⟨[], rfl, .nil⟩) (fun j y acc H9 hj e9 py pacc => ?_) fun acc a H9 e9 pacc ha => ?_)) (fun v H' z => ?_) hc6 (by rw [List.length_map]; omega) fun c zs H7 Hc7 g7 p7 hcz => b_nil ?_
    · obtain ⟨c, rfl, hc⟩ := z
      exact ⟨c, rfl, by rw [List.map_take]; exact SqL.of hc⟩
    · rw [List.length_map, List.length_take] at hj
      obtain ⟨z, hz, rfl⟩ := txt_get py.now
      rw [List.getElem?_take_of_lt (by omega)] at hz
      refine ⟨_, true, bind_name, rfl, c_yes, fun _ => c_eb fun s H0 C cl fp => ?_, fun q => nomatch q⟩
      refine Cm.imp (e_callD (x, z) FK (rr.mono (by decide)) (a_consD (e_var (v := V.str x) 5) (a_consD (e_var (v := V.str z) 6) a_nil)) (.const rfl)) fun v H' e y => ?_
      obtain ⟨d, rfl, hd⟩ := y
      obtain ⟨us, rfl, hu⟩ := pacc H' e
      refine ⟨us ++ [d], by simp, ?_⟩
      have fr' : ((frow xs i).map lk)[j]? = some (lk (x, z)) := by
        unfold frow
        rw [List.map_map, List.getElem?_map, List.getElem?_range (by omega)]
        show some (lk (xs.getD i Str.empty, xs.getD j Str.empty)) = _
        rw [Option.some.inj ((at_getD hi).symm.trans hx), Option.some.inj ((at_getD (by omega)).symm.trans hz)]
      rw [take_snoc fr']
      exact ts_snoc hd hu
    · obtain ⟨us, rfl, hu⟩ := pacc.now
      rw [List.take_of_length_le (by unfold frow; simp only [List.length_map, List.length_range, List.length_take]; omega)] at hu
      exact fun H' e' => ⟨a, us, rfl, e' _ _ ha, paired_ex e' hu⟩
    · obtain ⟨c, us, rfl, hc, hu⟩ := z
      refine ⟨c, _, rfl, hc, ?_⟩
      have lu := hu.length
      rw [List.length_map, lu, List.length_map]
      unfold frow
      rw [List.length_map, List.length_range]
      omega
    · obtain ⟨c2, ws, ec, hc2, hws⟩ := p7.now
      cases ec
      have e : zs = ws.map V.ref := by rw [hcz] at hc2; cases hc2; rfl
      subst e
      have n7 : H7 m = none := g7.un hc6 n6
      have lw := hws.length
      refine ⟨H7, (e5.trans g6.k).trans g7.k, g7.s.mut n7, _, _, us ++ ws, rfl, n7, by rw [upd_same, List.map_append] <;> rfl, ?_, ?_, ((g5.trans g6).trans g7).mut hm n7⟩
      · rw [List.range_succ, List.flatMap_append, List.map_append, List.flatMap_cons, List.flatMap_nil, List.append_nil]
        exact ts_app (paired_ex (g6.k.trans g7.k) hus) hws
      · rw [List.length_append, lw, List.length_map]
        unfold frow
        rw [List.length_map, List.length_range]
        omega
  · rintro σ1 H5 Hc5 e5 e5' ⟨u1, u2, us, rfl, hm5, hc5, hus, hul, g5⟩
    rw [l0] at hus
    have g6 := g5.know hm hm5 hc5
    have e56 : Ex H5 (upd H5 m (.lst (us.map V.ref))) := Evl.Ex.new hm5
    have hl6 := g6.k _ _ hl3
    have ht6 := g6.k _ _ ht3
    have e16 := (g2.k.trans g3.k).trans g6.k
    have fl := full_lks nds
    have gAll := ((g1.trans g2).trans g3).trans g6
    refine b_ifF g6.s (t_not (k := true) (t_val (e_callGD ⟨⟨a3, ns3, ls3⟩, xs, (fullP xs).map lk⟩ FI (hr.mono (by decide)) (a_consD (e_item (j := 2) (e_var 4) e_int (.sql (SqL.of ht6)) rfl) (a_consD (e_var 3) (a_consD (e_var 8) a_nil))) fun H' e => ⟨l, m, us, rfl, ⟨hA3.ex (e16.trans e), nt3⟩, SqL.of (e _ _ hl6), SqL.of (e _ _ upd_same), paired_ex (e56.trans e) hus, ⟨nds, lks_of fl.1 fl.2 (full_len (by omega)), hn3, ‹ls3.Perm ((fullP xs).map lk)›⟩⟩))) fun H7 Hc7 g7 => b_nil ?_
    have e17 := e16.trans g7.k
    have hl7 := g7.k _ _ hl6
    have ht7 := g7.k _ _ ht6
    refine b_if g7.s (k := decide ((n : Int) < 3)) (t_cmpD op_lt (by rfl) (e_var 2) e_int (r_I0 (g := fun i j => V.bl (decide (i < j))) (i := (n : Int)) (j := 3))) (fun hk H8 Hc8 g8 => ?_) fun hk H8 Hc8 g8 => b_nil ?_
    · have hk : (n : Int) < 3 := of_decide_eq_true hk
      have lr : xs.reverse.length = n := by rw [List.length_reverse]; exact lxs
      have pr' : xs.reverse.Perm xs := List.reverse_perm xs
      have Nr : Nds xs.reverse := ⟨by omega, fun e => by rw [e] at lr; simp at lr; omega, pr'.nodup_iff.mpr nds.nd, fun x hx => nds.nm x (pr'.mem_iff.mp hx)⟩
      have pal : ((along xs.reverse).map lk).Perm ((along xs).map lk) := (List.perm_ext_iff_of_nodup (along_lks Nr).2 (along_lks nds).2).mpr fun q => along_rev_iff
      have i1 : IsNet C ns1 ls1 (.ref a1) H8 := ⟨a1, rfl, hA1.ex (e17.trans g8.k), nt1⟩
      exact b_ret (P := is (V.bl true)) g8.s (e_eqU (P1 := IsNet C ns1 ls1) (P2 := IsNet C ns1 ls1) N.eq (rr.mono (by decide)) (c_isN (e_item (j := 0) (e_var 4) e_int (.sql (SqL.of (g8.k _ _ ht7))) rfl) i1) (Cm.imp (e_r30 (Cm.imp (c_three (C := C) (ys := xs.reverse) (m := n) FT (rr.mono (by decide)) (Cm.imp (e_revL (e_var (v := V.ref l) 3) (.sql (SqL.of (g8.k _ _ hl7)))) fun v H' _ q => by rw [List.map_reverse]; exact q) (e_var 2) (by omega) n7 (by omega) (by omega) Nr.nd Nr.nm) fun v H' _ y => by rw [List.take_of_length_le (by omega)] at y; exact y) e_int) fun v H' _ y => made_is y nt1 (hn1.trans pr'.symm) (hl1.trans pal.symm)) fun v w H' z1 z2 => ⟨_, _, z1, z2⟩) fun v H9 Hc9 g9 z => rt v _ _ (((gAll.trans g7).trans g8).trans g9) z
    · have hk : ¬ (n : Int) < 3 := of_decide_eq_false hk
      rw [if_pos (by omega)] at z2
      obtain ⟨a2, ns2, ls2, rfl, hA2, hn2, hl2', nt2⟩ := z2
      have e18 := e17.trans g8.k
      have R : RowN C xs t l ⟨a1, ns1, ls1⟩ ⟨a2, ns2, ls2⟩ ⟨a3, ns3, ls3⟩ H8 := ⟨g8.k _ _ hl7, g8.k _ _ ht7, ⟨hA1.ex e18, nt1⟩, ⟨hA2.ex e18, nt2⟩, ⟨hA3.ex e18, nt3⟩, hn1, hn2, hn3, hl1, hl2', ‹ls3.Perm ((fullP xs).map lk)›⟩
      exact size_tail7 B mn F N M FT FK FD FI hr g8.s R nds lxs (by omega) n7 (e18 _ _ hp1) ((((g3.k.trans g6.k).trans g7.k).trans g8.k) _ _ hq) (paired_ex (((g3.k.trans g6.k).trans g7.k).trans g8.k) hts) fun v Hn H9 g e => rt v _ _ (((gAll.trans g7).trans g8).trans g) (.const e)
end
end K19
set_option Elab.async false
set_option linter.all false
set_option maxRecDepth 100000
set_option maxHeartbeats 4000000
namespace K19
open PySem L2 LW
abbrev nOfR : List Str := ["_law_pot_here", "_law_some", "_law_pairs", "_law_k", "_law_mate", "_law_way", "_law_made", "_law_used", "_law_spots", "_law_pair", "_law_this"]
theorem scOfR : FnScope nOfR ["_law_pot_here", "_law_some"] (defScope sOfR) := ⟨rfl, rfl, rfl, by decide +kernel, rfl, by decide +kernel, by decide +kernel⟩
theorem len6g {α : Type} {u : List α} (h : u.length = 6) : ∃ a b c d e f, u = [a, b, c, d, e, f] := by
  match u, h with
  | [a, b, c, d, e, f], _ => exact ⟨a, b, c, d, e, f, rfl⟩
section
variable {P : Program} {w : World} {K : PySem.W.Frag} {mg : Str → Option Value} {base : Heap} {ff C : Addr} {cdv : Value} {Ar : Around} {outer : List Env} {s : Shared} {H0 : Hp} {E : XK} {D : Ends} {H Hc : Hp} {p b l u a : Addr} {s3 s4 s5 : Option V} {qs : List (Str × Str)} {us : List Addr} {ns : List Str} {ls : List (Str × Str)}
theorem ofr_tail (B : Blt K mg) (ms : mg "set" = none) (FK : Fn P w K mg base "_law_link" 1 AP2 RLkO) (FI : Gn P w K mg base "_law_is" 8 (AIs C K) RTrue)
    (hr : RoomG 11 (fx P w K mg base nOfR "_law_of_right" sOfR ff cdv Ar outer s H0 E).A) (ex : Ex H Hc) (hu : H u = some (.lst (us.map V.ref))) (hus : TsAt H us qs) (o : Ofs qs)
    (hA : NetAt C a ns ls H) (hn : ∀ x, x ∈ ns ↔ ∃ p ∈ qs, x = p.1 ∨ x = p.2) (hl : ls.Perm (qs.map lk)) (nt : Nt ns ls) (rt : ∀ v Hn H3, Grow H Hc Hn H3 → v = .bl true → D.rt v H3) :
    wB (fx P w K mg base nOfR "_law_of_right" sOfR ff cdv Ar outer s H0 E) ((defBody sOfR).drop 4) D [some (.ref p), some (.ref b), some (.ref l), s3, s4, s5, some (.ref a), some (.ref u), none, none, none] Hc := by
  have rr := hr.r
  have lu := hus.length
  have lq := o.len
  have comp : ∀ (f : Str × Str → Str) (acc : List V) (i : Nat), True := fun _ _ _ => trivial
  refine b_set 8 ex (e_sortSet (xs := qs.map (·.1) ++ qs.map (·.2)) rfl B.sorted ms (Cm.imp (e_cat (xs := (qs.map (·.1)).map V.str) (ys := (qs.map (·.2)).map V.str)
    (e_lc (own := [("_law_pair", 9)]) (g := gName 9) rfl scOfR.nd (pi_list pe_w) (blkOk_by (N := nOfR) (sc := defScope sOfR) (by decide +kernel)) (fun _ _ _ _ _ => pg_name (i := 9) scOfR.nd rfl (.inl rfl)) (fun _ _ _ _ _ => pts_nil)
      (c_lc (i_list (xs := us.map V.ref) (Cm.imp (e_var (v := V.ref u) 7) fun v H' e z => ⟨u, z, SqL.of (e _ _ hu)⟩)) (by rw [List.length_map]; omega) (fun i acc _ => acc = ((qs.take i).map (·.1)).map V.str) (fun _ => rfl) (fun i y acc H9 hi e9 py pacc => ?_) fun acc d H9 e9 pacc hd => ?_))
    (e_lc (own := [("_law_pair", 9)]) (g := gName 9) rfl scOfR.nd (pi_list pe_w) (blkOk_by (N := nOfR) (sc := defScope sOfR) (by decide +kernel)) (fun _ _ _ _ _ => pg_name (i := 9) scOfR.nd rfl (.inl rfl)) (fun _ _ _ _ _ => pts_nil)
      (c_lc (i_list (xs := us.map V.ref) (Cm.imp (e_var (v := V.ref u) 7) fun v H' e z => ⟨u, z, SqL.of (e _ _ hu)⟩)) (by rw [List.length_map]; omega) (fun i acc _ => acc = ((qs.take i).map (·.2)).map V.str) (fun _ => rfl) (fun i y acc H9 hi e9 py pacc => ?_) fun acc d H9 e9 pacc hd => ?_)) (by simp only [List.length_map]; omega)) fun v H' _ q => by rw [List.map_append]; exact q) (by simp only [List.length_append, List.length_map]; omega)) (fun v H1 Hc1 g1 p1 => ?_) scOfR.nd
  · obtain ⟨t, q, rfl, ht, hq, hH⟩ := ts_get hus py.now
    refine ⟨_, true, bind_name, rfl, c_yes, fun _ => c_eb fun s H0 C cl fp => ?_, fun z => nomatch z⟩
    refine Cm.imp (e_itemT (v := V.str q.1) (j := 0) (e_var (v := V.ref t) 9) e_int (.sqt (SqT.of (e9 _ _ hH))) rfl) fun v H' _ z => ?_
    have ea : acc = _ := pacc.now
    rw [ea, show v = V.str q.1 from z, take_snoc hq, List.map_append, List.map_append] <;> rfl
  · have ea : acc = _ := pacc.now
    rw [List.length_map, lu, List.take_length] at ea
    subst ea
    exact fun H' e' => ⟨d, rfl, e' _ _ hd⟩
  · obtain ⟨t, q, rfl, ht, hq, hH⟩ := ts_get hus py.now
    refine ⟨_, true, bind_name, rfl, c_yes, fun _ => c_eb fun s H0 C cl fp => ?_, fun z => nomatch z⟩
    refine Cm.imp (e_itemT (v := V.str q.2) (j := 1) (e_var (v := V.ref t) 9) e_int (.sqt (SqT.of (e9 _ _ hH))) rfl) fun v H' _ z => ?_
    have ea : acc = _ := pacc.now
    rw [ea, show v = V.str q.2 from z, take_snoc hq, List.map_append, List.map_append] <;> rfl
  · have ea : acc = _ := pacc.now
    rw [List.length_map, lu, List.take_length] at ea
    subst ea
    exact fun H' e' => ⟨d, rfl, e' _ _ hd⟩
  obtain ⟨d, ys, rfl, hd, ynd, ysn, ym⟩ := p1.now
  have ym' : ∀ x, x ∈ ys ↔ ∃ p ∈ qs, x = p.1 ∨ x = p.2 := fun x => by
    rw [ym, List.mem_append, List.mem_map, List.mem_map]
    constructor
    · rintro (⟨q, hq, e⟩ | ⟨q, hq, e⟩)
      · exact ⟨q, hq, .inl e.symm⟩
      · exact ⟨q, hq, .inr e.symm⟩
    · rintro ⟨q, hq, e | e⟩
      · exact .inl ⟨q, hq, e.symm⟩
      · exact .inr ⟨q, hq, e.symm⟩
  have py : ns.Perm ys := (List.perm_ext_iff_of_nodup nt.nd ynd).mpr fun x => (hn x).trans (ym' x).symm
  have nds : Nds ys := ⟨by rw [← py.length_eq]; exact nt.len, fun e => nt.ne (by rw [e] at py; exact py.eq_nil), ynd, fun x hx => nt.nm x (py.mem_iff.mpr hx)⟩
  have lks := lks_of (xs := ys) (ps := qs) (fun p hp => ⟨o.lk p hp, (ym' _).mpr ⟨p, hp, .inl rfl⟩, (ym' _).mpr ⟨p, hp, .inr rfl⟩⟩) o.nd (by omega)
  have hu1 := g1.k _ _ hu
  refine b_ret (P := is (V.bl true)) g1.s (e_callG FI (hr.mono (by decide)) (a_cons (P := is (V.ref a)) (e_var 6) (a_cons (P := is (V.ref d)) (e_var 8) (a_cons (P := RPs (qs.map lk)) (e_lc (own := [("_law_this", 10), ("_law_mate", 4)]) (g := gTup K 2 (gCons (gName 10) (gCons (gName 4) gNil))) rfl scOfR.nd (pi_list pe_w) (blkOk_by (N := nOfR) (sc := defScope sOfR) (by decide +kernel)) (fun _ _ _ _ _ => pg_tup rfl (pgs_cons (pg_name (i := 10) scOfR.nd rfl (.inl rfl)) (pgs_cons (pg_name (i := 4) scOfR.nd rfl (.inl rfl)) pgs_nil))) (fun _ _ _ _ _ => pts_nil)
      (c_lc (i_list (xs := us.map V.ref) (Cm.imp (e_var (v := V.ref u) 7) fun v H' e z => ⟨u, z, SqL.of (e _ _ hu1)⟩)) (by rw [List.length_map]; omega) (fun i acc H' => ∃ vs, acc = vs.map V.ref ∧ TsAt H' vs ((qs.map lk).take i)) (fun _ => ⟨[], rfl, .nil⟩) (fun i y acc H9 hi e9 py pacc => ?_) fun acc d H9 e9 pacc hd => ?_)) a_nil))) fun vs H4 e4 z => ?_) fun v H5 Hc5 g5 z => rt v _ _ (g1.trans g5) z.now
  · obtain ⟨t, q, rfl, ht, hq, hH⟩ := ts_get hus py.now
    refine ⟨_, true, bind_two (.sqt (SqT.of ((g1.k.trans e9) _ _ hH))), rfl, c_yes, fun _ => c_eb fun s H0 C cl fp => ?_, fun z => nomatch z⟩
    refine Cm.imp (e_callD q FK (rr.mono (by decide)) (a_consD (e_var (v := V.str q.1) 10) (a_consD (e_var (v := V.str q.2) 4) a_nil)) (.const rfl)) fun v H' e z => ?_
    obtain ⟨c, rfl, hc⟩ := z
    obtain ⟨vs, rfl, hv⟩ := pacc H' e
    refine ⟨vs ++ [c], by simp, ?_⟩
    rw [take_snoc (x := lk q) (by rw [List.getElem?_map, hq] <;> rfl)]
    exact ts_snoc hc hv
  · obtain ⟨vs, rfl, hv⟩ := pacc.now
    rw [List.take_of_length_le (by rw [List.length_map, List.length_map]; omega)] at hv
    exact fun H' e' => ⟨d, vs, rfl, e' _ _ hd, paired_ex e' hv⟩
  · obtain ⟨_, _, rfl, rfl, _, _, rfl, rfl, _, _, rfl, ⟨c, vs, rfl, hc, hv⟩, rfl⟩ := z.now
    exact ⟨⟨⟨a, ns, ls⟩, ys, qs.map lk⟩, fun H' e => ⟨d, c, vs, rfl, ⟨hA.ex ((g1.k.trans e4).trans e), nt⟩, SqL.of ((e4.trans e) _ _ hd), SqL.of (e _ _ hc), paired_ex e hv, ⟨nds, lks, py, hl⟩⟩, fun v _ _ q => q⟩
end
end K19
set_option Elab.async false
set_option linter.all false
set_option maxRecDepth 100000
set_option maxHeartbeats 4000000
namespace K19
open PySem L2 LW
/-- six pairs: the i-th joins the i-th name but the first to an earlier one -/
structure Prs6 (ns : List Str) (i : Nat) (ps : List (Str × Str)) : Prop where
  len : ps.length = i
  lk : ∀ p ∈ ps, Lk p ∧ p.1 ∈ ns.take (i + 1) ∧ p.2 ∈ ns.take (i + 1)
  nd : (ps.map K19.lk).Nodup
theorem Prs6.snoc {ns : List Str} {i j : Nat} {ps : List (Str × Str)} {x y : Str} (h : Prs6 ns i ps) (nd : ns.Nodup) (nm : ∀ z ∈ ns, Nm z) (hx : ns[i + 1]? = some x) (hy : ns[j]? = some y) (hj : j < i + 1) {q : Str × Str} (hq : q = (x, y) ∨ q = (y, x)) : Prs6 ns (i + 1) (ps ++ [q]) := by
  have out : x ∉ ns.take (i + 1) := not_taken nd hx
  have yin : y ∈ ns.take (i + 1) := List.mem_of_getElem? (by rw [List.getElem?_take_of_lt hj]; exact hy)
  have ne : x ≠ y := fun e => out (e ▸ yin)
  have mx := nm x (List.mem_of_getElem? hx)
  have my := nm y (List.mem_of_getElem? hy)
  have up : ns.take (i + 1 + 1) = ns.take (i + 1) ++ [x] := take_snoc hx
  refine ⟨by rw [List.length_append, h.len] <;> rfl, fun p hp => ?_, ?_⟩
  · rw [up]
    rcases List.mem_append.mp hp with m | m
    · obtain ⟨a, b, c⟩ := h.lk p m
      exact ⟨a, List.mem_append_left _ b, List.mem_append_left _ c⟩
    · rw [List.mem_singleton.mp m]
      rcases hq with e | e <;> rw [e]
      · exact ⟨⟨mx, my, ne⟩, List.mem_append_right _ (List.mem_singleton_self _), List.mem_append_left _ yin⟩
      · exact ⟨⟨my, mx, ne.symm⟩, List.mem_append_left _ yin, List.mem_append_right _ (List.mem_singleton_self _)⟩
  · rw [List.map_append]
    refine List.nodup_append.mpr ⟨h.nd, by simp, fun a ha c hc e => ?_⟩
    obtain ⟨r, hr, rfl⟩ := List.mem_map.mp ha
    obtain ⟨_, r1, r2⟩ := h.lk r hr
    rw [List.map_cons, List.map_nil, List.mem_singleton] at hc
    rw [hc] at e
    rcases hq with z | z <;> rw [z] at e <;> rcases lk_eq e with ⟨a, b⟩ | ⟨a, b⟩
    · exact out ((show r.1 = x from a) ▸ r1)
    · exact out ((show r.2 = x from b) ▸ r2)
    · exact out ((show r.2 = x from b) ▸ r2)
    · exact out ((show r.1 = x from a) ▸ r1)
section
variable {P : Program} {w : World} {K : PySem.W.Frag} {mg : Str → Option Value} {base : Heap} {f C : Addr}
theorem b_ofR (B : Blt K mg) (BL : BltL mg) (ms : mg "set" = none) (N : NetC P w K mg base C) (FK : Fn P w K mg base "_law_link" 1 AP2 RLkO) (FD : Fn P w K mg base "_law_draw" 1 AD RD) (FI : Gn P w K mg base "_law_is" 8 (AIs C K) RTrue) : BodyG P w K mg base nOfR "_law_of_right" sOfR f 11 (AOfR K) RTrue := by
  intro cdv Ar outer s H0 E x vs H Hc D hr ex pa rt nx
  obtain ⟨p, ns⟩ := x
  obtain ⟨b, rfl, hp, hb, S⟩ := pa.now
  have hp : H p = some (PotO p) := hp
  have hb : SqL K H b (ns.map V.str) := hb
  have S : Seven ns := S
  have rr := hr.r
  have ln := S.len
  have l0 : (ns.map V.str).length = ns.length := List.length_map _
  refine b_lnew 2 ex (fun l hl => ?_) scOfR.nd
  have hlH : H l = none := Evl.fresh_back ex hl
  refine b_for (H := H) (g := gName 3) (ex.trans (Evl.Ex.new hl)) PassesOwn.never rfl (pi_range2 rfl BL.range pa_w) (i_rng2 (lo := 1) (n := 7) (a_consD e_int (a_consD e_int a_nil)) (by decide)) (pg_name (i := 3) scOfR.nd rfl (.inl rfl)) fun H1 Hc1 g1 => ?_
  have gg := (still (ex.trans (Evl.Ex.new hl)) (Evl.Ex.new hl)).trans g1
  refine ⟨fun i σ1 H4 Hc4 => ∃ (u1 u2 : Option V) (ts : List Addr) (ps : List (Str × Str)), σ1 = [some (.ref p), some (.ref b), some (.ref l), u1, u2, none, none, none, none, none, none] ∧ H4 l = none ∧ Hc4 l = some (.lst (ts.map V.ref)) ∧ TsAt H4 ts ps ∧ Prs6 ns i ps ∧ Grow H Hc H4 Hc4,
    ⟨none, none, [], [], rfl, g1.un upd_same hlH, g1.c _ _ upd_same, .nil, ⟨rfl, fun p hp => absurd hp List.not_mem_nil, List.nodup_nil⟩, gg⟩, ?_, ?_⟩
  · rintro i σ1 H4 Hc4 hi e4 e4' ⟨u1, u2, ts, ps, rfl, hl4, hc4, hts, R, g4⟩ y H5 Hc5 g5 py
    have hi : i < 6 := hi
    obtain rfl : y = V.int (1 + (i : Int)) := py.now
    obtain ⟨x, hx⟩ : ∃ x, ns[i + 1]? = some x := ⟨_, List.getElem?_eq_getElem (by omega)⟩
    have e5 : Ex H H5 := g4.k.trans g5.k
    refine b_set 4 g5.s (P := fun v _ => ∃ j y, v = V.str y ∧ ns[j]? = some y ∧ j < i + 1) (e_ix (Pa := is (V.ref b)) (Pb := RD (p, 1 + (i : Int))) ix_list (e_var 1) (e_callD (p, 1 + (i : Int)) FD (rr.mono (by decide)) (a_consD (e_var 0) (a_consD (e_var 3) a_nil)) fun H' e => ad ((e5.trans e) _ _ hp) (by omega) (by omega)) fun x2 y2 H6 e6 px2 py2 => ?_) (fun v H6 Hc6 g6 p6 => ?_) scOfR.nd
    · obtain rfl := px2.now
      obtain ⟨r, rfl, r0, r1⟩ := py2.now
      have r1 : r < 1 + (i : Int) := r1
      obtain ⟨j, rfl⟩ : ∃ j : Nat, r = (j : Int) := ⟨r.toNat, by omega⟩
      have hj : j < ns.length := by omega
      exact (r_ixL (v := V.str ns[j]) (.sql (Evl.ex_l (e5.trans e6) hb)) (L2.atI_nat (by rw [List.getElem?_map, List.getElem?_eq_getElem hj] <;> rfl))).imp fun v _ _ z => ⟨j, ns[j], z, List.getElem?_eq_getElem hj, by omega⟩
    obtain ⟨j, y, rfl, hy, hj⟩ := p6.now
    have e6 : Ex H H6 := e5.trans g6.k
    have hc6 := g6.c _ _ (g5.c _ _ hc4)
    have n6 : H6 l = none := g6.un (g5.c _ _ hc4) (g5.un hc4 hl4)
    have hx6 : Cm H6 (is (V.str x)) (wE (fx P w K mg base nOfR "_law_of_right" sOfR f cdv Ar outer s H0 E) (.Name "_law_mate" ⟨0, 0, 0, 0⟩) []) ∨ True := .inr trivial
    have tl := hts.length
    refine b_app (l := l) (xs := ts.map V.ref) (P := fun v H' => ∃ q, (q = (x, y) ∨ q = (y, x)) ∧ pr q v H') g6.s (e_var 2) (e_ifX (t_cmpX (Pa := RD (p, 2)) (Pb := is (V.int 0)) op_eq (by rfl) (e_callD (p, 2) FD (rr.mono (by decide)) (a_consD (e_var 0) (a_consD e_int a_nil)) fun H' e => ad ((e6.trans e) _ _ hp) (by decide) (by decide)) e_int fun u v H7 e7 z1 z2 => ?_) ?_ ?_) hc6 (by rw [List.length_map, tl, R.len]; omega) fun v H7 Hc7 g7 p7 => b_nil ?_
    · obtain ⟨r, rfl, _⟩ := z1.now
      obtain rfl := z2.now
      exact ⟨_, r_eq (x := V.int r) (y := V.int 0) rfl⟩
    · refine e_tup (a_consD (v := V.str x) (e_item (j := i + 1) (e_var 1) (t_is (e_var (v := V.int (1 + (i : Int))) 3) (by congr 1; omega)) (.sql (Evl.ex_l e6 hb)) (by rw [List.getElem?_map, hx] <;> rfl)) (a_consD (v := V.str y) (e_var 4) a_nil)) (fun xs _ z => by rw [show xs = _ from z]; exact (by decide : 2 ≤ 100000)) fun ys q H3 e3 z hq => ?_
      rw [show ys = _ from z.now] at hq
      exact fun H' e' => ⟨(x, y), .inl rfl, q, rfl, e' _ _ hq⟩
    · refine e_tup (a_consD (v := V.str y) (e_var 4) (a_consD (v := V.str x) (e_item (j := i + 1) (e_var 1) (t_is (e_var (v := V.int (1 + (i : Int))) 3) (by congr 1; omega)) (.sql (Evl.ex_l e6 hb)) (by rw [List.getElem?_map, hx] <;> rfl)) a_nil)) (fun xs _ z => by rw [show xs = _ from z]; exact (by decide : 2 ≤ 100000)) fun ys q H3 e3 z hq => ?_
      rw [show ys = _ from z.now] at hq
      exact fun H' e' => ⟨(y, x), .inr rfl, q, rfl, e' _ _ hq⟩
    · obtain ⟨q, hq, c, rfl, hc⟩ := p7.now
      have n7 : H7 l = none := g7.un hc6 n6
      exact ⟨H7, ((e4.trans g5.k).trans g6.k).trans g7.k, g7.s.mut n7, _, _, ts ++ [c], ps ++ [q], rfl, n7, by rw [upd_same, List.map_append] <;> rfl, ts_snoc hc (paired_ex ((g5.k.trans g6.k).trans g7.k) hts), R.snoc S.nd S.nm hx hy hj hq, (((g4.trans g5).trans g6).trans g7).mut hl n7⟩
  · rintro σ1 H4 Hc4 e4 e4' ⟨u1, u2, ts, ps, rfl, hl4, hc4, hts, R, g4⟩
    have R : Prs6 ns 6 ps := R
    have g5 := g4.know hl hl4 hc4
    have hl5 : upd H4 l (.lst (ts.map V.ref)) l = _ := upd_same
    have hts5 : TsAt (upd H4 l (.lst (ts.map V.ref))) ts ps := paired_ex (Evl.Ex.new hl4) hts
    have tl := hts.length
    generalize upd H4 l (.lst (ts.map V.ref)) = H5 at g5 hl5 hts5
    have hp5 := g5.k _ _ hp
    refine b_set 5 g5.s (P := RD (p, 3)) (e_callD (p, 3) FD (rr.mono (by decide)) (a_consD (e_var 0) (a_consD e_int a_nil)) fun H' e => ad (e _ _ hp5) (by decide) (by decide)) (fun v H6 Hc6 g6 p6 => ?_) scOfR.nd
    obtain ⟨r, rfl, r0, r1⟩ := p6.now
    have hl6 := g6.k _ _ hl5
    have hts6 : TsAt H6 ts ps := paired_ex g6.k hts5
    have g06 := g5.trans g6
    have hfin : ∀ {Hz Hcz : Hp} {u a : Addr} {s3 s4 s5 : Option V} {qs : List (Str × Str)} {us : List Addr} {ns' : List Str} {ls' : List (Str × Str)}, Grow H Hc Hz Hcz → Hz u = some (.lst (us.map V.ref)) → TsAt Hz us qs → Ofs qs → NetAt C a ns' ls' Hz → (∀ x, x ∈ ns' ↔ ∃ p ∈ qs, x = p.1 ∨ x = p.2) → ls'.Perm (qs.map lk) → Nt ns' ls' →
        wB (fx P w K mg base nOfR "_law_of_right" sOfR f cdv Ar outer s H0 E) ((defBody sOfR).drop 4) D [some (.ref p), some (.ref b), some (.ref l), s3, s4, s5, some (.ref a), some (.ref u), none, none, none] Hcz := fun {Hz Hcz u a s3 s4 s5 qs us ns' ls'} g z1 z2 z3 z4 z5 z6 z7 =>
      ofr_tail B (by exact ms) FK FI hr g.s z1 z2 z3 z4 z5 z6 z7 fun v Hn H3 g3 e => rt v _ _ (g.trans g3) (.const e)
    obtain ⟨t0, t1, t2, t3, t4, t5, rfl⟩ := len6g (tl.trans R.len)
    obtain ⟨p0, p1, p2, p3, p4, p5, rfl⟩ := len6g R.len
    have nd := R.nd
    have lkp := R.lk
    obtain ⟨f0, f1, f2, f3, f4, f5⟩ : (H6 t0 = some (.tup [.str p0.1, .str p0.2])) ∧ (H6 t1 = some (.tup [.str p1.1, .str p1.2])) ∧ (H6 t2 = some (.tup [.str p2.1, .str p2.2])) ∧ (H6 t3 = some (.tup [.str p3.1, .str p3.2])) ∧ (H6 t4 = some (.tup [.str p4.1, .str p4.2])) ∧ H6 t5 = some (.tup [.str p5.1, .str p5.2]) := by
      cases hts6 with | cons a0 hts6 => cases hts6 with | cons a1 hts6 => cases hts6 with | cons a2 hts6 => cases hts6 with | cons a3 hts6 => cases hts6 with | cons a4 hts6 => cases hts6 with | cons a5 hts6 => exact ⟨a0, a1, a2, a3, a4, a5⟩
    have it : ∀ {H' : Hp}, Ex H6 H' → Pz H' (fun H2 => SqL K H2 l ([t0, t1, t2, t3, t4, t5].map V.ref)) := fun e => .sql (SqL.of (e _ _ hl6))
    have sub3 : List.Sublist [p0, p2, p5] [p0, p1, p2, p3, p4, p5] := .cons₂ _ (.cons _ (.cons₂ _ (.cons _ (.cons _ (.cons₂ _ .slnil)))))
    have sub4 : List.Sublist [p0, p1, p3, p4] [p0, p1, p2, p3, p4, p5] := .cons₂ _ (.cons₂ _ (.cons _ (.cons₂ _ (.cons₂ _ (.cons _ .slnil)))))
    have o3 : Ofs [p5, p2, p0] := by
      have pm : List.Perm [p5, p2, p0] [p0, p2, p5] := List.reverse_perm [p0, p2, p5]
      exact ⟨by show 3 ≤ 30; decide, by simp, fun q hq => (lkp q (sub3.subset (pm.mem_iff.mp hq))).1, (pm.map lk).nodup_iff.mpr (nd.sublist (sub3.map lk))⟩
    have o4 : Ofs [p1, p0, p3, p4] := by
      have pm : List.Perm [p1, p0, p3, p4] [p0, p1, p3, p4] := .swap _ _ _
      exact ⟨by show 4 ≤ 30; decide, by simp, fun q hq => (lkp q (sub4.subset (pm.mem_iff.mp hq))).1, (pm.map lk).nodup_iff.mpr (nd.sublist (sub4.map lk))⟩
    have o4' : Ofs [p0, p1, p3, p4] := ⟨by show 4 ≤ 30; decide, by simp, fun q hq => (lkp q (sub4.subset hq)).1, nd.sublist (sub4.map lk)⟩
    have o6 : Ofs [p0, p1, p2, p3, p4, p5] := ⟨by show 6 ≤ 30; decide, by simp, fun q hq => (lkp q hq).1, nd⟩
    refine b_if g6.s (k := decide (r = 0)) (t_is (t_cmpD op_eq (by rfl) (e_var 5) e_int (r_eq (x := V.int r) (y := V.int 0) rfl)) (by by_cases h : r = 0 <;> simp [h])) (fun hk H7 Hc7 g7 => ?_) fun hk H7 Hc7 g7 => ?_
    · refine b_set 6 g7.s (e_of N (rr.mono (by decide)) (ps := [p5, p2, p0]) (Cm.imp (a_consD (v := V.ref t5) (e_item (j := 5) (e_var 2) e_int (it g7.k) rfl) (a_consD (v := V.ref t2) (e_item (j := 2) (e_var 2) e_int (it g7.k) rfl) (a_consD (v := V.ref t0) (e_item (j := 0) (e_var 2) e_int (it g7.k) rfl) a_nil))) fun vs H' e z => ⟨[t5, t2, t0], z, .cons (e _ _ (g7.k _ _ f5)) (.cons (e _ _ (g7.k _ _ f2)) (.cons (e _ _ (g7.k _ _ f0)) .nil))⟩) o3) (fun v H8 Hc8 g8 p8 => ?_) scOfR.nd
      obtain ⟨a, ns', ls', rfl, z1, z2, z3, z4⟩ := p8.now
      have e8 := g7.k.trans g8.k
      refine b_set 7 g8.s (P := nl ([t5, t2, t0].map V.ref)) (e_lst (a_consD (v := V.ref t5) (e_item (j := 5) (e_var 2) e_int (it e8) rfl) (a_consD (v := V.ref t2) (e_item (j := 2) (e_var 2) e_int (it e8) rfl) (a_consD (v := V.ref t0) (e_item (j := 0) (e_var 2) e_int (it e8) rfl) a_nil))) (fun xs _ z => by rw [show xs = _ from z]; exact (by decide : 3 ≤ 100000)) fun ys q H3 e3 z hq => ?_) (fun v H9 Hc9 g9 p9 => b_nil ?_) scOfR.nd
      · rw [show ys = _ from z.now] at hq
        exact fun H' e' => ⟨q, rfl, e' _ _ hq⟩
      · obtain ⟨u, rfl, hu⟩ := p9.now
        have e9 := e8.trans g9.k
        exact hfin (((g06.trans g7).trans g8).trans g9) hu (.cons (e9 _ _ f5) (.cons (e9 _ _ f2) (.cons (e9 _ _ f0) .nil))) o3 (z1.ex g9.k) z2 z3 z4
    · refine b_if g7.s (k := decide (r = 1)) (t_is (t_cmpD op_eq (by rfl) (e_var 5) e_int (r_eq (x := V.int r) (y := V.int 1) rfl)) (by by_cases h : r = 1 <;> simp [h])) (fun hk2 H8 Hc8 g8 => ?_) fun hk2 H8 Hc8 g8 => ?_
      · have e8 := g7.k.trans g8.k
        refine b_set 6 g8.s (e_of N (rr.mono (by decide)) (ps := [p1, p0, p3, p4]) (Cm.imp (a_consD (v := V.ref t1) (e_item (j := 1) (e_var 2) e_int (it e8) rfl) (a_consD (v := V.ref t0) (e_item (j := 0) (e_var 2) e_int (it e8) rfl) (a_consD (v := V.ref t3) (e_item (j := 3) (e_var 2) e_int (it e8) rfl) (a_consD (v := V.ref t4) (e_item (j := 4) (e_var 2) e_int (it e8) rfl) a_nil)))) fun vs H' e z => ⟨[t1, t0, t3, t4], z, .cons (e _ _ (e8 _ _ f1)) (.cons (e _ _ (e8 _ _ f0)) (.cons (e _ _ (e8 _ _ f3)) (.cons (e _ _ (e8 _ _ f4)) .nil)))⟩) o4) (fun v H9 Hc9 g9 p9 => ?_) scOfR.nd
        obtain ⟨a, ns', ls', rfl, z1, z2, z3, z4⟩ := p9.now
        have e9 := e8.trans g9.k
        refine b_set 7 g9.s (P := nl ([t0, t1, t3, t4].map V.ref)) (Cm.imp (e_cat (e_slHi (xs := [t0, t1, t2, t3, t4, t5].map V.ref) (n := 2) (e_var (v := V.ref l) 2) e_int (it e9) (by exact (by decide : 2 ≤ 6))) (e_slLH (xs := [t0, t1, t2, t3, t4, t5].map V.ref) (n := 3) (m := 5) (e_var (v := V.ref l) 2) e_int e_int (it e9) (by exact (by decide : 3 ≤ 6)) (by exact (by decide : 5 ≤ 6))) (by exact (by decide : 4 ≤ 100000))) fun v H' _ q => q) (fun v H10 Hc10 g10 p10 => b_nil (b_nil ?_)) scOfR.nd
        obtain ⟨u, rfl, hu⟩ := p10.now
        have e10 := e9.trans g10.k
        have pm : List.Perm [p1, p0, p3, p4] [p0, p1, p3, p4] := .swap _ _ _
        exact hfin ((((g06.trans g7).trans g8).trans g9).trans g10) hu (.cons (e10 _ _ f0) (.cons (e10 _ _ f1) (.cons (e10 _ _ f3) (.cons (e10 _ _ f4) .nil)))) o4' (z1.ex g10.k) (fun x => (z2 x).trans ⟨fun ⟨q, hq, e⟩ => ⟨q, pm.mem_iff.mp hq, e⟩, fun ⟨q, hq, e⟩ => ⟨q, pm.mem_iff.mpr hq, e⟩⟩) (z3.trans (pm.map lk)) z4
      · have e8 := g7.k.trans g8.k
        refine b_set 6 g8.s (e_of N (rr.mono (by decide)) (ps := [p0, p1, p2, p3, p4, p5]) (Cm.imp (a_consD (v := V.ref t0) (e_item (j := 0) (e_var 2) e_int (it e8) rfl) (a_consD (v := V.ref t1) (e_item (j := 1) (e_var 2) e_int (it e8) rfl) (a_consD (v := V.ref t2) (e_item (j := 2) (e_var 2) e_int (it e8) rfl) (a_consD (v := V.ref t3) (e_item (j := 3) (e_var 2) e_int (it e8) rfl) (a_consD (v := V.ref t4) (e_item (j := 4) (e_var 2) e_int (it e8) rfl) (a_consD (v := V.ref t5) (e_item (j := 5) (e_var 2) e_int (it e8) rfl) a_nil)))))) fun vs H' e z => ⟨[t0, t1, t2, t3, t4, t5], z, .cons (e _ _ (e8 _ _ f0)) (.cons (e _ _ (e8 _ _ f1)) (.cons (e _ _ (e8 _ _ f2)) (.cons (e _ _ (e8 _ _ f3)) (.cons (e _ _ (e8 _ _ f4)) (.cons (e _ _ (e8 _ _ f5)) .nil)))))⟩) o6) (fun v H9 Hc9 g9 p9 => ?_) scOfR.nd
        obtain ⟨a, ns', ls', rfl, z1, z2, z3, z4⟩ := p9.now
        have e9 := e8.trans g9.k
        refine b_set 7 g9.s (P := is (V.ref l)) (e_var 2) (fun v H10 Hc10 g10 p10 => b_nil (b_nil ?_)) scOfR.nd
        obtain rfl := p10.now
        have e10 := e9.trans g10.k
        exact hfin ((((g06.trans g7).trans g8).trans g9).trans g10) (e10 _ _ hl6) (.cons (e10 _ _ f0) (.cons (e10 _ _ f1) (.cons (e10 _ _ f2) (.cons (e10 _ _ f3) (.cons (e10 _ _ f4) (.cons (e10 _ _ f5) .nil)))))) o6 (z1.ex g10.k) z2 z3 z4
end
end K19
set_option Elab.async false
set_option linter.all false
set_option maxRecDepth 100000
set_option maxHeartbeats 0
namespace K19
open PySem PySem.Spec PyProof.Rows L2 LW He
def fa0 : List Fa := [.glo "is_name", .glo "is_link", .glo "link_of", .glo "sorted_names", .glo "sorted_links", .glo "is_list", .glo "check_nodes", .glo "joins_known", .glo "checked_links", .glo "neighbour_table", .glo "links_along", .glo "need_net", .glo "need_link", .glo "_law_pot", .glo "_law_draw", .glo "_law_link", .glo "_law_label", .glo "_law_labels", .glo "_law_three", .glo "_law_is"]
def fa1 : List Fa := [.glo "_law_size_right", .glo "_law_of_right", .glo "_law_right", .glo "law", .glo "Net", .free "isinstance", .free "len", .free "all", .free "str", .free "tuple", .free "list", .free "sorted", .free "enumerate", .free "range", .free "divmod", .free "int", .free "max", .free "abs", .free "min", .free "zip"]
def fa2 : List Fa := [.free "set", .free "repr", .str "LETTERS" "abcdefghijklmnopqrstuvwxyz", .int "LONGEST_NAME" 8, .cls "Net", .mkr "Net", .noat "Net" "_nodes", .noat "Net" "_links", .noat "Net" "_near", .meth "Net" "nodes", .meth "Net" "links", .meth "Net" "is_part_of", .meth "Net" "drawn_together", .meth "Net" "__eq__", .meth "Net" "__len__", .meth "Net" "__contains__", .meth "Net" "__sub__"]
def fa : List Fa := fa0 ++ (fa1 ++ (fa2))
def ds0 : List DfY := [⟨atG "is_name", "is_name", "is_name", top 19⟩, ⟨atG "is_link", "is_link", "is_link", top 20⟩, ⟨atG "link_of", "link_of", "link_of", top 21⟩, ⟨atG "sorted_names", "sorted_names", "sorted_names", top 23⟩, ⟨atG "sorted_links", "sorted_links", "sorted_links", top 24⟩, ⟨atG "is_list", "is_list", "is_list", top 26⟩, ⟨atG "check_nodes", "check_nodes", "check_nodes", top 27⟩, ⟨atG "joins_known", "joins_known", "joins_known", top 28⟩, ⟨atG "checked_links", "checked_links", "checked_links", top 29⟩, ⟨atG "neighbour_table", "neighbour_table", "neighbour_table", top 31⟩, ⟨atG "links_along", "links_along", "links_along", top 32⟩, ⟨atG "need_net", "need_net", "need_net", top 34⟩]
def ds1 : List DfY := [⟨atG "need_link", "need_link", "need_link", top 37⟩, ⟨atG "_law_pot", "_law_pot", "_law_pot", top 39⟩, ⟨atG "_law_draw", "_law_draw", "_law_draw", top 40⟩, ⟨atG "_law_link", "_law_link", "_law_link", top 42⟩, ⟨atG "_law_label", "_law_label", "_law_label", top 43⟩, ⟨atG "_law_labels", "_law_labels", "_law_labels", top 44⟩, ⟨atG "_law_three", "_law_three", "_law_three", top 45⟩, ⟨atG "_law_is", "_law_is", "_law_is", top 46⟩, ⟨atG "_law_size_right", "_law_size_right", "_law_size_right", top 47⟩, ⟨atG "_law_of_right", "_law_of_right", "_law_of_right", top 48⟩, ⟨atG "_law_right", "_law_right", "_law_right", top 49⟩, ⟨atG "law", "law", "law", top 50⟩]
def ds2 : List DfY := [⟨atR "staticmethod" "Net" "of", "of", "Net.of", inClass sNet 3⟩, ⟨atR "classmethod" "Net" "path", "path", "Net.path", inClass sNet 4⟩, ⟨atR "classmethod" "Net" "ring", "ring", "Net.ring", inClass sNet 5⟩, ⟨atR "classmethod" "Net" "full", "full", "Net.full", inClass sNet 6⟩, ⟨atM "Net" "nodes", "nodes", "Net.nodes", inClass sNet 7⟩, ⟨atM "Net" "links", "links", "Net.links", inClass sNet 8⟩, ⟨atR "property" "Net" "size", "size", "Net.size", inClass sNet 9⟩, ⟨atM "Net" "__len__", "__len__", "Net.__len__", inClass sNet 10⟩, ⟨atM "Net" "drawn_together", "drawn_together", "Net.drawn_together", inClass sNet 15⟩, ⟨atM "Net" "__sub__", "__sub__", "Net.__sub__", inClass sNet 18⟩, ⟨atM "Net" "is_part_of", "is_part_of", "Net.is_part_of", inClass sNet 21⟩, ⟨atM "Net" "__contains__", "__contains__", "Net.__contains__", inClass sNet 22⟩]
def ds3 : List DfY := [⟨atM "Net" "__eq__", "__eq__", "Net.__eq__", inClass sNet 23⟩]
def ds : List DfY := ds0 ++ (ds1 ++ (ds2 ++ (ds3)))
def dI : DefD := ⟨("Net", some "__init__"), "__init__", "Net.__init__", defArgs sInit, defBody sInit, defScope sInit, [.adr (dflAt ("Net", some "__init__") 0)], []⟩
/-- what else is asked of the class -/
def ex (K : PySem.W.Frag) : Bool :=
  (eqO (PySem.W.findIn K (.ref (ga K "Net")) "__class__") (some (some (.builtin "object.__class__"))) && (eqO (PySem.W.specialIn K (.builtin "object.__class__") "__get__") (some (some (.builtin "getset_descriptor.__get__"))) && (opB (PySem.W.takesIn K (.builtin "object.__class__")) (some true) &&
    (opB (PySem.W.mroIn K (ga K "Net") (.type "object")) (some true) && opB (PySem.W.kitOne K (.ref (ga K "Net")) (.ref (ga K "Net"))) (some true))))) &&
  ((eqO (PySem.W.findIn K (.ref (ga K "Net")) "__ne__") (some (some (.builtin "object.__ne__"))) && opB (PySem.W.subIn K (.ref (ga K "Net")) (.type "object")) (some true)) &&
  ((PySem.W.selfFirst K (ga K "Net") && (eqO (PySem.W.findIn K (.ref (ga K "Net")) (dunderR Operator.Sub.info.2)) (some none) && (eqO (PySem.W.findIn K (.type "tuple") (PySem.dunder Operator.Sub.info.2)) (some none) && eqO (PySem.W.findIn K (.type "tuple") (dunderR Operator.Sub.info.2)) (some none)))) &&
  ((PySem.W.readsIn K (ga K "Net") (.type "type") && eqO (PySem.W.specialIn K (.ref (ga K "Net")) "__getattribute__") (some (some (.builtin "type.__getattribute__")))) &&
  ((numB K "Net" "MOST_NODES" 60 && numB K "Net" "MOST_LINKS" 120) &&
  ((gotB K "classmethod.__get__" "Net" "path" && (recB K "classmethod" "Net" "path" && PySem.W.fnIn K (atR "classmethod" "Net" "path" K))) &&
  ((gotB K "classmethod.__get__" "Net" "ring" && (recB K "classmethod" "Net" "ring" && PySem.W.fnIn K (atR "classmethod" "Net" "ring" K))) &&
  ((gotB K "classmethod.__get__" "Net" "full" && (recB K "classmethod" "Net" "full" && PySem.W.fnIn K (atR "classmethod" "Net" "full" K))) &&
  ((gotB K "staticmethod.__get__" "Net" "of" && recB K "staticmethod" "Net" "of") &&
  (eqO (PySem.W.findIn K (.ref (ga K "Net")) "size") (some (some (.ref (atM "Net" "size" K)))) && (eqO (PySem.W.specialIn K (.ref (atM "Net" "size" K)) "__get__") (some (some (.builtin "property.__get__"))) && (opB (PySem.W.takesIn K (.ref (atM "Net" "size" K))) (some true) && recB K "property" "Net" "size")))))))))))
abbrev R : PySem.W.OpenRow := PySem.W.OpenLaw.row PySem.Challenge.rw_outsigns_k19_paths_rings_and_full_nets
def names1 : List Str := ["_wall", "SignError", "InvalidName", "InvalidLink", "InvalidNodes", "InvalidLinks", "InvalidNet", "MissingError", "UnknownNode", "UnknownLink", "StateError", "LinkTaken", "NobodyLeft", "LimitError", "TooMany", "LETTERS", "LONGEST_NAME", "is_name", "is_link", "link_of", "sorted_names", "sorted_links", "is_list", "check_nodes"]
def names2 : List Str := ["joins_known", "checked_links", "neighbour_table", "links_along", "Net", "need_net", "is_node", "need_node", "need_link", "_law_pot", "_law_draw", "_law_pick", "_law_link", "_law_label", "_law_labels", "_law_three", "_law_is", "_law_size_right", "_law_of_right", "_law_right"]
def names : List Str := names1 ++ names2
abbrev hk : PySem.W.Hook := hookY 6 fa [dI] ds ex
def ob (s : PySem.W.SharedT) : AlY := obsYG 6 fa [dI] ds ex (HandSHeadRun.getT s)
theorem ob_eq (s : PySem.W.SharedT) : ob s = hk.obs s.abs := obsYG_eq (HandSHeadRun.getT_eq s)
theorem run (w : World) : HandSHeadRun.RunEq R (PySem.W.view R.prog [50]) hk ob 40000 names w := by
  intro os
  kernel_rfl
end K19
set_option Elab.async false
set_option linter.all false
set_option maxRecDepth 100000
set_option maxHeartbeats 4000000
namespace K19
open PySem PySem.Spec PyProof.Rows L2 LW He
section
variable {P : Program} {w : World} {K : PySem.W.Frag} {mg : Str → Option Value} {base : Heap}
theorem fn_mk {α : Type} {A : α → List V → Hp → Prop} {R : α → V → Hp → Prop} {x qual n : Str} {st : Stmt} {f : Addr} {fd : FuncData} {N ps : List Str} {k : Nat} (F : L2.Fun K x qual st f fd) (S : FnScope N ps (defScope st)) (hb : Binds K fd ps []) (len : ∀ a vs H, A a vs H → vs.length = ps.length) (b : Body P w K mg base N qual st f k A R)
    (hm : mg n = some (.ref f)) : Fn P w K mg base n (k + 1) A R := ⟨f, hm, F.kp, raw_of (ok_of F S len b) hb⟩
theorem gn_mk {α : Type} {A : α → List V → Hp → Prop} {R : α → V → Hp → Prop} {x qual n : Str} {st : Stmt} {f : Addr} {fd : FuncData} {N ps : List Str} {k : Nat} (F : L2.Fun K x qual st f fd) (S : FnScope N ps (defScope st)) (hb : Binds K fd ps []) (len : ∀ a vs H, A a vs H → vs.length = ps.length) (b : BodyG P w K mg base N qual st f k A R)
    (hm : mg n = some (.ref f)) : Gn P w K mg base n (k + 1) A R := ⟨f, hm, F.kp, okG_of F S hb len b⟩
theorem binds_init {fd : FuncData} {f : Addr} {dvs : List V} (hd : dvs.length = 1) (F : FunD K "__init__" "Net.__init__" (defArgs sInit) (defBody sInit) (defScope sInit) dvs [] f fd) : Binds K fd ["self", "nodes", "links"] [] := by
  obtain ⟨ds, hv, hb⟩ := F.binds1 (ps := ["self", "nodes", "links"]) 3 1 (by rintro rfl; cases hd) (by rw [hd]; rfl) fun T kV doc pm an cdv ct us its hu hi => by
    rw [hd] at hi
    match us, its, hu, hi with
    | [_, _, _], [_], _, _ => exact ⟨_, rfl, rfl⟩
  have e : dvs.drop 1 = [] := List.drop_eq_nil_of_le (by omega)
  rw [e] at hv
  cases hv
  exact hb
theorem law_facts {h : Heap} (X : K.In h) (G : h.Ns mainGlobals mg) (c : SaysY fa [dI] ds ex K) : FnG P w K mg base 14 (atG "law" K) (SpF (ALaw K) RTrue) := by
  obtain ⟨xe, _⟩ := c.two
  obtain ⟨fd_is_name, F_is_name⟩ := c.def_ 0 (d := ⟨atG "is_name", "is_name", "is_name", top 19⟩) rfl
  obtain ⟨fd_is_link, F_is_link⟩ := c.def_ 1 (d := ⟨atG "is_link", "is_link", "is_link", top 20⟩) rfl
  obtain ⟨fd_link_of, F_link_of⟩ := c.def_ 2 (d := ⟨atG "link_of", "link_of", "link_of", top 21⟩) rfl
  obtain ⟨fd_sorted_names, F_sorted_names⟩ := c.def_ 3 (d := ⟨atG "sorted_names", "sorted_names", "sorted_names", top 23⟩) rfl
  obtain ⟨fd_sorted_links, F_sorted_links⟩ := c.def_ 4 (d := ⟨atG "sorted_links", "sorted_links", "sorted_links", top 24⟩) rfl
  obtain ⟨fd_is_list, F_is_list⟩ := c.def_ 5 (d := ⟨atG "is_list", "is_list", "is_list", top 26⟩) rfl
  obtain ⟨fd_check_nodes, F_check_nodes⟩ := c.def_ 6 (d := ⟨atG "check_nodes", "check_nodes", "check_nodes", top 27⟩) rfl
  obtain ⟨fd_joins_known, F_joins_known⟩ := c.def_ 7 (d := ⟨atG "joins_known", "joins_known", "joins_known", top 28⟩) rfl
  obtain ⟨fd_checked_links, F_checked_links⟩ := c.def_ 8 (d := ⟨atG "checked_links", "checked_links", "checked_links", top 29⟩) rfl
  obtain ⟨fd_neighbour_table, F_neighbour_table⟩ := c.def_ 9 (d := ⟨atG "neighbour_table", "neighbour_table", "neighbour_table", top 31⟩) rfl
  obtain ⟨fd_links_along, F_links_along⟩ := c.def_ 10 (d := ⟨atG "links_along", "links_along", "links_along", top 32⟩) rfl
  obtain ⟨fd_need_net, F_need_net⟩ := c.def_ 11 (d := ⟨atG "need_net", "need_net", "need_net", top 34⟩) rfl
  obtain ⟨fd_need_link, F_need_link⟩ := c.def_ 12 (d := ⟨atG "need_link", "need_link", "need_link", top 37⟩) rfl
  obtain ⟨fd__law_pot, F__law_pot⟩ := c.def_ 13 (d := ⟨atG "_law_pot", "_law_pot", "_law_pot", top 39⟩) rfl
  obtain ⟨fd__law_draw, F__law_draw⟩ := c.def_ 14 (d := ⟨atG "_law_draw", "_law_draw", "_law_draw", top 40⟩) rfl
  obtain ⟨fd__law_link, F__law_link⟩ := c.def_ 15 (d := ⟨atG "_law_link", "_law_link", "_law_link", top 42⟩) rfl
  obtain ⟨fd__law_label, F__law_label⟩ := c.def_ 16 (d := ⟨atG "_law_label", "_law_label", "_law_label", top 43⟩) rfl
  obtain ⟨fd__law_labels, F__law_labels⟩ := c.def_ 17 (d := ⟨atG "_law_labels", "_law_labels", "_law_labels", top 44⟩) rfl
  obtain ⟨fd__law_three, F__law_three⟩ := c.def_ 18 (d := ⟨atG "_law_three", "_law_three", "_law_three", top 45⟩) rfl
  obtain ⟨fd__law_is, F__law_is⟩ := c.def_ 19 (d := ⟨atG "_law_is", "_law_is", "_law_is", top 46⟩) rfl
  obtain ⟨fd__law_size_right, F__law_size_right⟩ := c.def_ 20 (d := ⟨atG "_law_size_right", "_law_size_right", "_law_size_right", top 47⟩) rfl
  obtain ⟨fd__law_of_right, F__law_of_right⟩ := c.def_ 21 (d := ⟨atG "_law_of_right", "_law_of_right", "_law_of_right", top 48⟩) rfl
  obtain ⟨fd__law_right, F__law_right⟩ := c.def_ 22 (d := ⟨atG "_law_right", "_law_right", "_law_right", top 49⟩) rfl
  obtain ⟨fd_law, F_law⟩ := c.def_ 23 (d := ⟨atG "law", "law", "law", top 50⟩) rfl
  obtain ⟨fd_of, F_of⟩ := c.def_ 24 (d := ⟨atR "staticmethod" "Net" "of", "of", "Net.of", inClass sNet 3⟩) rfl
  obtain ⟨fd_path, F_path⟩ := c.def_ 25 (d := ⟨atR "classmethod" "Net" "path", "path", "Net.path", inClass sNet 4⟩) rfl
  obtain ⟨fd_ring, F_ring⟩ := c.def_ 26 (d := ⟨atR "classmethod" "Net" "ring", "ring", "Net.ring", inClass sNet 5⟩) rfl
  obtain ⟨fd_full, F_full⟩ := c.def_ 27 (d := ⟨atR "classmethod" "Net" "full", "full", "Net.full", inClass sNet 6⟩) rfl
  obtain ⟨fd_nodes, F_nodes⟩ := c.def_ 28 (d := ⟨atM "Net" "nodes", "nodes", "Net.nodes", inClass sNet 7⟩) rfl
  obtain ⟨fd_links, F_links⟩ := c.def_ 29 (d := ⟨atM "Net" "links", "links", "Net.links", inClass sNet 8⟩) rfl
  obtain ⟨fd_size, F_size⟩ := c.def_ 30 (d := ⟨atR "property" "Net" "size", "size", "Net.size", inClass sNet 9⟩) rfl
  obtain ⟨fd___len__, F___len__⟩ := c.def_ 31 (d := ⟨atM "Net" "__len__", "__len__", "Net.__len__", inClass sNet 10⟩) rfl
  obtain ⟨fd_drawn_together, F_drawn_together⟩ := c.def_ 32 (d := ⟨atM "Net" "drawn_together", "drawn_together", "Net.drawn_together", inClass sNet 15⟩) rfl
  obtain ⟨fd___sub__, F___sub__⟩ := c.def_ 33 (d := ⟨atM "Net" "__sub__", "__sub__", "Net.__sub__", inClass sNet 18⟩) rfl
  obtain ⟨fd_is_part_of, F_is_part_of⟩ := c.def_ 34 (d := ⟨atM "Net" "is_part_of", "is_part_of", "Net.is_part_of", inClass sNet 21⟩) rfl
  obtain ⟨fd___contains__, F___contains__⟩ := c.def_ 35 (d := ⟨atM "Net" "__contains__", "__contains__", "Net.__contains__", inClass sNet 22⟩) rfl
  obtain ⟨fd___eq__, F___eq__⟩ := c.def_ 36 (d := ⟨atM "Net" "__eq__", "__eq__", "Net.__eq__", inClass sNet 23⟩) rfl
  obtain ⟨fd_init, F_init⟩ := c.d.def_ 0 (d := dI) rfl
  unfold ex at xe
  simp only [Bool.and_eq_true] at xe
  obtain ⟨⟨x1, x2, x3, x4, x5⟩, ⟨x6, x7⟩, ⟨x8, x9, x10, x11⟩, ⟨x12, x13⟩, ⟨x14, x15⟩, ⟨x16, x17, x18⟩, ⟨x19, x20, x21⟩, ⟨x22, x23, x24⟩, ⟨x25, x26⟩, x27, x28, x29, x30⟩ := xe
  have B : Blt K mg := ⟨(free_ok X G (c.fact 25 (f := .free "isinstance") rfl)), (free_ok X G (c.fact 26 (f := .free "len") rfl)), (free_ok X G (c.fact 27 (f := .free "all") rfl)), (free_ok X G (c.fact 28 (f := .free "str") rfl)), (free_ok X G (c.fact 29 (f := .free "tuple") rfl)), (free_ok X G (c.fact 30 (f := .free "list") rfl)), (free_ok X G (c.fact 31 (f := .free "sorted") rfl)), (free_ok X G (c.fact 32 (f := .free "enumerate") rfl)), (free_ok X G (c.fact 33 (f := .free "range") rfl)), str_ok X G (c.fact 42 (f := .str "LETTERS" "abcdefghijklmnopqrstuvwxyz") rfl), int_ok X G (c.fact 43 (f := .int "LONGEST_NAME" 8) rfl)⟩
  have BL : BltL mg := ⟨(free_ok X G (c.fact 34 (f := .free "divmod") rfl)), (free_ok X G (c.fact 35 (f := .free "int") rfl)), (free_ok X G (c.fact 36 (f := .free "max") rfl)), (free_ok X G (c.fact 37 (f := .free "abs") rfl)), (free_ok X G (c.fact 26 (f := .free "len") rfl)), (free_ok X G (c.fact 33 (f := .free "range") rfl))⟩
  obtain ⟨u1, c1⟩ := numB_ok x14
  obtain ⟨u2, c2⟩ := numB_ok x15
  have CR : ClX.CRead K (ga K "Net") (.type "type") := ⟨x12, eqO_ok x13⟩
  have F : NetF K mg (ga K "Net") := ⟨(glo_ok X G (c.fact 24 (f := .glo "Net") rfl)), cls_ok (c.fact 44 (f := .cls "Net") rfl), noat_ok (c.fact 46 (f := .noat "Net" "_nodes") rfl), noat_ok (c.fact 47 (f := .noat "Net" "_links") rfl), noat_ok (c.fact 48 (f := .noat "Net" "_near") rfl), ⟨_, _, _, CR, c1, c2⟩⟩
  have T : NetTy K (ga K "Net") := ⟨eqO_ok x1, eqO_ok x2, opB_ok x3, opB_ok x4, opB_ok x5⟩
  have G_is_name := fn_mk (P := P) (w := w) (base := base) (n := "is_name") F_is_name scName (F_is_name.binds fun _ _ _ _ _ _ us hl => match us, hl with | [_], _ => rfl) (fun _ _ _ h => by obtain ⟨rfl, _⟩ := h; rfl) (b_name B) (glo_ok X G (c.fact 0 (f := .glo "is_name") rfl))
  have G_is_link := fn_mk (P := P) (w := w) (base := base) (n := "is_link") F_is_link scIsL (F_is_link.binds fun _ _ _ _ _ _ us hl => match us, hl with | [_], _ => rfl) (fun _ _ _ h => by obtain ⟨_, rfl, _⟩ := h; rfl) (b_isLink B G_is_name) (glo_ok X G (c.fact 1 (f := .glo "is_link") rfl))
  have G_link_of := fn_mk (P := P) (w := w) (base := base) (n := "link_of") F_link_of scLkO (F_link_of.binds fun _ _ _ _ _ _ us hl => match us, hl with | [_, _], _ => rfl) (fun _ _ _ h => by obtain ⟨rfl, _⟩ := h; rfl) (b_linkOf B G_is_name) (glo_ok X G (c.fact 2 (f := .glo "link_of") rfl))
  have G_sorted_names := fn_mk (P := P) (w := w) (base := base) (n := "sorted_names") F_sorted_names scSortN (F_sorted_names.binds fun _ _ _ _ _ _ us hl => match us, hl with | [_], _ => rfl) (fun _ _ _ h => by obtain ⟨_, rfl, _⟩ := h; rfl) (b_sortN B) (glo_ok X G (c.fact 3 (f := .glo "sorted_names") rfl))
  have G_sorted_links := fn_mk (P := P) (w := w) (base := base) (n := "sorted_links") F_sorted_links scSortL (F_sorted_links.binds fun _ _ _ _ _ _ us hl => match us, hl with | [_], _ => rfl) (fun _ _ _ h => by obtain ⟨_, _, rfl, _⟩ := h; rfl) (b_sortL B) (glo_ok X G (c.fact 4 (f := .glo "sorted_links") rfl))
  have G_is_list := fn_mk (P := P) (w := w) (base := base) (n := "is_list") F_is_list scIsList (F_is_list.binds fun _ _ _ _ _ _ us hl => match us, hl with | [_], _ => rfl) (fun _ _ _ h => by obtain ⟨_, rfl, _⟩ := h; rfl) (b_isList B) (glo_ok X G (c.fact 5 (f := .glo "is_list") rfl))
  have G_check_nodes := fn_mk (P := P) (w := w) (base := base) (n := "check_nodes") F_check_nodes scChkN (F_check_nodes.binds fun _ _ _ _ _ _ us hl => match us, hl with | [_], _ => rfl) (fun _ _ _ h => by obtain ⟨_, rfl, _⟩ := h; rfl) (b_chkN B G_is_list G_is_name) (glo_ok X G (c.fact 6 (f := .glo "check_nodes") rfl))
  have G_joins_known := fn_mk (P := P) (w := w) (base := base) (n := "joins_known") F_joins_known scJoins (F_joins_known.binds fun _ _ _ _ _ _ us hl => match us, hl with | [_, _], _ => rfl) (fun _ _ _ h => by obtain ⟨_, _, rfl, _⟩ := h; rfl) (b_joins B G_is_link) (glo_ok X G (c.fact 7 (f := .glo "joins_known") rfl))
  have G_checked_links := fn_mk (P := P) (w := w) (base := base) (n := "checked_links") F_checked_links scChkL (F_checked_links.binds fun _ _ _ _ _ _ us hl => match us, hl with | [_, _], _ => rfl) (fun _ _ _ h => by obtain ⟨_, _, _, rfl, _⟩ := h; rfl) (b_chkL B G_is_list G_joins_known G_link_of G_sorted_links) (glo_ok X G (c.fact 8 (f := .glo "checked_links") rfl))
  have G_neighbour_table := fn_mk (P := P) (w := w) (base := base) (n := "neighbour_table") F_neighbour_table scNear (F_neighbour_table.binds fun _ _ _ _ _ _ us hl => match us, hl with | [_, _], _ => rfl) (fun _ _ _ h => by obtain ⟨_, _, _, rfl, _⟩ := h; rfl) (b_near) (glo_ok X G (c.fact 9 (f := .glo "neighbour_table") rfl))
  have G_links_along := fn_mk (P := P) (w := w) (base := base) (n := "links_along") F_links_along scAlong (F_links_along.binds fun _ _ _ _ _ _ us hl => match us, hl with | [_], _ => rfl) (fun _ _ _ h => by obtain ⟨_, rfl, _⟩ := h; rfl) (b_along B) (glo_ok X G (c.fact 10 (f := .glo "links_along") rfl))
  have M : MkN P w K mg base (ga K "Net") (ma K (ga K "Net") "__init__") := ⟨mkr_ok (c.fact 45 (f := .mkr "Net") rfl), init_of (defOk_of F_init scInit) (binds_init rfl F_init) (fun _ _ _ h => by obtain ⟨_, _, _, rfl, _⟩ := h; rfl) (b_init B F G_check_nodes G_checked_links G_sorted_names G_neighbour_table)⟩
  have O_nodes := ok_of (P := P) (w := w) (base := base) F_nodes scNodes (fun _ _ _ h => by obtain ⟨rfl, _⟩ := h; rfl) (b_nodes B F)
  have I_nodes : Binds K fd_nodes ["self"] [] := (F_nodes.binds fun _ _ _ _ _ _ us hl => match us, hl with | [_], _ => rfl)
  have O_links := ok_of (P := P) (w := w) (base := base) F_links scLinks (fun _ _ _ h => by obtain ⟨rfl, _⟩ := h; rfl) (b_links B F)
  have I_links : Binds K fd_links ["self"] [] := (F_links.binds fun _ _ _ _ _ _ us hl => match us, hl with | [_], _ => rfl)
  have O_size := ok_of (P := P) (w := w) (base := base) F_size scSize (fun _ _ _ h => by obtain ⟨rfl, _⟩ := h; rfl) (b_size B F)
  have I_size : Binds K fd_size ["self"] [] := (F_size.binds fun _ _ _ _ _ _ us hl => match us, hl with | [_], _ => rfl)
  have O___len__ := ok_of (P := P) (w := w) (base := base) F___len__ scLen (fun _ _ _ h => by obtain ⟨rfl, _⟩ := h; rfl) (b_len B F)
  have I___len__ : Binds K fd___len__ ["self"] [] := (F___len__.binds fun _ _ _ _ _ _ us hl => match us, hl with | [_], _ => rfl)
  have O___eq__ := ok_of (P := P) (w := w) (base := base) F___eq__ scEq (fun _ _ _ h => by obtain ⟨rfl, _⟩ := h; rfl) (b_eq B F T)
  have I___eq__ : Binds K fd___eq__ ["self", "other"] [] := (F___eq__.binds fun _ _ _ _ _ _ us hl => match us, hl with | [_, _], _ => rfl)
  have O___contains__ := ok_of (P := P) (w := w) (base := base) F___contains__ scCont (fun _ _ _ h => by obtain ⟨_, rfl, _⟩ := h; rfl) (b_cont B F G_is_link)
  have I___contains__ : Binds K fd___contains__ ["self", "x"] [] := (F___contains__.binds fun _ _ _ _ _ _ us hl => match us, hl with | [_, _], _ => rfl)
  have C_cont : Opx P w K mg base (ga K "Net") "__contains__" 3 (ACont (ga K "Net") K) RTrue := ⟨_, (let m := meth_ok (c.fact 55 (f := .meth "Net" "__contains__") rfl); (⟨m.1, m.2⟩ : HasOp K (ga K "Net") "__contains__" (atM "Net" "__contains__" K))), raw_of O___contains__ I___contains__⟩
  have G_need_link := fn_mk (P := P) (w := w) (base := base) (n := "need_link") F_need_link scNeedL (F_need_link.binds fun _ _ _ _ _ _ us hl => match us, hl with | [_, _], _ => rfl) (fun _ _ _ h => by obtain ⟨_, rfl, _⟩ := h; rfl) (b_needL B G_is_link C_cont) (glo_ok X G (c.fact 12 (f := .glo "need_link") rfl))
  have G_need_net := fn_mk (P := P) (w := w) (base := base) (n := "need_net") F_need_net scNeedN (F_need_net.binds fun _ _ _ _ _ _ us hl => match us, hl with | [_], _ => rfl) (fun _ _ _ h => by obtain ⟨rfl, _⟩ := h; rfl) (b_needN B F T) (glo_ok X G (c.fact 11 (f := .glo "need_net") rfl))
  have O_is_part_of := ok_of (P := P) (w := w) (base := base) F_is_part_of scPart (fun _ _ _ h => by obtain ⟨rfl, _⟩ := h; rfl) (b_part B F G_need_net)
  have I_is_part_of : Binds K fd_is_part_of ["self", "other"] [] := (F_is_part_of.binds fun _ _ _ _ _ _ us hl => match us, hl with | [_, _], _ => rfl)
  have O___sub__ := ok_of (P := P) (w := w) (base := base) F___sub__ scSub (fun _ _ _ h => by obtain ⟨_, rfl, _⟩ := h; rfl) (b_sub B F M G_need_link G_link_of)
  have I___sub__ : Binds K fd___sub__ ["self", "other"] [] := (F___sub__.binds fun _ _ _ _ _ _ us hl => match us, hl with | [_, _], _ => rfl)
  have O_drawn_together := ok_of (P := P) (w := w) (base := base) F_drawn_together scDrawn (fun _ _ _ h => by obtain ⟨_, rfl, _⟩ := h; rfl) (b_drawn B F M G_need_link G_link_of)
  have I_drawn_together : Binds K fd_drawn_together ["self", "link"] [] := (F_drawn_together.binds fun _ _ _ _ _ _ us hl => match us, hl with | [_, _], _ => rfl)
  have N : NetM P w K mg base (ga K "Net") := ⟨⟨_, _, _, meth_ok (c.fact 49 (f := .meth "Net" "nodes") rfl), O_nodes, I_nodes⟩, ⟨_, _, _, meth_ok (c.fact 50 (f := .meth "Net" "links") rfl), O_links, I_links⟩, ⟨_, _, _, _, ⟨eqO_ok x27, eqO_ok x28, opB_ok x29, recB_ok x30⟩, O_size, I_size⟩, ⟨_, (let m := meth_ok (c.fact 54 (f := .meth "Net" "__len__") rfl); (⟨m.1, m.2⟩ : HasOp K (ga K "Net") "__len__" (atM "Net" "__len__" K))), raw_of O___len__ I___len__⟩, ⟨_, (let m := meth_ok (c.fact 53 (f := .meth "Net" "__eq__") rfl); (⟨m.1, m.2⟩ : HasOp K (ga K "Net") "__eq__" (atM "Net" "__eq__" K))), raw_of O___eq__ I___eq__⟩⟩
  have M2 : NetM2 P w K mg base (ga K "Net") := ⟨⟨_, _, _, meth_ok (c.fact 51 (f := .meth "Net" "is_part_of") rfl), O_is_part_of, I_is_part_of⟩, ⟨_, _, _, meth_ok (c.fact 52 (f := .meth "Net" "drawn_together") rfl), O_drawn_together, I_drawn_together⟩, ⟨_, ⟨(let m := meth_ok (c.fact 56 (f := .meth "Net" "__sub__") rfl); (⟨m.1, m.2⟩ : HasOp K (ga K "Net") "__sub__" (atM "Net" "__sub__" K))), x8, eqO_ok x9, eqO_ok x10, eqO_ok x11⟩, raw_of O___sub__ I___sub__⟩, ⟨eqO_ok x6, opB_ok x7⟩⟩
  have S_path := star_of (P := P) (w := w) (mg := mg) (base := base) (starOk_of (ps := ["cls"]) F_path scPath fun _ _ _ _ _ _ us rest hl => match us, rest, hl with | [_], [], _ => rfl | [_], _ :: _, _ => rfl) (b_path M G_check_nodes G_links_along)
  have S_ring := star_of (P := P) (w := w) (mg := mg) (base := base) (starOk_of (ps := ["cls"]) F_ring scRing fun _ _ _ _ _ _ us rest hl => match us, rest, hl with | [_], [], _ => rfl | [_], _ :: _, _ => rfl) (b_ring B M G_check_nodes G_links_along)
  have S_full := star_of (P := P) (w := w) (mg := mg) (base := base) (starOk_of (ps := ["cls"]) F_full scFull fun _ _ _ _ _ _ us rest hl => match us, rest, hl with | [_], [], _ => rfl | [_], _ :: _, _ => rfl) (b_full B F M G_check_nodes)
  have S_of := star_of (P := P) (w := w) (mg := mg) (base := base) (starOk_of (ps := []) F_of scOf fun _ _ _ _ _ _ us rest hl => match us, rest, hl with | [], [], _ => rfl | [], _ :: _, _ => rfl) (b_of B F M G_checked_links)
  have NC : NetC P w K mg base (ga K "Net") := ⟨(glo_ok X G (c.fact 24 (f := .glo "Net") rfl)), _, CR, ⟨_, _, ⟨gotB_ok x16, recB_ok x17, x18⟩, S_path⟩, ⟨_, _, ⟨gotB_ok x19, recB_ok x20, x21⟩, S_ring⟩, ⟨_, _, ⟨gotB_ok x22, recB_ok x23, x24⟩, S_full⟩, _, _, ⟨gotB_ok x25, recB_ok x26, F_of.kp⟩, S_of⟩
  have G__law_draw := fn_mk (P := P) (w := w) (base := base) (n := "_law_draw") F__law_draw scDraw (F__law_draw.binds fun _ _ _ _ _ _ us hl => match us, hl with | [_, _], _ => rfl) (fun _ _ _ h => by obtain ⟨rfl, _⟩ := h; rfl) (b_draw BL) (glo_ok X G (c.fact 14 (f := .glo "_law_draw") rfl))
  have G__law_pot := fn_mk (P := P) (w := w) (base := base) (n := "_law_pot") F__law_pot scPot (F__law_pot.binds fun _ _ _ _ _ _ us hl => match us, hl with | [_, _], _ => rfl) (fun _ _ _ h => by obtain ⟨_, rfl, _⟩ := h; rfl) (K19.b_pot BL) (glo_ok X G (c.fact 13 (f := .glo "_law_pot") rfl))
  have G__law_link := fn_mk (P := P) (w := w) (base := base) (n := "_law_link") F__law_link scLink (F__law_link.binds fun _ _ _ _ _ _ us hl => match us, hl with | [_, _], _ => rfl) (fun _ _ _ h => by obtain rfl := h; rfl) (b_link) (glo_ok X G (c.fact 15 (f := .glo "_law_link") rfl))
  have G__law_label := fn_mk (P := P) (w := w) (base := base) (n := "_law_label") F__law_label scLabel (F__law_label.binds fun _ _ _ _ _ _ us hl => match us, hl with | [_], _ => rfl) (fun _ _ _ h => by obtain ⟨rfl, _⟩ := h; rfl) (b_label BL G__law_draw) (glo_ok X G (c.fact 16 (f := .glo "_law_label") rfl))
  have G__law_labels := fn_mk (P := P) (w := w) (base := base) (n := "_law_labels") F__law_labels scLabels (F__law_labels.binds fun _ _ _ _ _ _ us hl => match us, hl with | [_], _ => rfl) (fun _ _ _ h => by obtain ⟨rfl, _⟩ := h; rfl) (b_labels BL G__law_label) (glo_ok X G (c.fact 17 (f := .glo "_law_labels") rfl))
  have G__law_three := fn_mk (P := P) (w := w) (base := base) (n := "_law_three") F__law_three scThree (F__law_three.binds fun _ _ _ _ _ _ us hl => match us, hl with | [_, _], _ => rfl) (fun _ _ _ h => by obtain ⟨_, rfl, _⟩ := h; rfl) (b_three NC) (glo_ok X G (c.fact 18 (f := .glo "_law_three") rfl))
  have G__law_is := gn_mk (P := P) (w := w) (base := base) (n := "_law_is") F__law_is scIs (F__law_is.binds fun _ _ _ _ _ _ us hl => match us, hl with | [_, _, _], _ => rfl) (fun _ _ _ h => by obtain ⟨_, _, _, rfl, _⟩ := h; rfl) (b_is B (free_ok X G (c.fact 41 (f := .free "repr") rfl)) F T M N) (glo_ok X G (c.fact 19 (f := .glo "_law_is") rfl))
  have G__law_size_right := gn_mk (P := P) (w := w) (base := base) (n := "_law_size_right") F__law_size_right scSizeR (F__law_size_right.binds fun _ _ _ _ _ _ us hl => match us, hl with | [_, _, _], _ => rfl) (fun _ _ _ h => by obtain ⟨_, rfl, _⟩ := h; rfl) (b_sizeR B BL (free_ok X G (c.fact 38 (f := .free "min") rfl)) (free_ok X G (c.fact 39 (f := .free "zip") rfl)) F N M2 G__law_three G__law_link G__law_draw G__law_is) (glo_ok X G (c.fact 20 (f := .glo "_law_size_right") rfl))
  have G__law_of_right := gn_mk (P := P) (w := w) (base := base) (n := "_law_of_right") F__law_of_right scOfR (F__law_of_right.binds fun _ _ _ _ _ _ us hl => match us, hl with | [_, _], _ => rfl) (fun _ _ _ h => by obtain ⟨_, rfl, _⟩ := h; rfl) (b_ofR B BL (free_ok X G (c.fact 40 (f := .free "set") rfl)) NC G__law_link G__law_draw G__law_is) (glo_ok X G (c.fact 21 (f := .glo "_law_of_right") rfl))
  have G__law_right := gn_mk (P := P) (w := w) (base := base) (n := "_law_right") F__law_right scRight (F__law_right.binds fun _ _ _ _ _ _ us hl => match us, hl with | [_], _ => rfl) (fun _ _ _ h => by obtain ⟨rfl, _⟩ := h; rfl) (b_right B BL NC G__law_labels G__law_size_right G__law_of_right G__law_is) (glo_ok X G (c.fact 22 (f := .glo "_law_right") rfl))
  obtain ⟨f, hf, _, q⟩ := (gn_mk (P := P) (w := w) (base := base) (n := "law") F_law scLaw (F_law.binds fun _ _ _ _ _ _ us hl => match us, hl with | [_], _ => rfl) (fun _ _ _ h => by obtain ⟨_, rfl, _⟩ := h; rfl) (b_law B BL (free_ok X G (c.fact 38 (f := .free "min") rfl)) G__law_pot G__law_right) (glo_ok X G (c.fact 23 (f := .glo "law") rfl))).ex
  have e := hf.symm.trans (glo_ok X G (c.fact 23 (f := .glo "law") rfl))
  cases e
  exact @q
end
theorem walk_ofGE {l : PySem.W.OpenLaw} {n k : Nat} {q : Program} {loose : List Str} {XP : (Str → Option Value) → Heap → Prop} {YP : World → Heap → Prop} {d : DefRec} {sp : PySem.W.Frag → Sp} (hn : l.most = some n) (hn2 : n ≤ sizeLine) (hdf : d.params.defaults = []) (hr : Room k callerA)
    (F : ∀ (w : World) (mg : Str → Option Value) (fa : Addr) (h : Heap), YP w h → h.Ns mainGlobals mg → mg d.name = some (.ref fa) → ∃ K : PySem.W.Frag, K.In h ∧ ∀ base : Heap, K.In base → base.Ns mainGlobals mg → FnG l.prog w K mg base k fa (sp K))
    (hsp : ∀ (K : PySem.W.Frag) (H : Hp) (a : Addr) (ns : List Int), ns.length ≤ n → Only H → SqL K H a (ns.map V.int) → sp K [.ref a] H (fun v _ => v = .bl true) fun _ _ _ => False) :
    PySem.W.WalkO q loose XP YP l.row.toRowW d [] (fun f vs => PySem.call f vs) := by
  refine Att.attach_call hn hdf fun w s₀ s₁ mg mb fa o pm cd doc a vs ns G Y ho hd hcd hmg hobj hints hlen hg => ?_
  obtain ⟨K, KX, F'⟩ := F w mg fa _ Y G.T.g hmg
  exact law_callG KX G.T.g G.T.b G.T.builtins G.T.nolimit hg hobj hints (Nat.le_trans hlen hn2) hr F' fun H => hsp K H a ns hlen
end K19
open PySem PySem.W PySem.Calls PyProof.Rows
theorem PySem.Challenge.cw_outsigns_k19_paths_rings_and_full_nets_holds : PySem.Challenge.rw_outsigns_k19_paths_rings_and_full_nets.Holds := by
  w_on; o_law
  refine HandSHeadRun.head_any (r := K19.R) (q := view K19.R.prog [50]) (H := K19.hk) (ob := K19.ob) (M := 40000) (loose := K19.names) (d := HandSHeadRun.topDef K19.R.prog 50) (kwd := []) K19.ob_eq
    (by kernel_rfl) (fun s => by kernel_rfl) K19.run (by kernel_rfl) (by kernel_rfl) (by kernel_rfl) (by rfl) (by first | assumption | decide +kernel) (by decide +kernel) ⟨rfl, rfl, rfl, rfl, rfl, by decide +kernel⟩ ?hw ?hc
  case hw => w_witness2
  case hc =>
    refine K19.walk_ofGE (l := PySem.Challenge.rw_outsigns_k19_paths_rings_and_full_nets) (n := 63) (k := 14) (sp := fun K => LW.SpF (K19.ALaw K) K19.RTrue) rfl (by decide) (by kernel_rfl) ⟨rfl, by decide, by decide⟩ ?F ?S
    case F =>
      intro w mg fa h Y G hmg0
      obtain ⟨K, KX, c⟩ := Y
      have hmg : mg ("law" : PySem.Str) = some (.ref fa) := by
        have e : (HandSHeadRun.topDef K19.R.prog 50).name = ("law" : PySem.Str) := by kernel_rfl
        rw [← e]
        exact hmg0
      have e : fa = LW.atG "law" K := by
        have z := hmg.symm.trans (He.glo_ok KX G (c.fact 23 (f := .glo "law") rfl))
        cases z
        rfl
      subst e
      exact ⟨K, KX, fun base _ _ => K19.law_facts KX G c⟩
    case S =>
      intro K H a ns hl _ hS
      exact ⟨ns, H, Evl.Ex.refl H, fun H' e => ⟨a, rfl, Evl.ex_l e hS, hl⟩, fun v Hn H2 g r => r.now⟩
