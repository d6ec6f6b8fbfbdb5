import PyProof.Rows.All
import Wide.All
import OpenK.AllK
import Wide.FinOn
import HandS.ForMost
import HandS.ForExc
import HandS.EndBits
import HandS.Wide
import HandS.IsInst
import HandS.Defaults
import HandS.Deep
import HandS.Zip
import HandS.Rev
import HandS.TupAny
import HandS.Style
import HandS.Flow
import HandS.ExcInit
import HandS.Small
import HandS.Steps
import HandS.Conv
import KE.GoesNew
import KE.DatumIndex
import KE.GoesZip
import PyProof.ReprReads
import Flt.Len
import HandS.Evl
import HandS.ExcField
import HandS.ExcIs
import HandS.List
import KE.KExcIs
import HandS.ExcValue
import HandS.Head0
import HandS.Head1
import HandS.Head2
import HandS.HeadEnd
import HandS.HeadHook1
import HandS.HeadHook2
import PySem.Challenge.RW_fewfetches_k99_errors_stand_apart
set_option Elab.async false
set_option linter.all false
set_option maxRecDepth 100000
set_option maxHeartbeats 4000000
set_option autoImplicit false
namespace Co
open PySem L2
abbrev D := PyData
/-! ### heaps that grow: a base B of things that never change, within the heap H -/
theorem seqT_up {K : PySem.W.Frag} {H H' : Hp} {a : Addr} {xs : List V} (e : Same H H') (h : SqT K H a xs) : SqT K H' a xs := by
  rcases h with (h | ⟨o, h⟩) | h
  · exact .inl (.inl (e _ _ h))
  · exact .inl (.inr ⟨o, e _ _ h⟩)
  · exact .inr h
mutual
theorem dp_up {K : PySem.W.Frag} {H H' : Hp} (e : Same H H') : ∀ (d : D) (v : V), Dp K H v d → Dp K H' v d
  | .none, _, h => by cases h; exact .non
  | .bool b, _, h => by cases h; exact .bl b
  | .int i, _, h => by cases h; exact .int i
  | .str x, _, h => by cases h; exact .str x
  | .list ds, _, h => by
    cases h with
    | lst hs ha => exact .lst (e.seq hs) (dps_up e ds _ ha)
  | .tuple ds, _, h => by
    cases h with
    | tup hs ha => exact .tup (seqT_up e hs) (dps_up e ds _ ha)
  | .dict _, _, h => by cases h
theorem dps_up {K : PySem.W.Frag} {H H' : Hp} (e : Same H H') : ∀ (ds : List D) (vs : List V), DpAll K H vs ds → DpAll K H' vs ds
  | [], _, h => by cases h; exact .nil
  | d :: ds, _, h => by
    cases h with
    | cons h1 h2 => exact .cons (dp_up e d _ h1) (dps_up e ds _ h2)
end
/-- from base B and heap H to B' and H': what is new in the base is new in the heap; nothing of the heap changes but at M -/
structure Gm (M : Addr → Prop) (B H B' H' : Hp) : Prop where
  b : Same B B'
  i : Same B' H'
  r : ∀ a o, ¬ M a → H a = some o → H' a = some o
  f : ∀ a, B a = none → H a ≠ none → B' a = none
abbrev M0 : Addr → Prop := fun _ => False
abbrev Gw (B H B' H' : Hp) : Prop := Gm M0 B H B' H'
theorem Gm.same {B H B' H' : Hp} (g : Gw B H B' H') : Same H H' := fun a o h => g.r a o (fun z => z) h
theorem Gm.refl {M : Addr → Prop} {B H : Hp} (e : Same B H) : Gm M B H B H := ⟨Same.refl _, e, fun _ _ _ h => h, fun _ h _ => h⟩
theorem Gm.trans {M : Addr → Prop} {B H B1 H1 B2 H2 : Hp} (g : Gm M B H B1 H1) (h : Gm M B1 H1 B2 H2) (st : ∀ a, M a → H a ≠ none → H1 a ≠ none) : Gm M B H B2 H2 :=
  ⟨g.b.trans h.b, h.i, fun a o n q => h.r a o n (g.r a o n q), fun a q n => by
    refine h.f a (g.f a q n) ?_
    by_cases m : M a
    · exact st a m n
    · cases e : H a with
      | none => exact absurd e n
      | some o =>
        rw [g.r a o m e]
        intro z; cases z⟩
theorem Gm.weak {M M' : Addr → Prop} {B H B' H' : Hp} (g : Gm M B H B' H') (h : ∀ a, M a → M' a) : Gm M' B H B' H' := ⟨g.b, g.i, fun a o n q => g.r a o (fun z => n (h a z)) q, g.f⟩
theorem Gw.trans {B H B1 H1 B2 H2 : Hp} (g : Gw B H B1 H1) (h : Gw B1 H1 B2 H2) : Gw B H B2 H2 := Gm.trans g h fun _ m => m.elim
/-- a new object of the base -/
theorem Gw.new {B H : Hp} {p : Addr} {o : HO} (e : Same B H) (h : H p = none) : Gw B H (upd B p o) (upd H p o) where
  b := fun a u q => by rw [upd_ne (ne_of_none (e a u q) h)]; exact q
  i := fun a u q => by
    by_cases z : a = p
    · subst z; rw [upd_same] at q ⊢; exact q
    · rw [upd_ne z] at q ⊢; exact e a u q
  r := fun a u _ q => by rw [upd_ne (ne_of_none q h)]; exact q
  f := fun a q n => by
    have z : a ≠ p := fun z => n (by rw [z]; exact h)
    rw [upd_ne z]; exact q
/-- a new object that is not of the base -/
theorem Gw.own {B H : Hp} {p : Addr} {o : HO} (e : Same B H) (h : H p = none) : Gw B H B (upd H p o) where
  b := Same.refl _
  i := fun a u q => by rw [upd_ne (ne_of_none (e a u q) h)]; exact e a u q
  r := fun a u _ q => by rw [upd_ne (ne_of_none q h)]; exact q
  f := fun a q n => q
theorem base_none {B H : Hp} {p : Addr} (e : Same B H) (h : H p = none) : B p = none := by
  cases q : B p with
  | none => rfl
  | some o => rw [e p o q] at h; cases h
/-- an object that is not of the base changes -/
theorem Gm.mut {B H : Hp} {p : Addr} {o : HO} (e : Same B H) (h : B p = none) : Gm (· = p) B H B (upd H p o) where
  b := Same.refl _
  i := fun a u q => by rw [upd_ne (ne_of_none q h)]; exact e a u q
  r := fun a u n q => by rw [upd_ne n]; exact q
  f := fun a q n => q
def join (B B' : Hp) : Hp := fun a => match B a with
  | some o => some o
  | none => B' a
theorem join_l {B B' : Hp} {a : Addr} {o : HO} (h : B a = some o) : join B B' a = some o := by unfold join; rw [h]
theorem join_r {B B' : Hp} {a : Addr} (h : B a = none) : join B B' a = B' a := by unfold join; rw [h]
/-- a greater base -/
theorem Gm.widen {B H B' H' B1 : Hp} (g : Gw B H B' H') (e1 : Same B B1) (e2 : Same B1 H) : Gw B1 H (join B1 B') H' ∧ Same B' (join B1 B') := by
  have k : Same B' (join B1 B') := fun a o q => by
    cases z : B1 a with
    | none => rw [join_r z]; exact q
    | some u =>
      rw [join_l z]
      have h1 := g.same a u (e2 a u z)
      rw [g.i a o q] at h1
      exact h1.symm
  refine ⟨⟨fun a o q => join_l q, fun a o q => ?_, g.r, fun a q n => ?_⟩, k⟩
  · cases z : B1 a with
    | none => rw [join_r z] at q; exact g.i a o q
    | some u =>
      rw [join_l z] at q
      cases q
      exact g.same a _ (e2 a _ z)
  · rw [join_r q]
    refine g.f a ?_ n
    cases z : B a with
    | none => rfl
    | some o => rw [e1 a o z] at q; cases q
/-! ### what evaluates to which data -/
section
variable {K : PySem.W.Frag}
def DE (K : PySem.W.Frag) (te : TE) (σ : St) (B : Hp) (d : D) : Prop := ∀ H, Same B H → ∀ Q : VK, (∀ v B' H', Gw B H B' H' → Dp K B' v d → Q v H') → te σ H Q
def DA (K : PySem.W.Frag) (ta : TA) (σ : St) (B : Hp) (ds : List D) : Prop := ∀ H, Same B H → ∀ Q : List V → Hp → Prop, (∀ vs B' H', Gw B H B' H' → DpAll K B' vs ds → Q vs H') → ta σ H Q
def DT (tt : TT) (σ : St) (B : Hp) (b : Bool) : Prop := ∀ H, Same B H → ∀ Q : Bool → Hp → Prop, (∀ B' H', Gw B H B' H' → Q b H') → tt σ H Q
def DO (to : TO) (σ : St) (B : Hp) (o : Option Int) : Prop := ∀ H, Same B H → ∀ Q : Option Int → Hp → Prop, (∀ B' H', Gw B H B' H' → Q o H') → to σ H Q
def RD (K : PySem.W.Frag) (r : R2) (x y d : D) : Prop := ∀ B H u v, Same B H → Dp K B u x → Dp K B v y → ∀ Q : VK, (∀ w B' H', Gw B H B' H' → Dp K B' w d → Q w H') → r u v H Q
def CD (K : PySem.W.Frag) (r : List V → Hp → VK → Prop) (ds : List D) (d : D) : Prop := ∀ B H vs, Same B H → DpAll K B vs ds → ∀ Q : VK, (∀ w B' H', Gw B H B' H' → Dp K B' w d → Q w H') → r vs H Q
def SD (K : PySem.W.Frag) (r : V → Option Int → Option Int → Hp → VK → Prop) (x : D) (l u : Option Int) (d : D) : Prop := ∀ B H v, Same B H → Dp K B v x → ∀ Q : VK, (∀ w B' H', Gw B H B' H' → Dp K B' w d → Q w H') → r v l u H Q
/-- a def whose answer is such data -/
def PD (K : PySem.W.Frag) (sp : Sp) (ds : List D) (d : D) : Prop := ∀ B H vs, Same B H → DpAll K B vs ds → ∀ (Q : VK) (E : XK), (∀ w B' H', Gw B H B' H' → Dp K B' w d → Q w H') → sp vs H Q E
variable {σ : St} {B B1 H : Hp} {d d1 d2 x y : D} {te ta tb : TE} {tt uu : TT}
theorem DE.up (h : DE K te σ B d) (e : Same B B1) : DE K te σ B1 d := fun H e1 Q q => h H (e.trans e1) Q fun v B' H' g r => by
  obtain ⟨g', k⟩ := g.widen e e1
  exact q v _ H' g' (dp_up k _ _ r)
theorem DA.up {ta : TA} {ds : List D} (h : DA K ta σ B ds) (e : Same B B1) : DA K ta σ B1 ds := fun H e1 Q q => h H (e.trans e1) Q fun v B' H' g r => by
  obtain ⟨g', k⟩ := g.widen e e1
  exact q v _ H' g' (dps_up k _ _ r)
theorem DT.up {b : Bool} (h : DT tt σ B b) (e : Same B B1) : DT tt σ B1 b := fun H e1 Q q => h H (e.trans e1) Q fun B' H' g => by
  obtain ⟨g', k⟩ := g.widen e e1
  exact q _ H' g'
theorem de_is (h : DE K te σ B d) (e : d = d1) : DE K te σ B d1 := e ▸ h
theorem dt_is {a b : Bool} (h : DT tt σ B a) (e : a = b) : DT tt σ B b := e ▸ h
theorem de_var {i : Nat} {v : V} (h : σ[i]? = some (some v)) (r : Dp K B v d) : DE K (tVar i) σ B d := fun H e _ q => ⟨v, h, q v B H (.refl e) r⟩
theorem de_c {v : V} (r : ∀ B, Dp K B v d) : DE K (tC v) σ B d := fun H e _ q => q v B H (.refl e) (r B)
theorem de_int {i : Int} : DE K (tC (.int i)) σ B (.int i) := de_c fun _ => .int i
theorem de_bl {i : Bool} : DE K (tC (.bl i)) σ B (.bool i) := de_c fun _ => .bl i
theorem de_str {i : Str} : DE K (tC (.str i)) σ B (.str i) := de_c fun _ => .str i
theorem de_non : DE K (tC .non) σ B .none := de_c fun _ => .non
theorem de_op {r : R2} (ha : DE K ta σ B x) (hb : DE K tb σ B y) (hr : RD K r x y d) : DE K (tOp r ta tb) σ B d := fun H e Q q =>
  ha H e _ fun u B1 H1 g1 r1 => hb.up g1.b H1 g1.i _ fun v B2 H2 g2 r2 => hr B2 H2 u v g2.i (dp_up g2.b _ _ r1) r2 Q fun w B3 H3 g3 r3 => q w B3 H3 ((g1.trans g2).trans g3) r3
theorem da_nil : DA K tNil σ B [] := fun H e _ q => q [] B H (.refl e) .nil
theorem da_cons {tr : TA} {ds : List D} (h : DE K te σ B d) (hr : DA K tr σ B ds) : DA K (tCons te tr) σ B (d :: ds) := fun H e Q q =>
  h H e _ fun u B1 H1 g1 r1 => hr.up g1.b H1 g1.i _ fun vs B2 H2 g2 r2 => q _ B2 H2 (g1.trans g2) (.cons (dp_up g2.b _ _ r1) r2)
theorem dpall_len {vs : List V} : ∀ {ds : List D}, DpAll K B vs ds → vs.length = ds.length := by
  induction vs with
  | nil => intro ds h; cases h; rfl
  | cons v vs ih => intro ds h; cases h with | cons h1 h2 => rw [List.length_cons, List.length_cons, ih h2]
theorem de_tup {t : TA} {ds : List D} (h : DA K t σ B ds) (hl : ds.length ≤ 100000) : DE K (tTup t) σ B (.tuple ds) := fun H e Q q =>
  h H e _ fun vs B1 H1 g1 r1 => ⟨Nat.le_trans (by rw [dpall_len r1]; exact hl) (by decide), fun p hp => q _ (upd B1 p (.tup vs)) _ (g1.trans (Gw.new g1.i hp)) (.tup (.inl (.inl upd_same)) (dps_up (Gw.new g1.i hp).b _ _ r1))⟩
theorem de_lst {t : TA} {ds : List D} (h : DA K t σ B ds) (hl : ds.length ≤ 100000) : DE K (tLst t) σ B (.list ds) := fun H e Q q =>
  h H e _ fun vs B1 H1 g1 r1 => ⟨Nat.le_trans (by rw [dpall_len r1]; exact hl) (by decide), fun p hp => q _ (upd B1 p (.lst vs)) _ (g1.trans (Gw.new g1.i hp)) (.lst (.inl (.inl upd_same)) (dps_up (Gw.new g1.i hp).b _ _ r1))⟩
theorem de_cb {r : List V → Hp → VK → Prop} {t : TA} {ds : List D} (h : DA K t σ B ds) (hr : CD K r ds d) : DE K (tCB r t) σ B d := fun H e Q q =>
  h H e _ fun vs B1 H1 g1 r1 => hr B1 H1 vs g1.i r1 Q fun w B2 H2 g2 r2 => q w B2 H2 (g1.trans g2) r2
theorem dpall_app {vs ws : List V} {ds es : List D} (h : DpAll K B vs ds) (k : DpAll K B ws es) : DpAll K B (vs ++ ws) (ds ++ es) := by
  induction vs generalizing ds with
  | nil => cases h; exact k
  | cons v vs ih => cases h with | cons h1 h2 => exact .cons h1 (ih h2)
theorem de_call {sp : Sp} {dvs : List V} {E : XK} {t : TA} {ds es : List D} (h : DA K t σ B ds) (hd : ∀ B, DpAll K B dvs es) (hs : PD K sp (ds ++ es) d) : DE K (tCall sp dvs E t) σ B d := fun H e Q q =>
  h H e _ fun vs B1 H1 g1 r1 => hs B1 H1 _ g1.i (dpall_app r1 (hd _)) Q E fun w B2 H2 g2 r2 => q w B2 H2 (g1.trans g2) r2
theorem de_andV {a b : Bool} (h1 : DE K ta σ B (.bool a)) (h2 : a = true → DE K tb σ B (.bool b)) : DE K (tAndV ta tb) σ B (.bool (a && b)) := fun H e Q q => h1 H e _ fun u B1 H1 g1 r1 => by
  cases r1
  refine ⟨a, rfl, ?_⟩
  cases a with
  | true => exact iteT ((h2 rfl).up g1.b H1 g1.i _ fun w B2 H2 g2 r2 => q w B2 H2 (g1.trans g2) r2)
  | false => exact iteF (q _ B1 H1 g1 (.bl false))
theorem de_orV {a b : Bool} (h1 : DE K ta σ B (.bool a)) (h2 : a = false → DE K tb σ B (.bool b)) : DE K (tOrV ta tb) σ B (.bool (a || b)) := fun H e Q q => h1 H e _ fun u B1 H1 g1 r1 => by
  cases r1
  refine ⟨a, rfl, ?_⟩
  cases a with
  | true => exact iteT (q _ B1 H1 g1 (.bl true))
  | false => exact iteF ((h2 rfl).up g1.b H1 g1.i _ fun w B2 H2 g2 r2 => q w B2 H2 (g1.trans g2) r2)
theorem de_notV {a : Bool} (h1 : DE K ta σ B (.bool a)) : DE K (tNotV ta) σ B (.bool (!a)) := fun H e Q q => h1 H e _ fun u B1 H1 g1 r1 => by
  cases r1
  exact ⟨a, rfl, q _ B1 H1 g1 (.bl _)⟩
theorem de_if {b : Bool} (h : DT tt σ B b) (h1 : b = true → DE K ta σ B d) (h2 : b = false → DE K tb σ B d) : DE K (tIf tt ta tb) σ B d := fun H e Q q => h H e _ fun B1 H1 g1 => by
  cases b with
  | true => exact iteT ((h1 rfl).up g1.b H1 g1.i _ fun w B2 H2 g2 r2 => q w B2 H2 (g1.trans g2) r2)
  | false => exact iteF ((h2 rfl).up g1.b H1 g1.i _ fun w B2 H2 g2 r2 => q w B2 H2 (g1.trans g2) r2)
theorem de_ifb {b : Bool} {e1 e2 : D} (h : DT tt σ B b) (h1 : b = true → DE K ta σ B e1) (h2 : b = false → DE K tb σ B e2) : DE K (tIf tt ta tb) σ B (if b = true then e1 else e2) := by
  refine de_if h (fun q => ?_) fun q => ?_
  · subst q; exact h1 rfl
  · subst q; exact h2 rfl
/-! tests -/
theorem dt_test {b : Bool} (h : DE K te σ B (.bool b)) : DT (tTest te) σ B b := fun H e _ q => h H e _ fun u B1 H1 g1 r1 => by
  cases r1; exact ⟨b, rfl, q B1 H1 g1⟩
theorem dt_B {b : Bool} (h : DE K te σ B (.bool b)) : DT (tB te) σ B b := fun H e _ q => h H e _ fun u B1 H1 g1 r1 => by
  cases r1; exact ⟨b, rfl, q B1 H1 g1⟩
theorem dt_and {a b : Bool} (h1 : DT tt σ B a) (h2 : a = true → DT uu σ B b) : DT (tAnd tt uu) σ B (a && b) := fun H e Q q => h1 H e _ fun B1 H1 g1 => by
  cases a with
  | true => exact iteT ((h2 rfl).up g1.b H1 g1.i _ fun B2 H2 g2 => q B2 H2 (g1.trans g2))
  | false => exact iteF (q B1 H1 g1)
theorem dt_or {a b : Bool} (h1 : DT tt σ B a) (h2 : a = false → DT uu σ B b) : DT (tOr tt uu) σ B (a || b) := fun H e Q q => h1 H e _ fun B1 H1 g1 => by
  cases a with
  | true => exact iteT (q B1 H1 g1)
  | false => exact iteF ((h2 rfl).up g1.b H1 g1.i _ fun B2 H2 g2 => q B2 H2 (g1.trans g2))
theorem dt_not {a : Bool} (h1 : DT tt σ B a) : DT (tNot tt) σ B (!a) := fun H e Q q => h1 H e _ fun B1 H1 g1 => q B1 H1 g1
theorem de_chain {r r' : R2} {tc : TE} {z : D} {a b : Bool} (ha : DE K ta σ B x) (hb : DE K tb σ B y) (hr : RD K r x y (.bool a)) (hc : a = true → DE K tc σ B z) (hr' : a = true → RD K r' y z (.bool b)) : DE K (tChain r r' ta tb tc) σ B (.bool (a && b)) := fun H e Q q =>
  ha H e _ fun u B1 H1 g1 r1 => hb.up g1.b H1 g1.i _ fun v B2 H2 g2 r2 => hr B2 H2 u v g2.i (dp_up g2.b _ _ r1) r2 _ fun w B3 H3 g3 r3 => by
    cases r3
    refine ⟨a, rfl, ?_⟩
    have g13 := (g1.trans g2).trans g3
    cases a with
    | true => exact iteT ((hc rfl).up g13.b H3 g13.i _ fun w B4 H4 g4 r4 => hr' rfl B4 H4 v w g4.i (dp_up (g3.b.trans g4.b) _ _ r2) r4 Q fun w' B5 H5 g5 r5 => q w' B5 H5 ((g13.trans g4).trans g5) r5)
    | false => exact iteF (q _ B3 H3 g13 (.bl false))
/-! ### operators on data -/
theorem rd_I0 {g : Int → Int → V} {i j : Int} (h : ∀ B, Dp K B (g i j) d) : RD K (rI0 g) (.int i) (.int j) d := fun B H u v e hu hv Q q => by
  cases hu; cases hv
  exact ⟨i, j, rfl, rfl, q _ B H (.refl e) (h B)⟩
theorem rd_I {C : Int → Int → Prop} {g : Int → Int → V} {i j : Int} (hc : C i j) (h : ∀ B, Dp K B (g i j) d) : RD K (rI C g) (.int i) (.int j) d := fun B H u v e hu hv Q q => by
  cases hu; cases hv
  exact ⟨i, j, rfl, rfl, hc, q _ B H (.refl e) (h B)⟩
def rAddA (K : PySem.W.Frag) : R2 := fun x y H Q => rI0 (fun i j => .int (i + j)) x y H Q ∨ (∃ i j, x = .str i ∧ y = .str j ∧ i.length + j.length ≤ sizeLine ∧ Q (.str (i ++ j)) H) ∨ rCat x y H Q ∨ rCatA K x y H Q
theorem op_addA {X : Cx} : OpR X (binaryOp .Add) (rAddA X.K) := OpR.or op_add (OpR.or op_add_str (OpR.or op_cat op_catA))
theorem rd_addI {i j : Int} : RD K (rAddA K) (.int i) (.int j) (.int (i + j)) := fun B H u v e hu hv Q q => .inl (rd_I0 (fun _ => .int _) B H u v e hu hv Q q)
theorem rd_addS {i j : Str} (h : i.length + j.length ≤ 100000) : RD K (rAddA K) (.str i) (.str j) (.str (i ++ j)) := fun B H u v e hu hv Q q => by
  cases hu; cases hv
  exact .inr (.inl ⟨i, j, rfl, rfl, Nat.le_trans h (by decide), q _ B H (.refl e) (.str _)⟩)
theorem rd_addT {xs ys : List D} (h : xs.length + ys.length ≤ 100000) : RD K (rAddA K) (.tuple xs) (.tuple ys) (.tuple (xs ++ ys)) := fun B H u v e hu hv Q q => by
  cases hu with
  | tup hs ha =>
    cases hv with
    | tup hs' ha' =>
      rename_i a us b vs
      have l1 := dpall_len ha
      have l2 := dpall_len ha'
      refine .inr (.inr (.inr ⟨a, b, us, vs, rfl, rfl, seqT_up e hs, seqT_up e hs', by rw [l1, l2]; exact Nat.le_trans h (by decide), fun z => ?_, fun n z => ?_, fun n1 n2 p hp => ?_⟩))
      · subst z
        cases ha
        exact q _ B H (.refl e) (.tup hs' ha')
      · subst z
        cases ha'
        rw [List.append_nil] at q
        exact q _ B H (.refl e) (.tup hs ha)
      · exact q _ (upd B p _) _ (Gw.new e hp) (.tup (.inl (.inl upd_same)) (dps_up (Gw.new e hp).b _ _ (dpall_app ha ha')))
theorem rd_sub {i j : Int} : RD K (rI0 fun i j => .int (i - j)) (.int i) (.int j) (.int (i - j)) := rd_I0 fun _ => .int _
theorem rd_lt {i j : Int} : RD K (rI0 fun i j => .bl (decide (i < j))) (.int i) (.int j) (.bool (decide (i < j))) := rd_I0 fun _ => .bl _
theorem rd_le {i j : Int} : RD K (rI0 fun i j => .bl (decide (i ≤ j))) (.int i) (.int j) (.bool (decide (i ≤ j))) := rd_I0 fun _ => .bl _
theorem rd_gt {i j : Int} : RD K (rI0 fun i j => .bl (decide (j < i))) (.int i) (.int j) (.bool (decide (j < i))) := rd_I0 fun _ => .bl _
theorem rd_ge {i j : Int} : RD K (rI0 fun i j => .bl (decide (j ≤ i))) (.int i) (.int j) (.bool (decide (j ≤ i))) := rd_I0 fun _ => .bl _
theorem rd_mul {i j : Int} (h : (-(2 ^ 64) < i ∧ i < 2 ^ 64) ∨ (-(2 ^ 64) < j ∧ j < 2 ^ 64)) : RD K (rI CMul fun i j => .int (i * j)) (.int i) (.int j) (.int (i * j)) := rd_I h fun _ => .int _
theorem rd_mod {i j : Int} (h : 0 < j) : RD K (rI (fun _ j => 0 < j) fun i j => .int (i % j)) (.int i) (.int j) (.int (i % j)) := rd_I h fun _ => .int _
theorem rd_div {i j : Int} (h : 0 < j) (h2 : j.natAbs.log2 < 9000) : RD K (rI CDivW fun i j => .int (i / j)) (.int i) (.int j) (.int (i / j)) := rd_I ⟨h, h2⟩ fun _ => .int _
theorem rd_eqD (h1 : SeqAt.shaped x = true) (h2 : SeqAt.shaped y = true) : RD K (rEqD K) x y (.bool (PyData.eqv x y)) := fun B H u v e hu hv Q q => ⟨x, y, dp_up e _ _ hu, dp_up e _ _ hv, h1, h2, q _ B H (.refl e) (.bl _)⟩
theorem rd_neD (h1 : SeqAt.shaped x = true) (h2 : SeqAt.shaped y = true) : RD K (rNeD K) x y (.bool (!PyData.eqv x y)) := fun B H u v e hu hv Q q => ⟨x, y, dp_up e _ _ hu, dp_up e _ _ hv, h1, h2, q _ B H (.refl e) (.bl _)⟩
def isNone : D → Bool
  | .none => true
  | _ => false
theorem dec_non {B : Hp} {v : V} (h : Dp K B v x) : decide (v = V.non) = isNone x := by
  cases h <;> first | rfl | exact decide_eq_false (fun z => nomatch z)
theorem rd_isN : RD K rIsN x .none (.bool (isNone x)) := fun B H u v e hu hv Q q => by
  cases hv
  refine ⟨rfl, ?_⟩
  rw [dec_non hu]
  exact q _ B H (.refl e) (.bl _)
theorem rd_notN : RD K rNotN x .none (.bool (!isNone x)) := fun B H u v e hu hv Q q => by
  cases hv
  refine ⟨rfl, ?_⟩
  rw [dec_non hu]
  exact q _ B H (.refl e) (.bl _)
end
end Co
namespace Co
open PySem PyProof.Rows L2
/-! ### for x in a list or a tuple -/
def iSeq (K : PySem.W.Frag) (te : TE) : TI := fun σ H R => te σ H fun v H1 => ∃ a xs, v = .ref a ∧ ((SqL K H1 a xs ∧ R (Itl K a) H1) ∨ (SqT K H1 a xs ∧ R (Itt K a) H1))
theorem pi_seq {X : Cx} {tg l : Expr} {tl : TE} (hl : PE X l tl) : PI X tg l (iSeq X.K tl) := by
  refine ⟨fun pins s σ H R I h => ?_⟩
  refine thn (hl.run pins s σ H _ I h) fun v s1 ⟨x, H1, I1, r1, a, xs, e, q⟩ => ?_
  subst e
  cases r1
  have fr : ∀ c ∈ [s1.heap.objs.size], FpOk X pins H1 c := fun c hc => by
    rw [List.mem_singleton.mp hc]
    exact I1.fpOk (Nat.le_refl _) (I1.hok.fresh (Nat.le_refl _))
  rcases q with ⟨hq, q⟩ | ⟨hq, q⟩
  · obtain ⟨its, rv, p, _⟩ := I1.list hq
    exact wpAny_pyIter_list p.isList ⟨s1.heap.objs.size, [s1.heap.objs.size], _, _, H1, rfl, I1.kept (t' := s1.toks) fun b o e => Heap.get?_push_of_some _ e, turn_list a _, ⟨_, Heap.get?_push_size _ rfl, rfl, rfl⟩, fr, q⟩
  · obtain ⟨its, rv, p, _⟩ := I1.tuple hq
    exact wpAny_pyIter_tuple (show s1.heap.IsTuple a its.toArray from p) ⟨s1.heap.objs.size, [s1.heap.objs.size], _, _, H1, rfl, I1.kept (t' := s1.toks) fun b o e => Heap.get?_push_of_some _ e, turn_tuple a _, ⟨_, Heap.get?_push_size _ rfl, rfl, rfl⟩, fr, q⟩
inductive SeqD : D → List D → Prop
  | l (ds : List D) : SeqD (.list ds) ds
  | t (ds : List D) : SeqD (.tuple ds) ds
section
variable {K : PySem.W.Frag} {σ : L2.St} {B B1 H : Hp} {d d1 d2 x y : D} {te ta tb tc : TE} {tt uu : TT}
/-! ### isinstance -/
def tyName : D → String
  | .none => "NoneType"
  | .bool _ => "bool"
  | .int _ => "int"
  | .str _ => "str"
  | .list _ => "list"
  | .tuple _ => "tuple"
  | .dict _ => "dict"
theorem tyx_of {v : V} (h : Dp K H v x) : TyX K H v (.type (tyName x)) := by
  cases h with
  | non => exact .base .non
  | bl b => exact .base (.bl b)
  | int i => exact .base (.int i)
  | str i => exact .base (.str i)
  | lst h _ =>
    rcases h with (h | ⟨o, h⟩) | ⟨o, its, n, hk, hc, _⟩
    · exact .base (.lst h)
    · exact .base (.frz h)
    · exact .kList hk hc
  | tup h _ =>
    rcases h with (h | ⟨o, h⟩) | ⟨o, its, n, hk, hc, _⟩
    · exact .base (.tup h)
    · exact .fTuple h
    · exact .kTuple hk hc
inductive Ty where
  | int | bool | str | list | tuple
def Ty.nm : Ty → String
  | .int => "int"
  | .bool => "bool"
  | .str => "str"
  | .list => "list"
  | .tuple => "tuple"
def isA : D → Ty → Bool
  | .int _, .int => true
  | .bool _, .int => true
  | .bool _, .bool => true
  | .str _, .str => true
  | .list _, .list => true
  | .tuple _, .tuple => true
  | _, _ => false
theorem kit_isA (k : Ty) : kitB (tyName x) k.nm = some (isA x k) := by
  cases k <;> cases x <;> (show kitB _ _ = _) <;> (simp only [tyName, Ty.nm, isA]) <;> decide +kernel
theorem de_isi (n : Ty) (ha : DE K ta σ B x) : DE K (tCB (rIsi K) (tCons ta (tCons (tC (.ty n.nm)) tNil))) σ B (.bool (isA x n)) := fun H e Q q =>
  ha H e _ fun u B1 H1 g1 r1 => ⟨u, .ty n.nm, .type (tyName x), .type n.nm, isA x n, rfl, .ty n.nm, tyx_of (dp_up g1.i _ _ r1), kit_ty (kit_isA n), q _ B1 H1 g1 (.bl _)⟩
theorem de_isiT (n m : Ty) (ha : DE K ta σ B x) : DE K (tCB (rIsiT K) (tCons ta (tCons (tTup (tCons (tC (.ty n.nm)) (tCons (tC (.ty m.nm)) tNil))) tNil))) σ B (.bool (isA x n || isA x m)) := fun H e Q q =>
  ha H e _ fun u B1 H1 g1 r1 => ⟨by show 2 ≤ sizeLine; decide, fun p hp => by
    have g2 : Gw B1 H1 (upd B1 p (.tup [.ty n.nm, .ty m.nm])) (upd H1 p (.tup [.ty n.nm, .ty m.nm])) := Gw.new g1.i hp
    refine ⟨u, p, _, .type (tyName x), [.type n.nm, .type m.nm], isA x n || isA x m, rfl, upd_same, .cons (.ty n.nm) (.cons (.ty m.nm) .nil), tyx_of (dp_up (g1.i.trans g2.same) _ _ r1), ?_, q _ _ _ (g1.trans g2) (.bl _)⟩
    refine kitAny_cons (kit_ty (kit_isA n)) (fun z => ?_) (fun z => by rw [z]; rfl)
    rw [z]
    refine kitAny_cons (kit_ty (kit_isA m)) (fun z' => ?_) (fun z' => by rw [z']; rfl)
    rw [z']
    exact kitAny_nil⟩
/-! ### subscripts, slices -/
theorem dpall_get {vs : List V} : ∀ {ds : List D} {i : Nat} {d : D}, DpAll K B vs ds → ds[i]? = some d → ∃ v, vs[i]? = some v ∧ Dp K B v d := by
  induction vs with
  | nil => intro ds i d h e; cases h; simp at e
  | cons v vs ih =>
    intro ds i d h e
    cases h with
    | cons h1 h2 =>
      cases i with
      | zero => simp at e; subst e; exact ⟨v, by simp, h1⟩
      | succ i => obtain ⟨w, a, b⟩ := ih (i := i) h2 (by simpa using e); exact ⟨w, by simpa using a, b⟩
theorem dpall_mk {vs : List V} : ∀ {ds : List D}, vs.length = ds.length → (∀ (i : Nat) (v : V) (d : D), vs[i]? = some v → ds[i]? = some d → Dp K B v d) → DpAll K B vs ds := by
  induction vs with
  | nil => intro ds h _; cases ds with
    | nil => exact .nil
    | cons => simp at h
  | cons v vs ih => intro ds h k; cases ds with
    | nil => simp at h
    | cons d ds => exact .cons (k 0 v d (by simp) (by simp)) (ih (by simpa using h) fun i v d a b => k (i + 1) v d (by simpa using a) (by simpa using b))
theorem dpall_take {vs : List V} : ∀ {ds : List D} (n : Nat), DpAll K B vs ds → DpAll K B (vs.take n) (ds.take n) := by
  induction vs with
  | nil => intro ds n h; cases h; simp; exact .nil
  | cons v vs ih => intro ds n h; cases h with
    | cons h1 h2 => cases n with
      | zero => exact .nil
      | succ n => exact .cons h1 (ih n h2)
theorem dpall_drop {vs : List V} : ∀ {ds : List D} (n : Nat), DpAll K B vs ds → DpAll K B (vs.drop n) (ds.drop n) := by
  induction vs with
  | nil => intro ds n h; cases h; simp; exact .nil
  | cons v vs ih => intro ds n h; cases n with
    | zero => exact h
    | succ n => cases h with | cons h1 h2 => exact ih n h2
theorem atI_get {α : Type} {xs : List α} {i : Int} {v : α} (h0 : 0 ≤ i) (h : xs[i.toNat]? = some v) : atI xs i = some v := by
  have e := atI_nat h
  have z : ((i.toNat : Nat) : Int) = i := Int.toNat_of_nonneg h0
  rw [z] at e
  exact e
theorem rd_ixL {xs : List D} {i : Int} (h0 : 0 ≤ i) (h : xs[i.toNat]? = some d) : RD K (rIx K) (.list xs) (.int i) d := fun B H u v e hu hv Q q => by
  cases hv
  cases hu with
  | lst hs ha =>
    obtain ⟨w, e1, r⟩ := dpall_get ha h
    exact .inl ⟨_, _, i, w, rfl, rfl, e.seq hs, atI_get h0 e1, q w B H (.refl e) r⟩
theorem rd_ixT {xs : List D} {i : Int} (h0 : 0 ≤ i) (h : xs[i.toNat]? = some d) : RD K (rIx K) (.tuple xs) (.int i) d := fun B H u v e hu hv Q q => by
  cases hv
  cases hu with
  | tup hs ha =>
    obtain ⟨w, e1, r⟩ := dpall_get ha h
    exact .inr (.inl ⟨_, _, i, w, rfl, rfl, seqT_up e hs, atI_get h0 e1, q w B H (.refl e) r⟩)
theorem rd_ixS {z : Str} {i : Int} {c : Nat} (hz : z.length ≤ 100000) (h : atI z.cps.toList i = some c) : RD K (rIx K) (.str z) (.int i) (.str ⟨#[c]⟩) := fun B H u v e hu hv Q q => by
  cases hv; cases hu
  exact .inr (.inr ⟨z, i, c, rfl, rfl, Nat.le_trans hz (by decide), h, q _ B H (.refl e) (.str _)⟩)
theorem do_none : DO tNoPart σ B none := fun H e _ q => q B H (.refl e)
theorem do_some {i : Int} (h : DE K te σ B (.int i)) : DO (tPart te) σ B (some i) := fun H e _ q => h H e _ fun u B1 H1 g1 r1 => by
  cases r1; exact ⟨i, rfl, q B1 H1 g1⟩
theorem DO.up {to : TO} {o : Option Int} (h : DO to σ B o) (e : Same B B1) : DO to σ B1 o := fun H e1 Q q => h H (e.trans e1) Q fun B' H' g => by
  obtain ⟨g', k⟩ := g.widen e e1
  exact q _ H' g'
theorem de_sl {r : V → Option Int → Option Int → Hp → VK → Prop} {tl th : TO} {l u : Option Int} (ha : DE K ta σ B x) (hl : DO tl σ B l) (hu : DO th σ B u) (hr : SD K r x l u d) : DE K (tSl r ta tl th) σ B d := fun H e Q q =>
  ha H e _ fun v B1 H1 g1 r1 => hl.up g1.b H1 g1.i _ fun B2 H2 g2 => hu.up (g1.b.trans g2.b) H2 g2.i _ fun B3 H3 g3 => hr B3 H3 v g3.i (dp_up (g2.b.trans g3.b) _ _ r1) Q fun w B4 H4 g4 r4 => q w B4 H4 (((g1.trans g2).trans g3).trans g4) r4
def rSlX (K : PySem.W.Frag) : V → Option Int → Option Int → Hp → VK → Prop := fun x l u H Q => rSlL K x l u H Q ∨ rSlA K x l u H Q ∨ rSlS x l u H Q
theorem sl_any {X : Cx} : SlR X (rSlX X.K) := SlR.or sl_list (SlR.or sl_tupA sl_str)
def cutD (xs : List D) (lo hi : Option Int) : List D := (xs.drop (HT.sIx xs.length 0 lo)).take (HT.sIx xs.length xs.length hi - HT.sIx xs.length 0 lo)
theorem cut_rel {vs : List V} {ds : List D} {l u : Option Int} (h : DpAll K B vs ds) : DpAll K B (cutV vs l u) (cutD ds l u) := by
  unfold cutV cutD
  rw [dpall_len h]
  exact dpall_take _ (dpall_drop _ h)
theorem sd_L {xs : List D} {l u : Option Int} : SD K (rSlX K) (.list xs) l u (.list (cutD xs l u)) := fun B H v e hv Q q => by
  cases hv with
  | lst hs ha => exact .inl ⟨_, _, rfl, e.seq hs, fun p hp => q _ (upd B p _) _ (Gw.new e hp) (.lst (.inl (.inl upd_same)) (dps_up (Gw.new e hp).b _ _ (cut_rel ha)))⟩
theorem sd_T {xs : List D} {l u : Option Int} : SD K (rSlX K) (.tuple xs) l u (.tuple (cutD xs l u)) := fun B H v e hv Q q => by
  cases hv with
  | tup hs ha =>
    refine .inr (.inl ⟨_, _, rfl, seqT_up e hs, fun ⟨z1, z2⟩ => ?_, fun _ p hp => q _ (upd B p _) _ (Gw.new e hp) (.tup (.inl (.inl upd_same)) (dps_up (Gw.new e hp).b _ _ (cut_rel ha)))⟩)
    have el := dpall_len ha
    rw [el] at z1 z2
    have ec : cutD xs l u = xs := by
      unfold cutD
      rw [z1, z2]
      simp
    rw [ec] at q
    exact q _ B H (.refl e) (.tup hs ha)
theorem sd_S {z : Str} {l u : Option Int} (h : z.length ≤ 100000) : SD K (rSlX K) (.str z) l u (.str (cutS z l u)) := fun B H v e hv Q q => by
  cases hv
  exact .inr (.inr ⟨z, rfl, Nat.le_trans h (by decide), q _ B H (.refl e) (.str _)⟩)
/-! ### built-ins -/
def rLenA (K : PySem.W.Frag) : List V → Hp → VK → Prop := fun xs H Q => ∃ x n, xs = [x] ∧ LenV K x H n ∧ Q (.int n) H
theorem call_lenA {X : Cx} : CallR X (.builtin "len") (rLenA X.K) := call_len
theorem cd_lenL {xs : List D} : CD K (rLenA K) [.list xs] (.int (xs.length : Int)) := fun B H vs e h Q q => by
  cases h with
  | cons h1 h2 =>
    cases h2
    cases h1 with
    | lst hs ha =>
      exact ⟨_, _, rfl, .inl ⟨_, e.seq hs, rfl⟩, by rw [dpall_len ha]; exact q _ B H (.refl e) (.int _)⟩
theorem cd_lenT {xs : List D} : CD K (rLenA K) [.tuple xs] (.int (xs.length : Int)) := fun B H vs e h Q q => by
  cases h with
  | cons h1 h2 =>
    cases h2
    cases h1 with
    | tup hs ha => exact ⟨_, _, rfl, .inr ⟨_, seqT_up e hs, rfl⟩, by rw [dpall_len ha]; exact q _ B H (.refl e) (.int _)⟩
theorem cd_lenS {z : Str} (h : z.length ≤ 100000) : CD K (rLenA K) [.str z] (.int (z.length : Int)) := fun B H vs e hh Q q => by
  cases hh with
  | cons h1 h2 =>
    cases h2; cases h1
    exact ⟨_, _, rfl, ⟨Nat.le_trans h (by decide), rfl⟩, q _ B H (.refl e) (.int _)⟩
def rTupO (K : PySem.W.Frag) : List V → Hp → VK → Prop := fun xs H Q => ∃ p ys, xs = [.ref p] ∧ ((SqL K H p ys ∧ ∀ l, H l = none → Q (.ref l) (upd H l (.tup ys))) ∨ (SqT K H p ys ∧ Q (.ref p) H))
theorem call_tupO {X : Cx} : CallR X (.type "tuple") (rTupO X.K) := call_tuple_of
theorem cd_tupL {xs : List D} : CD K (rTupO K) [.list xs] (.tuple xs) := fun B H vs e h Q q => by
  cases h with
  | cons h1 h2 =>
    cases h2
    cases h1 with
    | lst hs ha => exact ⟨_, _, rfl, .inl ⟨e.seq hs, fun p hp => q _ (upd B p _) _ (Gw.new e hp) (.tup (.inl (.inl upd_same)) (dps_up (Gw.new e hp).b _ _ ha))⟩⟩
theorem cd_tupT {xs : List D} : CD K (rTupO K) [.tuple xs] (.tuple xs) := fun B H vs e h Q q => by
  cases h with
  | cons h1 h2 =>
    cases h2
    cases h1 with
    | tup hs ha => exact ⟨_, _, rfl, .inr ⟨seqT_up e hs, q _ B H (.refl e) (.tup hs ha)⟩⟩
def rLstO (K : PySem.W.Frag) : List V → Hp → VK → Prop := fun xs H Q => ∃ p ys, xs = [.ref p] ∧ (SqL K H p ys ∨ SqT K H p ys) ∧ ∀ l, H l = none → Q (.ref l) (upd H l (.lst ys))
theorem call_lstO {X : Cx} : CallR X (.type "list") (rLstO X.K) := call_list_of
theorem cd_lstL {xs : List D} : CD K (rLstO K) [.list xs] (.list xs) := fun B H vs e h Q q => by
  cases h with
  | cons h1 h2 =>
    cases h2
    cases h1 with
    | lst hs ha => exact ⟨_, _, rfl, .inl (e.seq hs), fun p hp => q _ (upd B p _) _ (Gw.new e hp) (.lst (.inl (.inl upd_same)) (dps_up (Gw.new e hp).b _ _ ha))⟩
theorem cd_lstT {xs : List D} : CD K (rLstO K) [.tuple xs] (.list xs) := fun B H vs e h Q q => by
  cases h with
  | cons h1 h2 =>
    cases h2
    cases h1 with
    | tup hs ha => exact ⟨_, _, rfl, .inr (seqT_up e hs), fun p hp => q _ (upd B p _) _ (Gw.new e hp) (.lst (.inl (.inl upd_same)) (dps_up (Gw.new e hp).b _ _ ha))⟩
theorem dpall_bools {vs : List V} : ∀ {bs : List Bool}, DpAll K B vs (bs.map .bool) → vs = bs.map V.bl := by
  induction vs with
  | nil => intro bs h; cases bs with
    | nil => rfl
    | cons => cases h
  | cons v vs ih => intro bs h; cases bs with
    | nil => cases h
    | cons b bs => cases h with | cons h1 h2 => cases h1; rw [ih h2]; rfl
theorem dpall_ints {vs : List V} : ∀ {ns : List Int}, DpAll K B vs (ns.map .int) → vs = ns.map V.int := by
  induction vs with
  | nil => intro bs h; cases bs with
    | nil => rfl
    | cons => cases h
  | cons v vs ih => intro bs h; cases bs with
    | nil => cases h
    | cons b bs => cases h with | cons h1 h2 => cases h1; rw [ih h2]; rfl
theorem dpall_intsI : ∀ {ns : List Int}, DpAll K B (ns.map V.int) (ns.map .int)
  | [] => .nil
  | n :: ns => .cons (.int n) dpall_intsI
theorem cd_all {bs : List Bool} : CD K (rAll K) [.list (bs.map .bool)] (.bool (bs.all id)) := fun B H vs e h Q q => by
  cases h with
  | cons h1 h2 =>
    cases h2
    cases h1 with
    | lst hs ha =>
      have z := dpall_bools ha
      subst z
      exact ⟨_, bs, rfl, e.seq hs, q _ B H (.refl e) (.bl _)⟩
theorem cd_abs {i : Int} : CD K (fun xs H Q => ∃ i, xs = [.int i] ∧ Q (.int (if i < 0 then -i else i)) H) [.int i] (.int (if i < 0 then -i else i)) := fun B H vs e h Q q => by
  cases h with
  | cons h1 h2 => cases h2; cases h1; exact ⟨i, rfl, q _ B H (.refl e) (.int _)⟩
def rInt1 : List V → Hp → VK → Prop := fun xs H Q => (∃ i, xs = [.int i] ∧ Q (.int i) H) ∨ ∃ k, xs = [.bl k] ∧ Q (.int (if k then 1 else 0)) H
theorem call_int1A {X : Cx} : CallR X (.type "int") rInt1 := call_int1
theorem cd_int {i : Int} : CD K rInt1 [.int i] (.int i) := fun B H vs e h Q q => by
  cases h with
  | cons h1 h2 => cases h2; cases h1; exact .inl ⟨i, rfl, q _ B H (.refl e) (.int _)⟩
/-! ### statements -/
variable {Dn : Ends} {t u : TS} {i : Nat}
theorem st_asg (h : DE K te σ B d) (e : Same B H) (k : ∀ v B' H', Gw B H B' H' → Dp K B' v d → Dn.nx (σ.set i (some v)) H') : tAsg te (gName i) Dn σ H := h H e _ fun v B' H' g r => k v B' H' g r
theorem st_ret (h : DE K te σ B d) (e : Same B H) (k : ∀ v B' H', Gw B H B' H' → Dp K B' v d → Dn.rt v H') : tRet te Dn σ H := h H e _ fun v B' H' g r => k v B' H' g r
theorem st_drop (h : DE K te σ B d) (e : Same B H) (k : ∀ B' H', Gw B H B' H' → Dn.nx σ H') : tDrop te Dn σ H := h H e _ fun v B' H' g r => k B' H' g
theorem st_if {b : Bool} (h : DT tt σ B b) (e : Same B H) (k1 : b = true → ∀ B' H', Gw B H B' H' → t Dn σ H') (k2 : b = false → ∀ B' H', Gw B H B' H' → u Dn σ H') : tIfS tt t u Dn σ H := h H e _ fun B' H' g => by
  cases b with
  | true => exact iteT (k1 rfl B' H' g)
  | false => exact iteF (k2 rfl B' H' g)
/-- a for over a list or a tuple of such data -/
theorem st_for {tl : TE} {g : TG} {ds : List D} (h : DE K tl σ B x) (sd : SeqD x ds) (e : Same B H)
    (k : ∀ B1 H1, Gw B H B1 H1 → ∃ P : Nat → L2.St → Hp → Prop, P 0 σ H1 ∧ (∀ i σ' H', P i σ' H' → Same B1 H') ∧
      (∀ i d v σ' H', ds[i]? = some d → Dp K B1 v d → P i σ' H' → g v σ' H' fun σ2 H2 => t { Dn with nx := P (i + 1), ct := P (i + 1), bk := Dn.nx } σ2 H2) ∧
      (∀ σ' H', P ds.length σ' H' → Dn.nx σ' H')) : tFor (iSeq K tl) g t Dn σ H := h H e _ fun v B1 H1 g1 r1 => by
  obtain ⟨P, p0, ps, pt, pd⟩ := k B1 H1 g1
  have go : ∀ {vs : List V}, DpAll K B1 vs ds → ∀ i x σ' H', vs[i]? = some x → P i σ' H' → g x σ' H' fun σ2 H2 => t { Dn with nx := P (i + 1), ct := P (i + 1), bk := Dn.nx } σ2 H2 := fun {vs} ha i x σ' H' hx p => by
    have hi := (List.getElem?_eq_some_iff.mp hx).1
    rw [dpall_len ha] at hi
    obtain ⟨w, e1, e2⟩ := dpall_get ha (List.getElem?_eq_getElem hi)
    rw [hx] at e1
    cases e1
    exact pt i _ _ σ' H' (List.getElem?_eq_getElem hi) e2 p
  cases sd with
  | l ds =>
    cases r1 with
    | lst hs ha => exact ⟨_, _, rfl, .inl ⟨g1.i.seq hs, for_list P p0 (fun i σ' H' _ p => (ps i σ' H' p).seq hs) (fun i x σ' H' hx p => go ha i x σ' H' hx p) (fun σ' H' p => pd σ' H' (by rw [← dpall_len ha]; exact p))⟩⟩
  | t ds =>
    cases r1 with
    | tup hs ha => exact ⟨_, _, rfl, .inr ⟨seqT_up g1.i hs, for_tup P p0 (fun i σ' H' _ p => seqT_up (ps i σ' H' p) hs) (fun i x σ' H' hx p => go ha i x σ' H' hx p) (fun σ' H' p => pd σ' H' (by rw [← dpall_len ha]; exact p))⟩⟩
theorem st_rng1 {tn : TE} {j : Nat} {n : Int} (h : DE K tn σ B (.int n)) (e : Same B H) (hn : -(2 ^ 62) ≤ n ∧ n < 2 ^ 62)
    (k : ∀ B1 H1, Gw B H B1 H1 → ∃ P : Nat → L2.St → Hp → Prop, P 0 σ H1 ∧
      (∀ i σ' H', i < n.toNat → P i σ' H' → t { Dn with nx := P (i + 1), ct := P (i + 1), bk := Dn.nx } (σ'.set j (some (.int (i : Int)))) H') ∧
      (∀ σ' H', P n.toNat σ' H' → Dn.nx σ' H')) : tFor (iRng1 (tCons tn tNil)) (gName j) t Dn σ H := h H e _ fun v B1 H1 g1 r1 => by
  cases r1
  obtain ⟨P, p0, pt, pd⟩ := k B1 H1 g1
  refine ⟨n, rfl, hn.1, hn.2, for_range (lo := 0) (n := n.toNat) P p0 (fun i σ' H' hi p => ?_) pd⟩
  have z : (0 : Int) + (i : Int) = (i : Int) := Int.zero_add _
  rw [z]
  exact pt i σ' H' hi p
/-! ### a list that was just made (or is tracked as such) -/
def DL (K : PySem.W.Frag) (te : TE) (σ : L2.St) (B : Hp) (ds : List D) : Prop := ∀ H, Same B H → ∀ Q : VK, (∀ p vs B' H', Gw B H B' H' → B' p = some (.lst vs) → DpAll K B' vs ds → Q (.ref p) H') → te σ H Q
theorem DL.de {ds : List D} (h : DL K te σ B ds) : DE K te σ B (.list ds) := fun H e Q q => h H e Q fun p vs B' H' g hp ha => q _ B' H' g (.lst (.inl (.inl hp)) ha)
theorem DL.up {ds : List D} (h : DL K te σ B ds) (e : Same B B1) : DL K te σ B1 ds := fun H e1 Q q => h H (e.trans e1) Q fun p vs B' H' g hp ha => by
  obtain ⟨g', k⟩ := g.widen e e1
  exact q p vs _ H' g' (k _ _ hp) (dps_up k _ _ ha)
theorem dl_lst {t : TA} {ds : List D} (h : DA K t σ B ds) (hl : ds.length ≤ 100000) : DL K (tLst t) σ B ds := fun H e Q q =>
  h H e _ fun vs B1 H1 g1 r1 => ⟨Nat.le_trans (by rw [dpall_len r1]; exact hl) (by decide), fun p hp => q _ vs (upd B1 p (.lst vs)) _ (g1.trans (Gw.new g1.i hp)) upd_same (dps_up (Gw.new g1.i hp).b _ _ r1)⟩
theorem dl_var {i : Nat} {p : Addr} {vs : List V} {ds : List D} (h : σ[i]? = some (some (.ref p))) (hp : B p = some (.lst vs)) (ha : DpAll K B vs ds) : DL K (tVar i) σ B ds := fun H e _ q => ⟨_, h, q p vs B H (.refl e) hp ha⟩
theorem dl_cat {ds es : List D} (ha : DL K ta σ B ds) (hb : DL K tb σ B es) (hz : ds.length + es.length ≤ 100000) : DL K (tOp (rAddA K) ta tb) σ B (ds ++ es) := fun H e Q q =>
  ha H e _ fun p vs B1 H1 g1 hp h1 => hb.up g1.b H1 g1.i _ fun p2 ws B2 H2 g2 hp2 h2 => by
    refine .inr (.inr (.inl ⟨p, p2, vs, ws, rfl, rfl, g2.i _ _ (g2.b _ _ hp), g2.i _ _ hp2, Nat.le_trans (by rw [dpall_len h1, dpall_len h2]; exact hz) (by decide), fun l hl => ?_⟩))
    have g3 : Gw B2 H2 (upd B2 l (.lst (vs ++ ws))) (upd H2 l (.lst (vs ++ ws))) := Gw.new g2.i hl
    exact q l _ _ _ ((g1.trans g2).trans g3) upd_same (dps_up g3.b _ _ (dpall_app (dps_up g2.b _ _ h1) h2))
/-! ### comprehensions whose parts are such data -/
theorem take_succ' {α : Type} {l : List α} {i : Nat} {a : α} (h : l[i]? = some a) : l.take (i + 1) = l.take i ++ [a] := by
  rw [List.take_add_one, h]
  rfl
theorem yes_at {A C : Hp → Prop} (h : A H) : tYes σ H (fun b H3 => if b = true then A H3 else C H3) := iteT (A := A H) (B := C H) h
/-- [f(x) for x in ds]: f i is the i-th item's element -/
structure LcW (B1 H1 : Hp) (K : PySem.W.Frag) (Da : Addr) (out : List D) (H' : Hp) : Prop where
  nb : B1 Da = none
  ex : ∃ B' vs, Gm (· = Da) B1 H1 B' H' ∧ B' Da = none ∧ H' Da = some (.lst vs) ∧ DpAll K B' vs out
theorem lcw0 {Da : Addr} (e : Same B1 H) (h : H Da = none) : LcW B1 H K Da [] (upd H Da (.lst [])) :=
  ⟨base_none e h, B1, [], (Gw.own e h).weak (fun _ z => z.elim), base_none e h, upd_same, .nil⟩
theorem lcw_turn {Da : Addr} {out : List D} {H' : Hp} {te : TE} {σ2 : L2.St} {dv : D} {Nx : Hp → Prop} (w : LcW B1 H K Da out H') (hD : H Da = none) (hz : out.length < 100000) (he : DE K te σ2 B1 dv) (k : ∀ H5, LcW B1 H K Da (out ++ [dv]) H5 → Nx H5) :
    te σ2 H' fun y H4 => ∃ acc, H4 Da = some (.lst acc) ∧ acc.length < sizeLine ∧ Nx (upd H4 Da (.lst (acc ++ [y]))) := by
  obtain ⟨B', vs, g, nb, hl, ha⟩ := w.ex
  refine he.up g.b H' g.i _ fun y B2 H2 g2 r2 => ⟨vs, g2.same _ _ hl, Nat.lt_of_lt_of_le (by rw [dpall_len ha]; exact hz) (by decide), k _ ⟨w.nb, B2, vs ++ [y], ?_, ?_, upd_same, dpall_app (dps_up g2.b _ _ ha) (.cons r2 .nil)⟩⟩
  · have n2 : B2 Da = none := g2.f Da nb (by rw [hl]; intro z; cases z)
    refine Gm.trans (B1 := B2) (H1 := H2) (Gm.trans g (g2.weak (fun _ z => z.elim)) ?_) (Gm.mut g2.i n2) ?_
    · intro a z n; exact absurd (z ▸ hD) n
    · intro a z n; exact absurd (z ▸ hD) n
  · exact g2.f Da nb (by rw [hl]; intro z; cases z)
theorem lcw_done {Da : Addr} {out : List D} {H' : Hp} (w : LcW B1 H K Da out H') (hD : H Da = none) : ∃ B' vs, Gw B1 H B' H' ∧ B' Da = some (.lst vs) ∧ DpAll K B' vs out := by
  obtain ⟨B', vs, g, nb, hl, ha⟩ := w.ex
  have k : Same B' (upd B' Da (.lst vs)) := fun a o q => by rw [upd_ne (ne_of_none q nb)]; exact q
  refine ⟨upd B' Da (.lst vs), vs, ⟨g.b.trans k, fun a o q => ?_, fun a o _ q => ?_, fun a q n => ?_⟩, upd_same, dps_up k _ _ ha⟩
  · by_cases z : a = Da
    · subst z; rw [upd_same] at q; cases q; exact hl
    · rw [upd_ne z] at q; exact g.i a o q
  · refine g.r a o (fun z => ?_) q
    subst z; rw [hD] at q; cases q
  · have z : a ≠ Da := fun z => n (z ▸ hD)
    rw [upd_ne z]
    exact g.f a q n
theorem dl_lc {tl : TE} {j : Nat} {ds : List D} {f : D → D} {vs : List Nat} (h : DE K tl σ B x) (sd : SeqD x ds) (hz : ds.length ≤ 90000) (hw : ∀ x, wipe ((wipe σ vs).set j (some x)) vs = wipe σ vs)
    (he : ∀ d v B1, d ∈ ds → Same B B1 → Dp K B1 v d → DE K te ((wipe σ vs).set j (some v)) B1 (f d)) : DL K (tLc (iSeq K tl) (gName j) tYes te vs) σ B (ds.map f) := fun H e Q q => h H e _ fun v B1 H1 g1 r1 => by
  have go : ∀ {us : List V} {Da : Addr}, H1 Da = none → DpAll K B1 us ds → ∀ i x H', us[i]? = some x → LcW B1 H1 K Da ((ds.take i).map f) H' → tYes ((wipe σ vs).set j (some x)) H' fun b H3 => if b = true then te ((wipe σ vs).set j (some x)) H3 fun y H4 => ∃ acc, H4 Da = some (.lst acc) ∧ acc.length < sizeLine ∧ LcW B1 H1 K Da ((ds.take (i + 1)).map f) (upd H4 Da (.lst (acc ++ [y]))) else LcW B1 H1 K Da ((ds.take (i + 1)).map f) H3 := fun {us Da} hD ha i x H' hx w => by
    refine yes_at ?_
    have hi := (List.getElem?_eq_some_iff.mp hx).1
    rw [dpall_len ha] at hi
    have hd := List.getElem?_eq_getElem hi
    obtain ⟨w', e1, e2⟩ := dpall_get ha hd
    rw [hx] at e1
    cases e1
    refine lcw_turn w hD (by rw [List.length_map, List.length_take]; omega) (he _ _ B1 (List.getElem_mem hi) g1.b e2) fun H5 w5 => ?_
    rw [take_succ' hd, List.map_append]
    exact w5
  cases sd with
  | l ds =>
    cases r1 with
    | lst hs ha =>
      rename_i aL xsL
      refine ⟨_, _, rfl, .inl ⟨g1.i.seq hs, fun Da hD => lc_list (xs := xsL) (fun i H' => LcW B1 H1 K Da ((ds.take i).map f) H') (lcw0 g1.i hD) (fun i H' _ w => ?_) (fun i x H' hx w => ⟨hw x, go hD ha i x H' hx w⟩) (fun H' w => ?_)⟩⟩
      · obtain ⟨B', vs', g, _⟩ := w.ex
        exact (g.b.trans g.i).seq hs
      · rw [dpall_len ha, List.take_length] at w
        obtain ⟨B', us, g, hp, r⟩ := lcw_done w hD
        exact q _ us B' H' (g1.trans g) hp r
  | t ds =>
    cases r1 with
    | tup hs ha =>
      rename_i aL xsL
      refine ⟨_, _, rfl, .inr ⟨seqT_up g1.i hs, fun Da hD => lc_tup (xs := xsL) (fun i H' => LcW B1 H1 K Da ((ds.take i).map f) H') (lcw0 g1.i hD) (fun i H' _ w => ?_) (fun i x H' hx w => ⟨hw x, go hD ha i x H' hx w⟩) (fun H' w => ?_)⟩⟩
      · obtain ⟨B', vs', g, _⟩ := w.ex
        exact seqT_up (g.b.trans g.i) hs
      · rw [dpall_len ha, List.take_length] at w
        obtain ⟨B', us, g, hp, r⟩ := lcw_done w hD
        exact q _ us B' H' (g1.trans g) hp r
theorem dl_lcR {tn : TE} {j : Nat} {n : Int} {f : Nat → D} {vs : List Nat} (h : DE K tn σ B (.int n)) (hz : -1000 ≤ n ∧ n ≤ 90000) (hw : ∀ x, wipe ((wipe σ vs).set j (some x)) vs = wipe σ vs)
    (he : ∀ (i : Nat) B1, i < n.toNat → Same B B1 → DE K te ((wipe σ vs).set j (some (.int (i : Int)))) B1 (f i)) : DL K (tLc (iRng1 (tCons tn tNil)) (gName j) tYes te vs) σ B ((List.range n.toNat).map f) := fun H e Q q => h H e _ fun v B1 H1 g1 r1 => by
  cases r1
  refine ⟨n, rfl, by omega, by omega, fun Da hD => lc_range (lo := 0) (n := n.toNat) (fun i H' => LcW B1 H1 K Da ((List.range i).map f) H') (lcw0 g1.i hD) (fun i H' hi w => ?_) (fun H' w => ?_)⟩
  · have z : (0 : Int) + (i : Int) = (i : Int) := Int.zero_add _
    rw [z]
    refine ⟨hw _, yes_at ?_⟩
    refine lcw_turn w hD (by rw [List.length_map, List.length_range]; omega) (he i B1 hi g1.b) fun H5 w5 => ?_
    rw [List.range_succ, List.map_append]
    exact w5
  · obtain ⟨B', us, g, hp, r⟩ := lcw_done w hD
    exact q _ us B' H' (g1.trans g) hp r
theorem dl_lcS {tl : TE} {j : Nat} {z : Str} {f : Nat → D} {vs : List Nat} (h : DE K tl σ B (.str z)) (hz : z.length ≤ 90000) (hw : ∀ x, wipe ((wipe σ vs).set j (some x)) vs = wipe σ vs)
    (he : ∀ (c : Nat) B1, c ∈ z.cps.toList → Same B B1 → DE K te ((wipe σ vs).set j (some (.str ⟨#[c]⟩))) B1 (f c)) : DL K (tLc (iStr tl) (gName j) tYes te vs) σ B (z.cps.toList.map f) := fun H e Q q => h H e _ fun v B1 H1 g1 r1 => by
  cases r1
  have hsz : z.cps.toList.length = z.cps.size := by simp
  have hzz : z.cps.size ≤ 90000 := hz
  refine ⟨z, rfl, fun Da hD => ?_⟩
  refine ⟨fun i m H' => m = z.cps.size - i ∧ i ≤ z.cps.size ∧ LcW B1 H1 K Da ((z.cps.toList.take i).map f) H', ⟨z.cps.size, rfl, Nat.zero_le _, lcw0 g1.i hD⟩, ?_⟩
  rintro i m H' ⟨rfl, hi, w⟩
  by_cases hlt : i < z.cps.size
  · refine .inr ⟨hlt, fun H5 => LcW B1 H1 K Da ((z.cps.toList.take (i + 1)).map f) H5, fun H5 w5 => ⟨z.cps.size - (i + 1), by omega, rfl, hlt, w5⟩, fun x H5 y => ?_⟩
    obtain ⟨rfl, c, hc, rfl⟩ := y
    have hd : z.cps.toList[i]? = some c := by simpa using hc
    refine ⟨hw _, yes_at ?_⟩
    refine lcw_turn w hD (by rw [List.length_map, List.length_take]; omega) (he c B1 (List.mem_of_getElem? hd) g1.b) fun H5 w5 => ?_
    rw [take_succ' hd, List.map_append]
    exact w5
  · have : i = z.cps.size := by omega
    subst this
    rw [← hsz, List.take_length] at w
    obtain ⟨B', us, g, hp, r⟩ := lcw_done w hD
    exact .inl ⟨Nat.le_refl _, q _ us B' H' (g1.trans g) hp r⟩
end
end Co
namespace Co
open PySem PySem.Spec PyProof.Rows L2
/-! ### a list or a tuple, by k -/
def SqB (K : PySem.W.Frag) (k : Bool) (H : Hp) (a : Addr) (xs : List V) : Prop := if k = true then SqL K H a xs else SqT K H a xs
def ItB (k : Bool) (h : Heap) (i a : Addr) (n : Nat) : Prop := if k = true then h.IsListIter i a n else h.IsTupleIter i a n
def HsB (k : Bool) (h : Heap) (a : Addr) (items : Array Value) : Prop := if k = true then h.IsList a items else h.IsTuple a items
theorem SqB.up {K : PySem.W.Frag} {k : Bool} {H H' : Hp} {a : Addr} {xs : List V} (e : Same H H') (h : SqB K k H a xs) : SqB K k H' a xs := by
  cases k with
  | true => exact e.seq h
  | false => exact seqT_up e h
theorem drawsB {prog : Program} {w : World} {A : Around} (hh : A.handled = none) (k : Bool) (it a : Addr) (hne : a ≠ it) (items : Array Value) :
    Draws prog w A it [it, a] items.size (fun i v => items[i]? = some v) (fun i h => ItB k h it a i ∧ HsB k h a items) := by
  cases k with
  | true => exact Draws.list hh it a hne items
  | false => exact Draws.tuple hh it a hne items
theorem ItB.at {k : Bool} {h h' : Heap} {i a : Addr} {n : Nat} (x : ItB k h i a n) (e : ∀ o, h.get? i = some o → h'.get? i = some o) : ItB k h' i a n := by
  cases k with
  | true =>
    have y : h.IsListIter i a n := x
    exact (y.at e : h'.IsListIter i a n)
  | false =>
    have y : h.IsTupleIter i a n := x
    exact (y.at e : h'.IsTupleIter i a n)
theorem ItB.obj {k : Bool} {h : Heap} {i a : Addr} {n : Nat} (x : ItB k h i a n) : ∃ o, h.get? i = some o ∧ ∀ v, o.data ≠ .cell v := by
  cases k with
  | true =>
    obtain ⟨o, e, _, d⟩ := (x : h.IsListIter i a n)
    exact ⟨o, e, fun v q => by rw [d] at q; cases q⟩
  | false =>
    obtain ⟨o, e, _, d⟩ := (x : h.IsTupleIter i a n)
    exact ⟨o, e, fun v q => by rw [d] at q; cases q⟩
section
variable {X : Cx} {pins : List (Addr × Obj)} {σ : L2.St} {H : Hp} {s : Shared}
theorem seqB (I : Inv X pins σ H s) {k : Bool} {a : Addr} {xs : List V} (h : SqB X.K k H a xs) : ∃ its : List Value, Vals xs its ∧ HsB k s.heap a its.toArray ∧ a < s.heap.objs.size := by
  cases k with
  | true =>
    obtain ⟨its, rv, p, _⟩ := I.list h
    exact ⟨its, rv, p.isList, p.lt⟩
  | false =>
    obtain ⟨its, rv, p, _⟩ := I.tuple h
    obtain ⟨o, ho, _⟩ := id p
    exact ⟨its, rv, (show s.heap.IsTuple a its.toArray from p), Heap.lt_size ho⟩
theorem seqB_inj (I : Inv X pins σ H s) {k : Bool} {a : Addr} {xs ys : List V} (h : SqB X.K k H a xs) (h' : SqB X.K k H a ys) : xs = ys := by
  cases k with
  | true => exact I.list_inj h h'
  | false => exact I.tuple_inj h h'
end
/-- zip of two such: the items in new pairs -/
def ItzG (K : PySem.W.Frag) (k m : Bool) (a b : Addr) : It :=
  ⟨fun i H => ∃ (xs ys : List V) (x y : V), SqB K k H a xs ∧ SqB K m H b ys ∧ xs[i]? = some x ∧ ys[i]? = some y,
    fun i H v H' => ∃ T x y, v = .ref T ∧ H T = none ∧ H' = upd H T (.tup [x, y]) ∧ (∀ xs, SqB K k H a xs → xs[i]? = some x) ∧ ∀ ys, SqB K m H b ys → ys[i]? = some y,
    fun i H => ∃ xs ys : List V, SqB K k H a xs ∧ SqB K m H b ys ∧ i ≤ xs.length ∧ i ≤ ys.length ∧ (xs.length = i ∨ ys.length = i)⟩
structure Apart5 (z TI TO i1 i2 a b : Addr) : Prop where
  S : ZipSep2 z TI TO i1 i2 [i1, a] [i2, b]
  a1 : a ≠ i1
  b2 : b ≠ i2
  i1z : i1 ≠ z
  i2z : i2 ≠ z
theorem turn_zipG {P : Program} {w : World} {K : PySem.W.Frag} {elts : List Expr} {kk : Nat} {tpos : Pos} {a b z TI TO i1 i2 : Addr} {k m : Bool} (D : Apart5 z TI TO i1 i2 a b) :
    Turn P w K (.Tuple elts kk tpos) (ItzG K k m a b) [z, TI, TO, i1, i2] z
      (fun i h => IsZip h z TI TO .none ∧ IsTupOf2 h TI (.ref i1) (.ref i2) ∧ (∃ x y, IsTupOf2 h TO x y) ∧ ItB k h i1 a i ∧ ItB m h i2 b i) where
  mem := List.mem_cons_self ..
  obj := fun i h st c hc => by
    obtain ⟨hz, hTI, ⟨x, y, hTO⟩, h1, h2⟩ := st
    simp only [List.mem_cons, List.not_mem_nil, or_false] at hc
    rcases hc with q | q | q | q | q
    · subst q; exact ⟨_, hz, fun v q => by cases q⟩
    · subst q; exact ⟨_, hTI, fun v q => by cases q⟩
    · subst q; exact ⟨_, hTO, fun v q => by cases q⟩
    · subst q; exact h1.obj
    · subst q; exact h2.obj
  keep := fun i h h' st e => by
    obtain ⟨hz, hTI, ⟨x, y, hTO⟩, h1, h2⟩ := st
    exact ⟨e z (by simp) _ hz, e TI (by simp) _ hTI, ⟨x, y, e TO (by simp) _ hTO⟩, h1.at (e i1 (by simp)), h2.at (e i2 (by simp))⟩
  item := by
    intro X hP hw hK hc i pins s σ H E I hf st hg
    subst hP hw hK
    obtain ⟨hz, hTI, ⟨x0, y0, hTO⟩, h1, h2⟩ := st
    obtain ⟨xs, ys, x, y, hqx, hqy, hx, hy⟩ := hg
    obtain ⟨its, rv, p, _⟩ := seqB I hqx
    obtain ⟨its2, rv2, p2, _⟩ := seqB I hqy
    obtain ⟨u, hu, ru⟩ := rv.get hx
    obtain ⟨u2, hu2, ru2⟩ := rv2.get hy
    have hh : X.A.in1.handled = none := I.ok.hd hc
    have l1 : i < its.toArray.size := by rw [List.size_toArray]; exact (List.getElem?_eq_some_iff.mp hu).1
    have l2 : i < its2.toArray.size := by rw [List.size_toArray]; exact (List.getElem?_eq_some_iff.mp hu2).1
    have hzl := Heap.lt_size hz
    refine wpAny_pyNext_zipD2_item D.S (drawsB hh k i1 a D.a1 its.toArray) (drawsB hh m i2 b D.b2 its2.toArray) hz hTI hTO ⟨h1, p⟩ ⟨h2, p2⟩ l1 l2 fun v1 v2 h' tk e1 e2 z' TO' d1 d2 hT hsz hk => ?_
    have q1 : v1 = u := by
      have e1' : its[i]? = some v1 := by simpa using e1
      rw [hu] at e1'; exact (Option.some.inj e1').symm
    have q2 : v2 = u2 := by
      have e2' : its2[i]? = some v2 := by simpa using e2
      rw [hu2] at e2'; exact (Option.some.inj e2').symm
    subst q1 q2
    refine ⟨_, rfl, wpAny_letOwnedTupleGo_zip (s := { s with heap := h', toks := tk }) z' fun h'' z'' sb => ?_⟩
    have keep : ∀ c o, c ≠ z → c ≠ TO → c ≠ i1 → c ≠ i2 → s.heap.get? c = some o → h''.get? c = some o := fun c o n1 n2 n3 n4 q => (sb.2 c n1).trans (hk c o n1 n2 n3 n4 q)
    have hT2 : h''.get? s.heap.objs.size = some { cls := .type "tuple", data := .seq #[v1, v2] } := (sb.2 _ (Nat.ne_of_gt hzl)).trans hT
    have new : ObjOk X.prog X.w (upd H s.heap.objs.size (.tup [x, y])) h'' s.heap.objs.size (.tup [x, y]) :=
      ⟨(by show 2 ≤ sizeLine; decide), [v1, v2], .cons ru (.cons ru2 .nil), ⟨_, hT2, rfl, _, rfl⟩⟩
    have I1 : Inv X pins σ (upd H s.heap.objs.size (.tup [x, y])) { s with heap := h'', toks := tk } :=
      I.turnedNew (t' := tk) (ch := [z, TI, TO, i1, i2]) (fun c o hb q => keep c o (fun e => hb (by simp [e])) (fun e => hb (by simp [e])) (fun e => hb (by simp [e])) (fun e => hb (by simp [e])) q) hf (Nat.le_refl _) new
    refine ⟨.ref s.heap.objs.size, _, I1, rfl, ⟨_, x, y, rfl, I.hok.fresh (Nat.le_refl _), rfl, fun l hl => by rw [seqB_inj I hl hqx]; exact hx, fun l hl => by rw [seqB_inj I hl hqy]; exact hy⟩, ⟨z'', ?_, ⟨v1, v2, ?_⟩, ?_, ?_⟩, fun c hcm => ?_⟩
    · exact keep _ _ D.S.TIz D.S.TITO D.S.TIi1 D.S.TIi2 hTI
    · exact (sb.2 _ D.S.TOz).trans TO'
    · exact d1.1.at fun o q => (sb.2 _ D.i1z).trans q
    · exact d2.1.at fun o q => (sb.2 _ D.i2z).trans q
    · have hlt : c < s.heap.objs.size := by
        simp only [List.mem_cons, List.not_mem_nil, or_false] at hcm
        rcases hcm with q | q | q | q | q
        · rw [q]; exact hzl
        · rw [q]; exact Heap.lt_size hTI
        · rw [q]; exact Heap.lt_size hTO
        · rw [q]; obtain ⟨_, e, _⟩ := h1.obj; exact Heap.lt_size e
        · rw [q]; obtain ⟨_, e, _⟩ := h2.obj; exact Heap.lt_size e
      rw [upd_ne (Nat.ne_of_lt hlt)]
      exact (hf c hcm).1
  done := by
    intro X hP hw hK hc i pins s σ H E I hf st hg
    subst hP hw hK
    obtain ⟨hz, hTI, ⟨x0, y0, hTO⟩, h1, h2⟩ := st
    obtain ⟨xs, ys, hqx, hqy, le1, le2, hend⟩ := hg
    obtain ⟨its, rv, p, _⟩ := seqB I hqx
    obtain ⟨its2, rv2, p2, _⟩ := seqB I hqy
    have l1 := rv.length
    have l2 := rv2.length
    have hh : X.A.in1.handled = none := I.ok.hd hc
    refine wpAny_pyNext_zipD2_end D.S (drawsB hh k i1 a D.a1 its.toArray) (drawsB hh m i2 b D.b2 its2.toArray) hz hTI hTO ⟨h1, p⟩ ⟨h2, p2⟩ (by rw [List.size_toArray]; omega) (by rw [List.size_toArray]; omega) (by rw [List.size_toArray, List.size_toArray]; omega) fun h' tk hk => ⟨rfl, ?_⟩
    exact I.turnedL (t' := tk) (ch := [z, TI, TO, i1, i2]) (fun c o hb q => hk c o (fun e => hb (by simp [e])) (fun e => hb (by simp [e])) (fun e => hb (by simp [e])) (fun e => hb (by simp [e])) q) hf
  self := fun A i s Q E st h => wpAny_pyIter_zip st.1 h
theorem begB {k : Bool} {a : Addr} (items : Array Value) : ∃ o : Obj, Begins (.ref a) o (fun h => HsB k h a items) ∧ ∀ (h : Heap) (i : Addr), h.get? i = some o → ItB k h i a 0 := by
  cases k with
  | true => exact ⟨_, begins_list a items, fun h i e => (⟨_, e, rfl, rfl⟩ : h.IsListIter i a 0)⟩
  | false => exact ⟨_, begins_tuple a items, fun h i e => (⟨_, e, rfl, rfl⟩ : h.IsTupleIter i a 0)⟩
theorem apart_new {N a b : Nat} (ha : a < N) (hb : b < N) : Apart5 (N + 4) (N + 2) (N + 3) N (N + 1) a b where
  S := zip_sep2 (N := N) (fp1 := [a]) (fp2 := [b]) (by intro c h; simp at h; subst h; exact ha) (by intro c h; simp at h; subst h; exact hb)
  a1 := Nat.ne_of_lt ha
  b2 := (show b ≠ N + 1 by omega)
  i1z := (show N ≠ N + 4 by omega)
  i2z := (show N + 1 ≠ N + 4 by omega)
def iZipG (K : PySem.W.Frag) (ta : TA) : TI := fun σ H R => ta σ H fun vs H1 => ∃ a b xs ys k m, vs = [.ref a, .ref b] ∧ SqB K k H1 a xs ∧ SqB K m H1 b ys ∧ R (ItzG K k m a b) H1
theorem pi_zipX {X : Cx} {e e2 : Expr} {ta : TA} {p pos tpos : Pos} {elts : List Expr} {kk : Nat} (hg : Gl X "zip") (hm : X.mg "zip" = none) (ha : PA X [e, e2] ta)
    (hs : starEach [e, e2] X.env = (false, eval e X.env) :: starEach [e2] X.env := by rfl) (hpl : (backTo pos (starEach [e2] X.env)).any (·.1) = false := by rfl) :
    PI X (.Tuple elts kk tpos) (.Call (.Name "zip" p) [e, e2] [] pos) (iZipG X.K ta) := by
  refine ⟨fun pins s σ H R I h => ?_⟩
  refine Call_ (ld_blt I hg hm boot_zip (callWith_type1 (thn (ha.run pos pins s σ H _ I h) fun us s1 ⟨vs, H1, I1, r1, a, b, xs, ys, k, m, ev, hqx, hqy, q⟩ => ?_) hs hpl))
  subst ev
  cases r1 with
  | cons r rr =>
    cases rr with
    | cons r' rr =>
      cases rr; cases r; cases r'
      obtain ⟨its, rv, p1, lt1⟩ := seqB I1 hqx
      obtain ⟨its2, rv2, p2, lt2⟩ := seqB I1 hqy
      obtain ⟨o1, B1, j1⟩ := begB (k := k) (a := a) its.toArray
      obtain ⟨o2, B2, j2⟩ := begB (k := m) (a := b) its2.toArray
      refine zip_begins2 B1 B2 p1 p2 fun h' hz hTI hTO h1 h2 hsz hk => wpAny_pyIter_zip hz ?_
      refine ⟨s1.heap.objs.size + 4, [s1.heap.objs.size + 4, s1.heap.objs.size + 2, s1.heap.objs.size + 3, s1.heap.objs.size, s1.heap.objs.size + 1], _, ItzG X.K k m a b, H1, rfl, I1.kept (t' := s1.toks) hk, turn_zipG (apart_new lt1 lt2), ⟨hz, hTI, ⟨_, _, hTO⟩, j1 _ _ h1, j2 _ _ h2⟩, fun c hcm => ?_, q⟩
      have hle : s1.heap.objs.size ≤ c := by
        simp only [List.mem_cons, List.not_mem_nil, or_false] at hcm
        rcases hcm with z | z | z | z | z
        · rw [z]; exact Nat.le_add_right _ _
        · rw [z]; exact Nat.le_add_right _ _
        · rw [z]; exact Nat.le_add_right _ _
        · rw [z]; exact Nat.le_refl _
        · rw [z]; exact Nat.le_add_right _ _
      exact I1.fpOk hle (I1.hok.fresh hle)
end Co
namespace Co
open PySem PySem.Spec PyProof.Rows L2
/-! ### zip whose pair may still be out -/
abbrev ZipR (h : Heap) (z TI TO : Addr) (o : Value) (f : Bool) : Prop :=
  h.get? z = some { cls := .type "zip", dict := none, data := .fields #[o, .bool f, .bool false, .ref TI, .ref TO], slots := #[] }
def OwnT (o : Value) : Prop := o = .none ∨ ∃ T : Addr, o = rawInt T
section
variable {prog : Program} {w : World} {A : Around} {E : Value → Shared → Prop} {s : Shared} {z TI TO i1 i2 : Addr} {fp1 fp2 : List Addr} {n1 n2 i : Nat} {P1 P2 : Nat → Value → Prop} {St1 St2 : Nat → Heap → Prop} {a1 a2 o : Value} {f : Bool}
theorem gone_load {b : Addr} {Q : Option Obj → Shared → Prop} (hb : s.heap.get? b = none) (h : Q none s) : wpAny (model prog w) A (loadIfAlive b) Q E s := by
  have k : Q (s.heap.get? b) s := by rw [hb]; exact h
  exact fun _ _ _ => k
theorem here_load {b : Addr} {ob : Obj} {Q : Option Obj → Shared → Prop} (hb : s.heap.get? b = some ob) (h : Q (some ob) s) : wpAny (model prog w) A (loadIfAlive b) Q E s := by
  have k : Q (s.heap.get? b) s := by rw [hb]; exact h
  exact fun _ _ _ => k
theorem freeZ {Q : Bool → Shared → Prop} (ho : OwnT o) (hz : ZipR s.heap z TI TO o f) (k1 : Q true s)
    (k2 : ∀ h', (∃ (T : Addr) (f' : Bool), ZipR h' z TI TO (rawInt T) f') → Heap.SameBut z s.heap h' → Q false { s with heap := h' }) : wpAny (model prog w) A (Builtin.SmallTypes.ownedTupleIsFree (.ref z)) Q E s := by
  (unfold Builtin.SmallTypes.ownedTupleIsFree; skip)
  rcases ho with rfl | ⟨q, rfl⟩
  · exact wpAny_bind (wpAny_field hz rfl (x := .none) rfl (wpAny_pure k1))
  · refine wpAny_bind (wpAny_field hz rfl (x := rawInt q) rfl ?_)
    show wpAny _ _ (loadIfAlive ((q : Int).toNat) >>= _) _ _ _
    rw [Int.toNat_natCast]
    cases hq : s.heap.get? q with
    | none =>
      refine wpAny_bind (gone_load hq ?_)
      simp only [Option.isNone_none, if_true]
      exact wpAny_pure k1
    | some oq =>
      refine wpAny_bind (here_load hq ?_)
      simp only [Option.isNone_some, Bool.false_eq_true, ite_false]
      refine wpAny_bind (wpAny_field hz rfl (x := .bool f) rfl (?_ : wpAny _ _ _ _ _ _))
      cases f with
      | true =>
        rw [if_neg (show ¬ ((Value.bool true != Value.bool true) = true) by exact Bool.false_ne_true)]
        exact wpAny_pure (k2 s.heap ⟨q, true, hz⟩ (Heap.SameBut.refl _ _))
      | false =>
        rw [if_pos (show (Value.bool false != Value.bool true) = true by rfl)]
        exact wpAny_bind (wpAny_setField_rec hz (by simp) fun h1 hz1 sb => wpAny_pure (k2 h1 ⟨q, true, hz1⟩ sb))
theorem zipR_next {Q : Value → Shared → Prop} (S : ZipSep2 z TI TO i1 i2 fp1 fp2) (D1 : Draws prog w A i1 fp1 n1 P1 St1) (D2 : Draws prog w A i2 fp2 n2 P2 St2) (ho : OwnT o)
    (hz : ZipR s.heap z TI TO o f) (hTI : IsTupOf2 s.heap TI (.ref i1) (.ref i2)) (hTO : IsTupOf2 s.heap TO a1 a2) (st1 : St1 i s.heap) (st2 : St2 i s.heap) (le1 : i ≤ n1) (le2 : i ≤ n2)
    (hQ : i < n1 → i < n2 → ∀ x1 x2 h' tk, P1 i x1 → P2 i x2 → (∃ (T : Addr) (f' : Bool), ZipR h' z TI TO (rawInt T) f') → (∃ b1 b2, IsTupOf2 h' TO b1 b2) → St1 (i + 1) h' → St2 (i + 1) h' → IsTupOf2 h' s.heap.objs.size x1 x2 →
      h'.objs.size = s.heap.objs.size + 1 → (∀ c o, c ≠ z → c ≠ TO → c ≠ i1 → c ≠ i2 → s.heap.get? c = some o → h'.get? c = some o) → Q (.ref s.heap.objs.size) { s with heap := h', toks := tk })
    (hE : (i = n1 ∨ i = n2) → ∀ h' tk e, (∀ c o, c ≠ z → c ≠ TO → c ≠ i1 → c ≠ i2 → s.heap.get? c = some o → h'.get? c = some o) → (∃ o, h'.get? e = some o ∧ o.cls = .type "StopIteration") → E (.ref e) { s with heap := h', toks := tk }) :
    wpAny (model prog w) A (Builtin.«zip.__next__» ⟨[.ref z], []⟩) (fun fin s' => ∃ v, fin = .done (.ret v) ∧ Q v s') E s := by
  obtain ⟨hp, gs, dr, tk0, oss⟩ := s
  (show wpAny _ _ (field (.ref z) 2 >>= _) _ _ _; skip)
  refine wpAny_bind (wpAny_field hz rfl (x := .bool false) rfl (?_ : wpAny _ _ _ _ _ _))
  (show wpAny _ _ (field (.ref z) 3 >>= _) _ _ _; skip)
  refine wpAny_bind (wpAny_field hz rfl (x := .ref TI) rfl (?_ : wpAny _ _ _ _ _ _))
  refine wpAny_bind (wpAny_seqItems hTI rfl (?_ : wpAny _ _ _ _ _ _))
  (show wpAny _ _ (Builtin.SmallTypes.ownedTupleIsFree (.ref z) >>= _) _ _ _; skip)
  refine wpAny_bind (freeZ ho hz ?_ ?_)
  · -- the pair is free
    simp only [if_true]
    refine wpAny_bind (wpAny_rule (?_ : wpAny _ _ _ _ _ _))
    refine wpAny_bind (wpAny_field hz rfl (x := .ref TO) rfl (?_ : wpAny _ _ _ _ _ _))
    refine wpAny_bind (wpAny_setField_rec hz (by simp) fun u0 hz0 hs0 => (?_ : wpAny _ _ _ _ _ _))
    replace hz0 : ZipR u0 z TI TO .ellipsis f := hz0
    replace hs0 : Heap.SameBut z hp u0 := hs0
    refine wpAny_bind ?_
    simp only [List.zipIdx_cons, List.zipIdx_nil, List.forIn_nil, List.forIn_cons]
    refine wpAny_bind (wpAny_bind (wpAny_onRaise (?_ : wpAny _ _ _ _ _ _)))
    show wpAny _ _ (Builtin.SmallTypes.nextOf (.ref i1) >>= _) _ _ ⟨u0, gs, dr, tk0, oss⟩
    by_cases lt1 : i < n1
    · refine wpAny_bind (D1.item i _ _ _ lt1 (D1.over st1 hs0 S.zf1) fun x1 v1 tk1 hx1 sn1 hv1 => wpAny_pure (?_ : wpAny _ _ _ _ _ _))
      replace hv1 : Heap.SameBut i1 u0 v1 := hv1
      have hU1 : IsTupOf2 v1 TO a1 a2 := hv1.extBut _ _ S.Ti1 (hs0.extBut _ _ S.TOz hTO)
      refine wpAny_bind (wpAny_seqItems (s := ⟨v1, gs, dr, tk1, oss⟩) hU1 rfl ?_)
      refine wpAny_bind (updateSeq_IsTupOf2 (s := ⟨v1, gs, dr, tk1, oss⟩) hU1 fun u1 hT1 hs1 => ?_)
      replace hT1 : IsTupOf2 u1 TO x1 a2 := hT1
      replace hs1 : Heap.SameBut TO v1 u1 := hs1
      refine wpAny_bind (wpAny_letGo (wpAny_pure (?_ : wpAny _ _ _ _ _ _)))
      refine wpAny_bind (wpAny_bind (wpAny_onRaise (?_ : wpAny _ _ _ _ _ _)))
      show wpAny _ _ (Builtin.SmallTypes.nextOf (.ref i2) >>= _) _ _ ⟨u1, gs, dr, tk1, oss⟩
      by_cases lt2 : i < n2
      · refine wpAny_bind (D2.item i _ _ _ lt2 (D2.over (D2.over (D2.over st2 hs0 S.zf2) hv1 S.sep1_2) hs1 S.Tf2) fun x2 v2 tk2 hx2 sn2 hv2 => wpAny_pure (?_ : wpAny _ _ _ _ _ _))
        replace hv2 : Heap.SameBut i2 u1 v2 := hv2
        have hU2 : IsTupOf2 v2 TO x1 a2 := hv2.extBut _ _ S.Ti2 hT1
        refine wpAny_bind (wpAny_seqItems (s := ⟨v2, gs, dr, tk2, oss⟩) hU2 rfl ?_)
        refine wpAny_bind (updateSeq_IsTupOf2 (s := ⟨v2, gs, dr, tk2, oss⟩) hU2 fun u2 hT2 hs2 => ?_)
        replace hT2 : IsTupOf2 u2 TO x1 x2 := hT2
        replace hs2 : Heap.SameBut TO v2 u2 := hs2
        refine wpAny_bind (wpAny_letGo (wpAny_pure (wpAny_pure (?_ : wpAny _ _ _ _ _ _))))
        refine wpAny_bind (wpAny_seqItems (s := ⟨u2, gs, dr, tk2, oss⟩) hT2 rfl ?_)
        refine wpAny_bind (wpAny_newTuple (?_ : wpAny _ _ _ _ _ _))
        have esz : u2.objs.size = hp.objs.size := by rw [hs2.1, hv2.1, hs1.1, hv1.1, hs0.1]
        have hzz : ZipR u2 z TI TO .ellipsis f := (hs2.extBut _ _ S.TOz.symm (hv2.extBut _ _ S.zi2 (hs1.extBut _ _ S.TOz.symm (hv1.extBut _ _ S.zi1 hz0))))
        have kk : ∀ c o, c ≠ z → c ≠ TO → c ≠ i1 → c ≠ i2 → hp.get? c = some o → u2.get? c = some o := fun c o cz cT c1 c2 e =>
          hs2.extBut _ _ cT (hv2.extBut _ _ c2 (hs1.extBut _ _ cT (hv1.extBut _ _ c1 (hs0.extBut _ _ cz e))))
        have j1 : St1 (i + 1) u2 := D1.over (D1.over (D1.over sn1 hs1 S.Tf1) hv2 S.sep2_1) hs2 S.Tf1
        have j2 : St2 (i + 1) u2 := D2.over sn2 hs2 S.Tf2
        have zlt : z < u2.objs.size := Heap.lt_size hzz
        show wpAny _ _ (Builtin.SmallTypes.ownedTupleHandOut (.ref z) (.ref u2.objs.size) >>= _) _ _ ⟨u2.push { cls := .type "tuple", data := .seq #[x1, x2] }, gs, dr, tk2, oss⟩
        refine wpAny_bind ?_
        (unfold Builtin.SmallTypes.ownedTupleHandOut; skip)
        have hz6 : ZipR (u2.push { cls := .type "tuple", data := .seq #[x1, x2] }) z TI TO .ellipsis f := Heap.get?_push_of_some _ hzz
        refine wpAny_bind (wpAny_setField_rec hz6 (by simp) fun w7 hz7 hs7 => ?_)
        replace hz7 : ZipR w7 z TI TO (rawInt u2.objs.size) f := hz7
        refine wpAny_setField_rec hz7 (by simp) fun w8 hz8 hs8 => ?_
        replace hz8 : ZipR w8 z TI TO (rawInt u2.objs.size) false := hz8
        replace hs7 : Heap.SameBut z (u2.push { cls := .type "tuple", data := .seq #[x1, x2] }) w7 := hs7
        replace hs8 : Heap.SameBut z w7 w8 := hs8
        have up : ∀ c o, c ≠ z → u2.get? c = some o → w8.get? c = some o := fun c o c1 e => hs8.extBut _ _ c1 (hs7.extBut _ _ c1 (Heap.get?_push_of_some _ e))
        have hT8 : IsTupOf2 w8 u2.objs.size x1 x2 := hs8.extBut _ _ (Nat.ne_of_gt zlt) (hs7.extBut _ _ (Nat.ne_of_gt zlt) (Heap.get?_push_size _ rfl))
        have sz8 : w8.objs.size = u2.objs.size + 1 := by rw [hs8.1, hs7.1, Heap.size_push]
        refine wpAny_pure ⟨_, rfl, ?_⟩
        show Q (.ref u2.objs.size) ⟨w8, gs, dr, tk2, oss⟩
        rw [esz] at hz8 hT8 sz8 ⊢
        exact hQ lt1 lt2 x1 x2 w8 tk2 hx1 hx2 ⟨_, _, hz8⟩ ⟨_, _, up _ _ S.TOz hT2⟩ (D1.frame _ _ _ j1 fun b hb o e => up b o (fun q => S.zf1 (q ▸ hb)) e) (D2.frame _ _ _ j2 fun b hb o e => up b o (fun q => S.zf2 (q ▸ hb)) e) hT8 sz8 fun c o cz cT c1 c2 e => up c o cz (kk c o cz cT c1 c2 e)
      · have ei : i = n2 := by omega
        refine wpAny_bind (D2.done ⟨u1, gs, dr, tk1, oss⟩ _ _ (by rw [← ei]; exact (D2.over (D2.over (D2.over st2 hs0 S.zf2) hv1 S.sep1_2) hs1 S.Tf2)) fun q e hq he => ?_)
        replace hq : Heap.ExtBut i2 u1 q := hq
        obtain ⟨oe, e1, e2⟩ := he
        replace e1 : q.get? e = some oe := e1
        have hzq : ZipR q z TI TO .ellipsis f := hq _ _ S.zi2 (hs1.extBut _ _ S.TOz.symm (hv1.extBut _ _ S.zi1 hz0))
        have ez : e ≠ z := fun x => by subst x; rw [hzq] at e1; cases e1; simp at e2
        refine wpAny_setField_rec (s := ⟨q, gs, dr, tk1, oss⟩) hzq (by simp) fun q' _ sb => ?_
        replace sb : Heap.SameBut z q q' := sb
        exact hE (.inr ei) q' tk1 e (fun c o cz cT c1 c2 x => sb.extBut _ _ cz (hq _ _ c2 (hs1.extBut _ _ cT (hv1.extBut _ _ c1 (hs0.extBut _ _ cz x))))) ⟨oe, sb.extBut _ _ ez e1, e2⟩
    · have ei : i = n1 := by omega
      refine wpAny_bind (D1.done ⟨u0, gs, dr, tk0, oss⟩ _ _ (by rw [← ei]; exact (D1.over st1 hs0 S.zf1)) fun q e hq he => ?_)
      replace hq : Heap.ExtBut i1 u0 q := hq
      obtain ⟨oe, e1, e2⟩ := he
      replace e1 : q.get? e = some oe := e1
      have hzq : ZipR q z TI TO .ellipsis f := hq _ _ S.zi1 hz0
      have ez : e ≠ z := fun x => by subst x; rw [hzq] at e1; cases e1; simp at e2
      refine wpAny_setField_rec (s := ⟨q, gs, dr, tk0, oss⟩) hzq (by simp) fun q' _ sb => ?_
      replace sb : Heap.SameBut z q q' := sb
      exact hE (.inl ei) q' tk0 e (fun c o cz cT c1 c2 x => sb.extBut _ _ cz (hq _ _ c1 (hs0.extBut _ _ cz x))) ⟨oe, sb.extBut _ _ ez e1, e2⟩
  · -- the pair is out
    intro u0 ⟨q, f', hz0⟩ hs0
    replace hs0 : Heap.SameBut z hp u0 := hs0
    simp only [Bool.false_eq_true, ite_false]
    refine wpAny_bind ?_
    rw [← Array.forIn_toList]
    simp only [List.forIn_nil, List.forIn_cons]
    refine wpAny_bind (wpAny_bind (wpAny_holding (?_ : wpAny _ _ _ _ _ _)))
    show wpAny _ _ (Builtin.SmallTypes.nextOf (.ref i1) >>= _) _ _ ⟨u0, gs, dr, tk0, oss⟩
    by_cases lt1 : i < n1
    · refine wpAny_bind (D1.item i _ _ _ lt1 (D1.over st1 hs0 S.zf1) fun x1 v1 tk1 hx1 sn1 hv1 => wpAny_pure (wpAny_pure (?_ : wpAny _ _ _ _ _ _)))
      replace hv1 : Heap.SameBut i1 u0 v1 := hv1
      refine wpAny_bind (wpAny_bind (wpAny_holding (?_ : wpAny _ _ _ _ _ _)))
      show wpAny _ _ (Builtin.SmallTypes.nextOf (.ref i2) >>= _) _ _ ⟨v1, gs, dr, tk1, oss⟩
      by_cases lt2 : i < n2
      · refine wpAny_bind (D2.item i _ _ _ lt2 (D2.over (D2.over st2 hs0 S.zf2) hv1 S.sep1_2) fun x2 v2 tk2 hx2 sn2 hv2 => wpAny_pure (wpAny_pure (wpAny_pure (?_ : wpAny _ _ _ _ _ _))))
        replace hv2 : Heap.SameBut i2 v1 v2 := hv2
        show wpAny _ _ (newTuple [x1, x2] >>= _) _ _ ⟨v2, gs, dr, tk2, oss⟩
        refine wpAny_bind (wpAny_newTuple (?_ : wpAny _ _ _ _ _ _))
        have esz : v2.objs.size = hp.objs.size := by rw [hv2.1, hv1.1, hs0.1]
        have hz3 : ZipR v2 z TI TO (rawInt q) f' := hv2.extBut _ _ S.zi2 (hv1.extBut _ _ S.zi1 hz0)
        have kk : ∀ c o, c ≠ z → c ≠ i1 → c ≠ i2 → hp.get? c = some o → v2.get? c = some o := fun c o c1 c2 c3 e => hv2.extBut _ _ c3 (hv1.extBut _ _ c2 (hs0.extBut _ _ c1 e))
        have hT3 : IsTupOf2 v2 TO a1 a2 := kk _ _ S.TOz S.Ti1 S.Ti2 hTO
        have j1 : St1 (i + 1) v2 := D1.over sn1 hv2 S.sep2_1
        refine wpAny_pure ⟨_, rfl, ?_⟩
        show Q (.ref v2.objs.size) ⟨v2.push { cls := .type "tuple", data := .seq #[x1, x2] }, gs, dr, tk2, oss⟩
        have hT8 : IsTupOf2 (v2.push { cls := .type "tuple", data := .seq #[x1, x2] }) v2.objs.size x1 x2 := Heap.get?_push_size _ rfl
        have sz8 : (v2.push { cls := .type "tuple", data := .seq #[x1, x2] }).objs.size = v2.objs.size + 1 := by rw [Heap.size_push]
        rw [esz] at hT8 sz8 ⊢
        exact hQ lt1 lt2 x1 x2 _ tk2 hx1 hx2 ⟨_, _, Heap.get?_push_of_some _ hz3⟩ ⟨_, _, Heap.get?_push_of_some _ hT3⟩ (D1.frame _ _ _ j1 fun b hb o e => Heap.get?_push_of_some _ e) (D2.frame _ _ _ sn2 fun b hb o e => Heap.get?_push_of_some _ e) hT8 sz8
          fun c o cz cT c1 c2 e => Heap.get?_push_of_some _ (kk c o cz c1 c2 e)
      · have ei : i = n2 := by omega
        refine wpAny_bind (D2.done ⟨v1, gs, dr, tk1, oss⟩ _ _ (by rw [← ei]; exact (D2.over (D2.over st2 hs0 S.zf2) hv1 S.sep1_2)) fun q2 e hq he => ?_)
        exact hE (.inr ei) q2 tk1 e (fun c o cz cT c1 c2 x => hq _ _ c2 (hv1.extBut _ _ c1 (hs0.extBut _ _ cz x))) he
    · have ei : i = n1 := by omega
      refine wpAny_bind (D1.done ⟨u0, gs, dr, tk0, oss⟩ _ _ (by rw [← ei]; exact (D1.over st1 hs0 S.zf1)) fun q2 e hq he => ?_)
      exact hE (.inl ei) q2 tk0 e (fun c o cz cT c1 c2 x => hq _ _ c1 (hs0.extBut _ _ cz x)) he
/-- next of an enumerate over such a zip: the pair at s.heap's end, the new one behind it -/
theorem enumZ_next {e : Addr} {old : Value} {Q : Value → Shared → Prop} (S : ZipSep2 z TI TO i1 i2 fp1 fp2) (D1 : Draws prog w A.in1 i1 fp1 n1 P1 St1) (D2 : Draws prog w A.in1 i2 fp2 n2 P2 St2) (ho : OwnT o)
    (he : IsEnum s.heap e z (i : Int) old) (hz : ZipR s.heap z TI TO o f) (hTI : IsTupOf2 s.heap TI (.ref i1) (.ref i2)) (hTO : IsTupOf2 s.heap TO a1 a2) (st1 : St1 i s.heap) (st2 : St2 i s.heap) (le1 : i ≤ n1) (le2 : i ≤ n2)
    (ez : e ≠ z) (eT : e ≠ TO) (ei1 : e ≠ i1) (ei2 : e ≠ i2)
    (hQ : i < n1 → i < n2 → ∀ x1 x2 h1 h' tk, P1 i x1 → P2 i x2 → (∃ (T : Addr) (f' : Bool), ZipR h1 z TI TO (rawInt T) f') → (∃ b1 b2, IsTupOf2 h1 TO b1 b2) → St1 (i + 1) h1 → St2 (i + 1) h1 → IsTupOf2 h1 s.heap.objs.size x1 x2 →
      h1.objs.size = s.heap.objs.size + 1 → (∀ c o, c ≠ z → c ≠ TO → c ≠ i1 → c ≠ i2 → s.heap.get? c = some o → h1.get? c = some o) →
      IsEnumOut h' e z ((i : Int) + 1) (.ref s.heap.objs.size) (s.heap.objs.size + 1) → IsTupOf2 h' (s.heap.objs.size + 1) (.int i tk) (.ref s.heap.objs.size) → (∀ c o, c ≠ e → h1.get? c = some o → h'.get? c = some o) →
      Q (.ref (s.heap.objs.size + 1)) { s with heap := h', toks := tk + 1 })
    (hE : (i = n1 ∨ i = n2) → ∀ h' tk x, (∀ c o, c ≠ z → c ≠ TO → c ≠ i1 → c ≠ i2 → s.heap.get? c = some o → h'.get? c = some o) → (∃ o, h'.get? x = some o ∧ o.cls = .type "StopIteration") → E (.ref x) { s with heap := h', toks := tk }) :
    wpAny (model prog w) A (Builtin.«enumerate.__next__» ⟨[.ref e], []⟩) (fun fin s' => ∃ v, fin = .done (.ret v) ∧ Q v s') E s := by
  obtain ⟨hp, gs, dr, tk0, oss⟩ := s
  (show wpAny _ _ (field (.ref e) 2 >>= _) _ _ _; skip)
  refine wpAny_bind (wpAny_field he rfl (x := .ref z) rfl (?_ : wpAny _ _ _ _ _ _))
  have hTy : Shared.TypeIs ⟨hp, gs, dr, tk0, oss⟩ (.ref z) "zip" := ⟨_, hz, rfl⟩
  refine wpAny_bind ?_
  (unfold Builtin.SmallTypes.nextOf; skip)
  refine wpAny_bind (wpAny_callSpecial?_slot (name := Str.ofString "__next__") hTy F.slot_zip_next (wpAny_call_entry F.slot_zip_next hTy F.entry_zip_next (zipR_next S D1 D2 ho hz hTI hTO st1 st2 le1 le2 ?_ ?_) (F.args_zip_next_1 _)))
  · intro l1 l2 x1 x2 h1 tk p1 p2 hz1 hTO1 s1 s2 hT1 sz1 k1
    refine wpAny_pure (?_ : wpAny _ _ _ _ _ _)
    have e1 : IsEnum h1 e z (i : Int) old := k1 _ _ ez eT ei1 ei2 he
    show wpAny _ _ (field (.ref e) 3 >>= _) _ _ ⟨h1, gs, dr, tk, oss⟩
    refine wpAny_bind (wpAny_field e1 rfl (x := rawInt i) rfl (?_ : wpAny _ _ _ _ _ _))
    show wpAny _ _ (field (.ref e) 4 >>= _) _ _ ⟨h1, gs, dr, tk, oss⟩
    refine wpAny_bind (wpAny_field e1 rfl (x := .none) rfl (?_ : wpAny _ _ _ _ _ _))
    show wpAny _ _ (mkInt i >>= _) _ _ ⟨h1, gs, dr, tk, oss⟩
    refine wpAny_bind (wpAny_mkInt (?_ : wpAny _ _ _ _ _ _))
    show wpAny _ _ (setField (.ref e) 3 (rawInt ((i : Int) + 1)) >>= _) _ _ ⟨h1, gs, dr, tk + 1, oss⟩
    refine wpAny_bind (wpAny_setField_rec e1 (by simp) fun h2 e2 b2 => (?_ : wpAny _ _ _ _ _ _))
    replace b2 : Heap.SameBut e h1 h2 := b2
    replace e2 : IsEnum h2 e z ((i : Int) + 1) old := e2
    show wpAny _ _ (setField (.ref e) 4 .none >>= _) _ _ ⟨h2, gs, dr, tk + 1, oss⟩
    refine wpAny_bind (wpAny_setField_rec e2 (by simp) fun h3 e3 b3 => (?_ : wpAny _ _ _ _ _ _))
    replace b3 : Heap.SameBut e h2 h3 := b3
    replace e3 : IsEnum h3 e z ((i : Int) + 1) old := e3
    show wpAny _ _ (newTuple [.int i tk, .ref hp.objs.size] >>= _) _ _ ⟨h3, gs, dr, tk + 1, oss⟩
    refine wpAny_bind (wpAny_newTuple (?_ : wpAny _ _ _ _ _ _))
    have e4 : IsEnum (h3.push { cls := .type "tuple", data := .seq #[.int i tk, .ref hp.objs.size] }) e z ((i : Int) + 1) old := Heap.get?_push_of_some _ e3
    generalize hh4 : h3.push { cls := .type "tuple", data := .seq #[.int i tk, .ref hp.objs.size] } = h4 at e4
    have esz : h3.objs.size = hp.objs.size + 1 := by rw [b3.1, b2.1, sz1]
    have el : e < hp.objs.size := Heap.lt_size he
    have t4 : h4.get? (hp.objs.size + 1) = some { cls := .type "tuple", data := .seq #[.int i tk, .ref hp.objs.size] } := by rw [← hh4, ← esz]; exact Heap.get?_push_size _ rfl
    have k4 : ∀ c o, c ≠ e → h1.get? c = some o → h4.get? c = some o := fun c o ce hc => by
      rw [← hh4]; exact Heap.get?_push_of_some _ (b3.extBut c o ce (b2.extBut c o ce hc))
    show wpAny _ _ (Builtin.SmallTypes.ownedTupleIsFree (.ref e) >>= _) _ _ ⟨h4, gs, dr, tk + 1, oss⟩
    rw [esz]
    clear hh4 e3 b3 e2 b2 esz h3 h2
    refine wpAny_bind ?_
    (unfold Builtin.SmallTypes.ownedTupleIsFree; skip)
    refine wpAny_bind (wpAny_field e4 rfl (x := .none) rfl (wpAny_pure ?_))
    simp only [if_true]
    refine wpAny_bind (wpAny_rule (?_ : wpAny _ _ _ _ _ _))
    refine wpAny_bind (wpAny_field e4 rfl (x := old) rfl (?_ : wpAny _ _ _ _ _ _))
    refine wpAny_bind (wpAny_setField_rec e4 (by simp) fun h5 e5 b5 => (?_ : wpAny _ _ _ _ _ _))
    replace b5 : Heap.SameBut e h4 h5 := b5
    replace e5 : IsEnum h5 e z ((i : Int) + 1) (.ref hp.objs.size) := e5
    show wpAny _ _ (Builtin.SmallTypes.ownedTupleHandOut (.ref e) (.ref (hp.objs.size + 1)) >>= _) _ _ ⟨h5, gs, dr, tk + 1, oss⟩
    refine wpAny_bind ?_
    (unfold Builtin.SmallTypes.ownedTupleHandOut; skip)
    refine wpAny_bind (wpAny_setField_rec e5 (by simp) fun h6 e6 b6 => ?_)
    replace b6 : Heap.SameBut e h5 h6 := b6
    replace e6 : IsEnumOut h6 e z ((i : Int) + 1) (.ref hp.objs.size) (hp.objs.size + 1) := e6
    refine wpAny_setField_rec e6 (by simp) fun h7 e7 b7 => ?_
    replace b7 : Heap.SameBut e h6 h7 := b7
    replace e7 : IsEnumOut h7 e z ((i : Int) + 1) (.ref hp.objs.size) (hp.objs.size + 1) := e7
    have up : ∀ c o, c ≠ e → h4.get? c = some o → h7.get? c = some o := fun c o ce hc => b7.extBut c o ce (b6.extBut c o ce (b5.extBut c o ce hc))
    exact wpAny_bind (wpAny_letGo (wpAny_pure ⟨_, rfl, hQ l1 l2 x1 x2 h1 h7 tk p1 p2 hz1 hTO1 s1 s2 hT1 sz1 k1 e7 (up _ _ (Nat.ne_of_gt (Nat.lt_succ_of_lt el)) t4) fun c o ce hc => up c o ce (k4 c o ce hc)⟩))
  · exact fun hend h' tk x k hx => hE hend h' tk x k hx
theorem pyNext_enumZ {e : Addr} {old : Value} {Q : Option Value → Shared → Prop} (S : ZipSep2 z TI TO i1 i2 fp1 fp2) (D1 : Draws prog w A.in1.in1 i1 fp1 n1 P1 St1) (D2 : Draws prog w A.in1.in1 i2 fp2 n2 P2 St2) (ho : OwnT o)
    (he : IsEnum s.heap e z (i : Int) old) (hz : ZipR s.heap z TI TO o f) (hTI : IsTupOf2 s.heap TI (.ref i1) (.ref i2)) (hTO : IsTupOf2 s.heap TO a1 a2) (st1 : St1 i s.heap) (st2 : St2 i s.heap) (le1 : i ≤ n1) (le2 : i ≤ n2)
    (ez : e ≠ z) (eT : e ≠ TO) (ei1 : e ≠ i1) (ei2 : e ≠ i2)
    (hQ : i < n1 → i < n2 → ∀ x1 x2 h1 h' tk, P1 i x1 → P2 i x2 → (∃ (T : Addr) (f' : Bool), ZipR h1 z TI TO (rawInt T) f') → (∃ b1 b2, IsTupOf2 h1 TO b1 b2) → St1 (i + 1) h1 → St2 (i + 1) h1 → IsTupOf2 h1 s.heap.objs.size x1 x2 →
      h1.objs.size = s.heap.objs.size + 1 → (∀ c o, c ≠ z → c ≠ TO → c ≠ i1 → c ≠ i2 → s.heap.get? c = some o → h1.get? c = some o) →
      IsEnumOut h' e z ((i : Int) + 1) (.ref s.heap.objs.size) (s.heap.objs.size + 1) → IsTupOf2 h' (s.heap.objs.size + 1) (.int i tk) (.ref s.heap.objs.size) → (∀ c o, c ≠ e → h1.get? c = some o → h'.get? c = some o) →
      Q (some (.ref (s.heap.objs.size + 1))) { s with heap := h', toks := tk + 1 })
    (hE : (i = n1 ∨ i = n2) → ∀ h' tk, (∀ c o, c ≠ z → c ≠ TO → c ≠ i1 → c ≠ i2 → s.heap.get? c = some o → h'.get? c = some o) → Q none { s with heap := h', toks := tk }) :
    wpAny (model prog w) A (pyNext (.ref e)) Q E s := by
  have hTy : s.TypeIs (.ref e) "enumerate" := ⟨_, he, rfl⟩
  (unfold pyNext; skip)
  refine wpAny_bind (wpAny_attempt (wpAny_callSpecial?_slot (name := Str.ofString "__next__") hTy F.slot_enumerate_next (wpAny_call_entry F.slot_enumerate_next hTy F.entry_enumerate_next
    (enumZ_next S D1 D2 ho he hz hTI hTO st1 st2 le1 le2 ez eT ei1 ei2 (fun l1 l2 x1 x2 h1 h' tk p1 p2 q1 q2 q3 q4 q5 q6 q7 q8 q9 q10 => wpAny_pure (hQ l1 l2 x1 x2 h1 h' tk p1 p2 q1 q2 q3 q4 q5 q6 q7 q8 q9 q10)) fun hend h' tk x k hx => ?_) (F.args_enumerate_next_1 _))))
  obtain ⟨ox, hx1, hx2⟩ := hx
  refine wpAny_bind (wpAny_isInstance (T := "StopIteration") (b := true) ⟨ox, hx1, hx2⟩ isSubtype_stop ?_)
  exact wpAny_pure (hE hend _ _ k)
theorem enum_newZ (z TI TO : Addr) :
    Meets (Builtin.«enumerate.__new__» ⟨[.type "enumerate", .ref z], []⟩) (fun _ R s => IsZip s.heap z TI TO .none ∧
      R (.ok (.ret (.ref s.heap.objs.size))) { s with heap := s.heap.push { cls := .type "enumerate", data := .fields #[.none, .bool false, .ref z, rawInt 0, .none, .none] } }) :=
  .of_wp fun prog w A R s h => by
    obtain ⟨hp, gs, dr, tk0, oss⟩ := s; obtain ⟨hz, h⟩ := h
    have hsub := sub_enumerate
    have q1 : ∀ {A' : Around} {E : Value → Shared → Prop} {Q : Value → Shared → Prop}, Q (.ref z) ⟨hp, gs, dr, tk0, oss⟩ → wpAny (model prog w) A' (pyIter (.ref z)) Q E ⟨hp, gs, dr, tk0, oss⟩ := fun q => wpAny_pyIter_zip hz q
    wp_walk using q1
    refine wpAny_stack_any fun st => wpAny_pure ?_
    split
    · rename_i c _ _ _ _ _
      cases (c == Value.type "enumerate")
      · wp_walk using q1
        exact ⟨_, rfl, h⟩
      · wp_walk using q1
        exact ⟨_, rfl, h⟩
    · wp_walk using q1
      exact ⟨_, rfl, h⟩
theorem call_enumZ {Q : Value → Shared → Prop} (hz : IsZip s.heap z TI TO .none)
    (h : ∀ h', IsEnum h' s.heap.objs.size z 0 .none → h'.objs.size = s.heap.objs.size + 1 → (∀ b o, s.heap.get? b = some o → h'.get? b = some o) → Q (.ref s.heap.objs.size) { s with heap := h' }) :
    wpAny (model prog w) A (call (.type "enumerate") [.ref z]) Q E s := by
  refine callType_new F.called_enumerate (by decide) (F.typeCall_enumerate_1 _) (F.newCall_enumerate_1 _) (fun obj => F.args_object_init_2 obj _) F.entry_enumerate_new (enum_newZ z TI TO) ⟨hz, ?_⟩
  show _ ∧ _
  have he : IsEnum (s.heap.push { cls := .type "enumerate", data := .fields #[.none, .bool false, .ref z, rawInt 0, .none, .none] }) s.heap.objs.size z 0 .none := Heap.get?_push_size _ rfl
  exact ⟨⟨_, he, rfl⟩, h _ he (Heap.size_push ..) fun b o x => Heap.get?_push_of_some _ x⟩
end
/-- enumerate over zip of two such: a new pair, and about it a new one with its number -/
def ItEZ (K : PySem.W.Frag) (k m : Bool) (a b : Addr) : It :=
  ⟨fun i H => ∃ (xs ys : List V) (x y : V), SqB K k H a xs ∧ SqB K m H b ys ∧ xs[i]? = some x ∧ ys[i]? = some y,
    fun i H v H' => ∃ T U x y, v = .ref U ∧ H T = none ∧ upd H T (.tup [x, y]) U = none ∧ H' = upd (upd H T (.tup [x, y])) U (.tup [.int (i : Nat), .ref T]) ∧ (∀ xs, SqB K k H a xs → xs[i]? = some x) ∧ ∀ ys, SqB K m H b ys → ys[i]? = some y,
    fun i H => ∃ xs ys : List V, SqB K k H a xs ∧ SqB K m H b ys ∧ i ≤ xs.length ∧ i ≤ ys.length ∧ (xs.length = i ∨ ys.length = i)⟩
structure Apart6 (e z TI TO i1 i2 a b : Addr) : Prop where
  D : Apart5 z TI TO i1 i2 a b
  ez : e ≠ z
  eTI : e ≠ TI
  eTO : e ≠ TO
  e1 : e ≠ i1
  e2 : e ≠ i2
theorem apart6_new {N a b : Nat} (ha : a < N) (hb : b < N) : Apart6 (N + 5) (N + 4) (N + 2) (N + 3) N (N + 1) a b :=
  ⟨apart_new ha hb, (show N + 5 ≠ N + 4 by omega), (show N + 5 ≠ N + 2 by omega), (show N + 5 ≠ N + 3 by omega), (show N + 5 ≠ N by omega), (show N + 5 ≠ N + 1 by omega)⟩
theorem turn_enumZ {P : Program} {w : World} {K : PySem.W.Frag} {elts : List Expr} {kk : Nat} {tpos : Pos} {a b e z TI TO i1 i2 : Addr} {k m : Bool} (D : Apart6 e z TI TO i1 i2 a b) :
    Turn P w K (.Tuple elts kk tpos) (ItEZ K k m a b) [e, z, TI, TO, i1, i2] e
      (fun i h => (∃ old, IsEnum h e z (i : Int) old) ∧ (∃ o f, OwnT o ∧ ZipR h z TI TO o f) ∧ IsTupOf2 h TI (.ref i1) (.ref i2) ∧ (∃ x y, IsTupOf2 h TO x y) ∧ ItB k h i1 a i ∧ ItB m h i2 b i) where
  mem := List.mem_cons_self ..
  obj := fun i h st c hc => by
    obtain ⟨⟨old, he⟩, ⟨o, f, _, hz⟩, hTI, ⟨x, y, hTO⟩, h1, h2⟩ := st
    simp only [List.mem_cons, List.not_mem_nil, or_false] at hc
    rcases hc with q | q | q | q | q | q
    · subst q; exact ⟨_, he, fun v q => by cases q⟩
    · subst q; exact ⟨_, hz, fun v q => by cases q⟩
    · subst q; exact ⟨_, hTI, fun v q => by cases q⟩
    · subst q; exact ⟨_, hTO, fun v q => by cases q⟩
    · subst q; exact h1.obj
    · subst q; exact h2.obj
  keep := fun i h h' st k => by
    obtain ⟨⟨old, he⟩, ⟨o, f, ho, hz⟩, hTI, ⟨x, y, hTO⟩, h1, h2⟩ := st
    exact ⟨⟨old, k e (by simp) _ he⟩, ⟨o, f, ho, k z (by simp) _ hz⟩, k TI (by simp) _ hTI, ⟨x, y, k TO (by simp) _ hTO⟩, h1.at (k i1 (by simp)), h2.at (k i2 (by simp))⟩
  item := by
    intro X hP hw hK hc i pins s σ H E I hf st hg
    subst hP hw hK
    obtain ⟨⟨old, he⟩, ⟨o, f, ho, hz⟩, hTI, ⟨x0, y0, hTO⟩, h1, h2⟩ := st
    obtain ⟨xs, ys, x, y, hqx, hqy, hx, hy⟩ := hg
    obtain ⟨its, rv, p, _⟩ := seqB I hqx
    obtain ⟨its2, rv2, p2, _⟩ := seqB I hqy
    obtain ⟨u, hu, ru⟩ := rv.get hx
    obtain ⟨u2, hu2, ru2⟩ := rv2.get hy
    have hh : X.A.in1.in1.handled = none := I.ok.hd hc
    have l1 : i < its.toArray.size := by rw [List.size_toArray]; exact (List.getElem?_eq_some_iff.mp hu).1
    have l2 : i < its2.toArray.size := by rw [List.size_toArray]; exact (List.getElem?_eq_some_iff.mp hu2).1
    have hel := Heap.lt_size he
    refine pyNext_enumZ D.D.S (drawsB hh k i1 a D.D.a1 its.toArray) (drawsB hh m i2 b D.D.b2 its2.toArray) ho he hz hTI hTO ⟨h1, p⟩ ⟨h2, p2⟩ (Nat.le_of_lt l1) (Nat.le_of_lt l2) D.ez D.eTO D.e1 D.e2 (fun _ _ v1 v2 w1 w2 tk e1 e2 z' TO' d1 d2 hT hsz hk ho' hU hk2 => ?_) fun hend => by omega
    have q1 : v1 = u := by
      have e1' : its[i]? = some v1 := by simpa using e1
      rw [hu] at e1'; exact (Option.some.inj e1').symm
    have q2 : v2 = u2 := by
      have e2' : its2[i]? = some v2 := by simpa using e2
      rw [hu2] at e2'; exact (Option.some.inj e2').symm
    subst q1 q2
    refine ⟨_, rfl, wpAny_letOwnedTupleGo_enum (s := { s with heap := w2, toks := tk + 1 }) ho' fun w3 he3 sb => ?_⟩
    obtain ⟨qT, qf, z'⟩ := z'
    obtain ⟨b1, b2, TO'⟩ := TO'
    have k3 : ∀ c o, c ≠ e → w1.get? c = some o → w3.get? c = some o := fun c o n q => (sb.2 c n).trans (hk2 c o n q)
    have new1 : ObjOk X.prog X.w (upd H s.heap.objs.size (.tup [x, y])) w1 s.heap.objs.size (.tup [x, y]) :=
      ⟨(by show 2 ≤ sizeLine; decide), [v1, v2], .cons ru (.cons ru2 .nil), ⟨_, hT, rfl, _, rfl⟩⟩
    have I1 : Inv X pins σ (upd H s.heap.objs.size (.tup [x, y])) { s with heap := w1, toks := tk } :=
      I.turnedNew (t' := tk) (ch := [e, z, TI, TO, i1, i2]) (fun c o hb q => hk c o (fun e => hb (by simp [e])) (fun e => hb (by simp [e])) (fun e => hb (by simp [e])) (fun e => hb (by simp [e])) q) hf (Nat.le_refl _) new1
    have hU3 : w3.get? (s.heap.objs.size + 1) = some { cls := .type "tuple", data := .seq #[.int i tk, .ref s.heap.objs.size] } := (sb.2 _ (Nat.ne_of_gt (Nat.lt_succ_of_lt hel))).trans hU
    have new2 : ObjOk X.prog X.w (upd (upd H s.heap.objs.size (.tup [x, y])) (s.heap.objs.size + 1) (.tup [.int (i : Nat), .ref s.heap.objs.size])) w3 (s.heap.objs.size + 1) (.tup [.int (i : Nat), .ref s.heap.objs.size]) :=
      ⟨(by show 2 ≤ sizeLine; decide), [.int i tk, .ref s.heap.objs.size], .cons ⟨_, rfl⟩ (.cons rfl .nil), ⟨_, hU3, rfl, _, rfl⟩⟩
    have hf1 : ∀ c ∈ [e], FpOk X pins (upd H s.heap.objs.size (.tup [x, y])) c := fun c hcm => by
      cases List.mem_singleton.mp hcm
      obtain ⟨f0, f1⟩ := hf e (by simp)
      exact ⟨by rw [upd_ne (Nat.ne_of_lt hel)]; exact f0, f1⟩
    have I2 : Inv X pins σ (upd (upd H s.heap.objs.size (.tup [x, y])) (s.heap.objs.size + 1) (.tup [.int (i : Nat), .ref s.heap.objs.size])) { s with heap := w3, toks := tk + 1 } :=
      I1.turnedNew (t' := tk + 1) (ch := [e]) (fun c o hb q => k3 c o (fun z => hb (by simp [z])) q) hf1 (Nat.le_of_eq hsz) new2
    refine ⟨.ref (s.heap.objs.size + 1), _, I2, rfl, ⟨_, _, x, y, rfl, I.hok.fresh (Nat.le_refl _), I1.hok.fresh (Nat.le_of_eq hsz), rfl, fun l hl => by rw [seqB_inj I hl hqx]; exact hx, fun l hl => by rw [seqB_inj I hl hqy]; exact hy⟩, ⟨⟨_, by rw [Int.natCast_succ]; exact he3⟩, ⟨_, qf, .inr ⟨qT, rfl⟩, ?_⟩, ?_, ⟨b1, b2, ?_⟩, ?_, ?_⟩, fun c hcm => ?_⟩
    · exact k3 _ _ D.ez.symm z'
    · exact k3 _ _ D.eTI.symm (hk _ _ D.D.S.TIz D.D.S.TITO D.D.S.TIi1 D.D.S.TIi2 hTI)
    · exact k3 _ _ D.eTO.symm TO'
    · exact d1.1.at fun o q => k3 _ _ D.e1.symm q
    · exact d2.1.at fun o q => k3 _ _ D.e2.symm q
    · have hlt : c < s.heap.objs.size := by
        simp only [List.mem_cons, List.not_mem_nil, or_false] at hcm
        rcases hcm with q | q | q | q | q | q
        · rw [q]; exact hel
        · rw [q]; exact Heap.lt_size hz
        · rw [q]; exact Heap.lt_size hTI
        · rw [q]; exact Heap.lt_size hTO
        · rw [q]; obtain ⟨_, e, _⟩ := h1.obj; exact Heap.lt_size e
        · rw [q]; obtain ⟨_, e, _⟩ := h2.obj; exact Heap.lt_size e
      rw [upd_ne (Nat.ne_of_lt (Nat.lt_succ_of_lt hlt)), upd_ne (Nat.ne_of_lt hlt)]
      exact (hf c hcm).1
  done := by
    intro X hP hw hK hc i pins s σ H E I hf st hg
    subst hP hw hK
    obtain ⟨⟨old, he⟩, ⟨o, f, ho, hz⟩, hTI, ⟨x0, y0, hTO⟩, h1, h2⟩ := st
    obtain ⟨xs, ys, hqx, hqy, le1, le2, hend⟩ := hg
    obtain ⟨its, rv, p, _⟩ := seqB I hqx
    obtain ⟨its2, rv2, p2, _⟩ := seqB I hqy
    have l1 := rv.length
    have l2 := rv2.length
    have hh : X.A.in1.in1.handled = none := I.ok.hd hc
    refine pyNext_enumZ D.D.S (drawsB hh k i1 a D.D.a1 its.toArray) (drawsB hh m i2 b D.D.b2 its2.toArray) ho he hz hTI hTO ⟨h1, p⟩ ⟨h2, p2⟩ (by rw [List.size_toArray]; omega) (by rw [List.size_toArray]; omega) D.ez D.eTO D.e1 D.e2 (fun m1 m2 => by rw [List.size_toArray] at m1 m2; omega) fun _ h' tk hk => ⟨rfl, ?_⟩
    exact I.turnedL (t' := tk) (ch := [e, z, TI, TO, i1, i2]) (fun c o hb q => hk c o (fun e => hb (by simp [e])) (fun e => hb (by simp [e])) (fun e => hb (by simp [e])) (fun e => hb (by simp [e])) q) hf
  self := fun A i s Q E st h => by obtain ⟨⟨_, he⟩, _⟩ := st; exact wpAny_pyIter_enum he h
def iEZ (K : PySem.W.Frag) (ta : TA) : TI := fun σ H R => ta σ H fun vs H1 => ∃ a b xs ys k m, vs = [.ref a, .ref b] ∧ SqB K k H1 a xs ∧ SqB K m H1 b ys ∧ R (ItEZ K k m a b) H1
theorem pi_enumZ {X : Cx} {e e2 : Expr} {ta : TA} {p p2 pos pos2 tpos : Pos} {elts : List Expr} {kk : Nat} (hge : Gl X "enumerate") (hme : X.mg "enumerate" = none) (hg : Gl X "zip") (hm : X.mg "zip" = none) (ha : PA X [e, e2] ta)
    (hs : starEach [e, e2] X.env = (false, eval e X.env) :: starEach [e2] X.env := by rfl) (hpl : (backTo pos2 (starEach [e2] X.env)).any (·.1) = false := by rfl)
    (hs2 : starEach [.Call (.Name "zip" p2) [e, e2] [] pos2] X.env = [(false, eval (.Call (.Name "zip" p2) [e, e2] [] pos2) X.env)] := by rfl) :
    PI X (.Tuple elts kk tpos) (.Call (.Name "enumerate" p) [.Call (.Name "zip" p2) [e, e2] [] pos2] [] pos) (iEZ X.K ta) := by
  refine ⟨fun pins s σ H R I h => ?_⟩
  refine Call_ (ld_blt I hge hme boot_enumerate (callWith_type1 ?_ hs2 rfl))
  rw [hs2]
  show wpAny _ _ (spliced ((false, eval (.Call (.Name "zip" p2) [e, e2] [] pos2) X.env) :: backTo pos [])) _ _ s
  refine Calls.spliced_cons ?_
  refine Call_ (ld_blt I hg hm boot_zip (callWith_type1 (thn (ha.run pos2 pins s σ H _ I h) fun us s1 ⟨vs, H1, I1, r1, a, b, xs, ys, k, m, ev, hqx, hqy, q⟩ => ?_) hs hpl))
  subst ev
  cases r1 with
  | cons r rr =>
    cases rr with
    | cons r' rr =>
      cases rr; cases r; cases r'
      obtain ⟨its, rv, p1, lt1⟩ := seqB I1 hqx
      obtain ⟨its2, rv2, p2, lt2⟩ := seqB I1 hqy
      obtain ⟨o1, B1, j1⟩ := begB (k := k) (a := a) its.toArray
      obtain ⟨o2, B2, j2⟩ := begB (k := m) (a := b) its2.toArray
      refine zip_begins2 B1 B2 p1 p2 fun w1 hz hTI hTO h1 h2 hsz hk => Calls.spliced_nil ?_
      refine call_enumZ (s := { s1 with heap := w1 }) hz fun w2 he hsz2 hk2 => wpAny_pyIter_enum he ?_
      have se : w1.objs.size = s1.heap.objs.size + 5 := hsz
      have he' : IsEnum w2 (s1.heap.objs.size + 5) (s1.heap.objs.size + 4) 0 .none := by rw [← se]; exact he
      have A6 : Apart6 (s1.heap.objs.size + 5) (s1.heap.objs.size + 4) (s1.heap.objs.size + 2) (s1.heap.objs.size + 3) s1.heap.objs.size (s1.heap.objs.size + 1) a b := apart6_new lt1 lt2
      refine ⟨s1.heap.objs.size + 5, [s1.heap.objs.size + 5, s1.heap.objs.size + 4, s1.heap.objs.size + 2, s1.heap.objs.size + 3, s1.heap.objs.size, s1.heap.objs.size + 1], _, ItEZ X.K k m a b, H1, by show Value.ref w1.objs.size = _; rw [se], I1.kept (t' := s1.toks) fun b o x => hk2 b o (hk b o x), turn_enumZ A6, ⟨⟨.none, he'⟩, ⟨.none, false, .inl rfl, hk2 _ _ hz⟩, hk2 _ _ hTI, ⟨_, _, hk2 _ _ hTO⟩, j1 _ _ (hk2 _ _ h1), j2 _ _ (hk2 _ _ h2)⟩, fun c hcm => ?_, q⟩
      have hle : s1.heap.objs.size ≤ c := by
        simp only [List.mem_cons, List.not_mem_nil, or_false] at hcm
        rcases hcm with z | z | z | z | z | z <;> rw [z] <;> first | exact Nat.le_refl _ | exact Nat.le_add_right _ _
      exact I1.fpOk hle (I1.hok.fresh hle)
end Co
namespace Co
open PySem PySem.Spec PyProof.Rows L2
/-! ### defs that are called where no repr is under way (so that they may say repr) -/
abbrev Bare0 (A : Around) : Prop := A.guards = some []
structure FnG (P : Program) (w : World) (K : PySem.W.Frag) (mg : Str → Option Value) (base : Heap) (CX : CXT) (k : Nat) (f : Addr) (fd : FuncData) (ps : List Str) (sp : Sp) : Prop where
  len : ∀ vs H Q E, sp vs H Q E → vs.length = ps.length
  run : ∀ (A : Around) (outer : List Env) (s : Shared) (H : Hp) (args : Args) (us : List Value) (vs : List V) (Q : VK) (E : XK), Bare0 A → Room k A → Env0 P w K mg base A outer s H → BindsTo s fd args (ps.zip us) → Vals vs us → sp vs H Q E → codeAny (model P w) A (.call (.ref f) args) (CR CX outer P w H s Q E) s
section
variable {CX : CXT} {P : Program} {w : World} {K : PySem.W.Frag} {mg : Str → Option Value} {base : Heap}
theorem fnG_of {x qual : Str} {st : Stmt} {f : Addr} {fd : FuncData} {N ps : List Str} {k : Nat} {sp : Sp} (F : Fun K x qual st f fd) (S : FnScope N ps (defScope st)) (len : ∀ vs H Q E, sp vs H Q E → vs.length = ps.length)
    (hbody : ∀ (cdv : Value) (A : Around) (outer : List Env) (s : Shared) (H : Hp) (vs : List V) (Q : VK) (E : XK), Bare0 A → Room k (A.deeper (envOfC qual (defScope st) s.heap.objs.size f cdv)) → sp vs H Q E →
      ∃ t, PSs (cxOf CX P w K mg base N qual (defScope st) f cdv A outer s H E) (defBody st) t ∧ t { nx := fun _ H' => Q .non H', rt := Q } (start N vs) H) : FnG P w K mg base CX (k + 1) f fd ps sp := by
  obtain ⟨oc, od, kV, doc, pm, an, cdv, ct, osl, rfl, lk, hcd⟩ := F.ex
  refine ⟨len, fun A outer s H args us vs Q E ga room e0 bind rel promised => ?_⟩
  have KX : K.In s.heap := e0.mod.kin.keeps fun b o e => (e0.bs b o e).1
  have kinds : ∀ y ∈ ps.zip us, (defScope st).names.lookup y.1 = some .local ∨ ((defScope st).names.lookup y.1 = some .cell ∧ ((cellsFrom (s.heap.objs.size + 1) (defScope st).names []).lookup y.1).isSome = true) := by
    rintro ⟨n, v⟩ hy
    exact (S.par n (List.of_mem_zip hy).1).imp id fun q => ⟨q, PySem.W.cellsFrom_some _ _ _ (.inl q)⟩
  refine codeAny_call_function room.depth (KX _ _ lk) rfl S.co S.gen rfl (PySem.W.codeRec_of KX hcd) (bind _ _ _ _ (wpAny_newFunctionEnv_cells S.kind kinds fun env he s1 x => ?_))
  subst he
  refine ⟨(e0.mod.nolimit.keeps fun b o e => (e0.bs b o e).1).keeps x.toInCall.keep, codeAny_func ?_⟩
  obtain ⟨t, ht, hq⟩ := hbody cdv A outer s H vs Q E ga (room.deeper _) promised
  refine wpAny_mono (ht.run [] s1 (start N vs) H _ (inv_start S room.hd e0 (len _ _ _ _ promised) rel x) hq) (fun fl s' out => ?_) fun e s' out => out
  match fl, out with
  | .ret u, ⟨v, _, H', J, rv, q⟩ => exact ⟨v, H', J.os, J.bare, J.base, J.hok, rv, q⟩
  | .next, ⟨_, H', J, q⟩ => exact ⟨V.non, H', J.os, J.bare, J.base, J.hok, rfl, q⟩
  | .brk, ⟨_, _, _, q⟩ => exact q.elim
  | .cont, ⟨_, _, _, q⟩ => exact q.elim
variable {X : Cx} {x : Str} {p pos : Pos} {e : Expr} {es : List Expr} {t : TA} {f : Addr} {fd : FuncData} {ps : List Str} {sp : Sp} {k : Nat} {ds : List Value} {dvs : List V} {E : XK}
theorem pe_callG (F : FnG X.prog X.w X.K X.mg X.base CX k f fd ps sp) (ga : Bare0 X.A) (hr : Room k X.A) (hg : Gl X x) (hm : X.mg x = some (.ref f)) (hk : PySem.W.keepIn X.K (.ref f) = true) (hb : Binds X.K fd ps ds) (hd : Vals dvs ds) (hx : Passes CX X E) (ha : PA X (e :: es) t)
    (hdb : (x == ("__debug__" : Str)) = false := by decide) (he : starEach (e :: es) X.env = (false, eval e X.env) :: starEach es X.env := by rfl) (hpl : (backTo pos (starEach es X.env)).any (·.1) = false := by rfl) : PE X (.Call (.Name x p) (e :: es) [] pos) (tCall sp dvs E t) := by
  refine ⟨fun pins s σ H Q I h => wpAny_Call_Name_kw (ld_glob I hg hm ?_ hdb)⟩
  refine PySem.W.callWith_K (h₀ := X.base) I.ok.mod.kin hk (thn (ha.run pos pins s σ H _ I h) fun us s1 ⟨vs, H1, I1, r, q⟩ => ⟨I1.kIn, ?_⟩) he hpl
  have r2 : Vals (vs ++ dvs) (us ++ ds) := r.append hd
  refine wpAny_call (codeAny_mono (F.run X.A X.stack s1 H1 ⟨us, []⟩ (us ++ ds) (vs ++ dvs) Q E ga hr I1.env0 (hb s1 us I1.kIn (by rw [← r2.length]; exact F.len _ _ _ _ q)) r2 q) fun out s' hq => ?_)
  match out, hq with
  | .error e, hq => exact hx pins σ H1 s1 e s' I1 hq
  | .ok (.ret u), hq => exact I1.after hq
  | .ok .next, hq => exact hq.elim
  | .ok .brk, hq => exact hq.elim
  | .ok .cont, hq => exact hq.elim
end
/-! ### the end of a law whose def is such a one -/
theorem law_callG {P : Program} {w : World} {K : PySem.W.Frag} {mg mb : Str → Option Value} {k : Nat} {fa a : Addr} {fd : FuncData} {x : Str} {sp : Sp} {s₁ : Shared} {vs : List Value} {ns : List Int} (KX : K.In s₁.heap) (hns : s₁.heap.Ns mainGlobals mg) (hb : s₁.heap.Ns builtinsNs mb)
    (hbb : ∀ x : Str, x ≠ "__name__" → mb x = bootBuiltins x) (hlim : s₁.heap.NoLimit) (hg : s₁.gens = #[]) (ha : s₁.heap.get? a = some { cls := .type "list", data := .seq vs.toArray }) (hi : IntsAre vs ns) (hl : ns.length ≤ sizeLine) (hr : Room k callerA)
    (F : ∀ base : Heap, K.In base → base.Ns mainGlobals mg → FnG P w K mg base CX0 k fa fd [x] sp) (hbind : ∀ (s : Shared) (u : Value), BindsTo s fd ⟨[u], []⟩ [(x, u)]) (hsp : ∀ H : Hp, Only H → SqL K H a (ns.map V.int) → sp [.ref a] H (fun v _ => v = .bl true) fun _ _ _ => False) :
    codeAny (model P w) callerA (.call (.ref fa) ⟨[.ref a], []⟩) (fun r s' => r = .ok (.ret (.bool true)) ∧ OldK s₁.heap s'.heap ∧ s'.os = s₁.os ∧ AllBare s'.gens) s₁ := by
  have rv := vals_ints hi
  have main : ∀ H : Hp, Only H → SqL K H a (ns.map V.int) → HOk P w H s₁.heap → (∀ b, H b ≠ none → b = a ∧ K.lookup a = none) →
      codeAny (model P w) callerA (.call (.ref fa) ⟨[.ref a], []⟩) (fun r s' => r = .ok (.ret (.bool true)) ∧ OldK s₁.heap s'.heap ∧ s'.os = s₁.os ∧ AllBare s'.gens) s₁ := by
    intro H hO hS hok only
    have seen : ∀ {b : Addr} {o : Obj}, s₁.heap.get? b = some o → H b = none → (hidT s₁.heap H).get? b = some o := fun e n => hidT_get e n
    have away : ∀ {b : Addr}, b ≠ a → H b = none := fun {b} n => by
      cases q : H b with
      | none => rfl
      | some u => exact absurd (only b (by rw [q]; intro z; cases z)).1 n
    have space : ∀ {b : Addr} {m : Str → Option Value}, s₁.heap.Ns b m → (hidT s₁.heap H).Ns b m := fun {b m} ⟨o, es, ep, e, d, r⟩ => ⟨o, es, ep, seen e (away fun z => by
      subst z
      rw [ha] at e
      cases e
      exact absurd (show Data.seq vs.toArray _ = Data.dict es ep from d) (fun q => nomatch q)), d, r⟩
    have kin : K.In (hidT s₁.heap H) := fun b o e => seen (KX b o e) (by
      cases q : H b with
      | none => rfl
      | some u =>
        obtain ⟨z, n⟩ := only b (by rw [q]; intro z; cases z)
        rw [z, n] at e
        cases e)
    have modl : Mod K mg (hidT s₁.heap H) := ⟨kin, space hns, ⟨mb, space hb, hbb⟩, let ⟨mc, h1, h2⟩ := hlim; ⟨mc, space h1, h2⟩⟩
    have env : Env0 P w K mg (hidT s₁.heap H) callerA [] s₁ H := { frames := rfl, mod := modl, bs := fun b o e => of_hidT e, bsz := Nat.le_of_eq (hidT_size _ _), funs := trivial, frf := fun b hb => (by cases hb), hok := hok, bare := .of_eq hg }
    refine codeAny_mono ((F _ kin (space hns)).run callerA [] s₁ H ⟨[.ref a], []⟩ [.ref a] [.ref a] _ _ rfl hr env (hbind s₁ (.ref a)) (.cons rfl .nil) (hsp H hO hS)) fun r s' out => ?_
    match r, out with
    | .error e, out => exact (show False from out).elim
    | .ok .next, out => exact (show False from out).elim
    | .ok .brk, out => exact (show False from out).elim
    | .ok .cont, out => exact (show False from out).elim
    | .ok (.ret u), ⟨v, H', os, bare, un, hok', r', q⟩ =>
      obtain rfl : v = .bl true := q
      obtain rfl : u = Value.bool true := r'
      refine ⟨rfl, OldK.of_keep fun b o e => ?_, os, bare⟩
      by_cases hb : b = a
      · subst hb
        rcases hO b with z | ⟨ob, xs, z⟩
        · exact un.keep b o e z (by intro z; cases z) (by intro z; cases z)
        · have f1 := (hok b _ z).1
          have f2 := (hok' b _ (un.frzs b ob _ z)).1
          rw [e] at f1
          cases f1
          exact f2
      · exact un.keep b o e (away hb) (by intro z; cases z) (by intro z; cases z)
  cases hk : K.lookup a with
  | some o =>
    have e := KX a o hk
    rw [ha] at e
    cases e
    exact main (fun _ => none) (fun _ => .inl rfl) (.inr ⟨_, vs.toArray, _, hk, rfl, rfl, rfl, by rw [List.size_toArray, hi.length]; exact hl, by simpa using rv⟩) (fun b u z => by cases (show (none : Option HO) = some u from z)) fun b z => absurd rfl z
  | none =>
    let o : Obj := { cls := .type "list", data := .seq vs.toArray }
    refine main (fun b => if b = a then some (.frz o (.lst (ns.map V.int))) else none) (fun b => ?_) (.inl (.inr ⟨o, if_pos rfl⟩)) (fun b u z => ?_) fun b z => ?_
    · by_cases hb : b = a
      · exact .inr ⟨_, _, if_pos hb⟩
      · exact .inl (if_neg hb)
    · by_cases hb : b = a
      · have e1 : some (HO.frz o (.lst (ns.map V.int))) = some u := (if_pos hb).symm.trans z
        cases e1
        subst hb
        exact ⟨ha, (by rw [List.length_map]; exact hl), vs, _, rv, ha⟩
      · cases (show (none : Option HO) = some u from (if_neg hb).symm.trans z)
    · by_cases hb : b = a
      · exact ⟨hb, hk⟩
      · exact absurd (if_neg hb) z
theorem walk_ofG {l : PySem.W.OpenLaw} {n k : Nat} {q : Program} {loose : List Str} {XP : (Str → Option Value) → Heap → Prop} {YP : World → Heap → Prop} {d : DefRec} {K : Params → PySem.W.Frag} {sp : World → Sp} {x : Str} (hn : l.most = some n) (hn2 : n ≤ sizeLine) (hdf : d.params.defaults = []) (hr : Room k callerA)
    (hY : ∀ (w : World) (h : Heap), YP w h → (K w.params).In h) (F : ∀ (w : World) (mg : Str → Option Value) (fa : Addr) (h : Heap), (K w.params).In h → h.Ns mainGlobals mg → mg d.name = some (.ref fa) → ∃ fd : FuncData, (∀ (s : Shared) (u : Value), BindsTo s fd ⟨[u], []⟩ [(x, u)]) ∧
      ∀ base : Heap, (K w.params).In base → base.Ns mainGlobals mg → FnG l.prog w (K w.params) mg base CX0 k fa fd [x] (sp w))
    (hsp : ∀ (w : World) (H : Hp) (a : Addr) (ns : List Int), ns.length ≤ n → (∀ z ∈ ns, Builtin.Int.intBits z ≤ 1048576) → Only H → SqL (K w.params) H a (ns.map V.int) → sp w [.ref a] H (fun v _ => v = .bl true) fun _ _ _ => False) : PySem.W.WalkO q loose XP YP l.row.toRowW d [] (fun f vs => PySem.call f vs) := by
  refine Att.attach_callB hn hdf fun w s₀ s₁ mg mb fa o pm cd doc a vs ns G Y ho hd hcd hmg hobj hints hlen hbits hg => ?_
  obtain ⟨fd, hb, hF⟩ := F w mg fa _ (hY w _ Y) G.T.g hmg
  exact law_callG (hY w _ Y) G.T.g G.T.b G.T.builtins G.T.nolimit hg hobj hints (Nat.le_trans hlen hn2) hr hF hb fun H hO hS => hsp w H a ns hlen hbits hO hS
/-! ### repr of data -/
mutual
theorem dp_nodict {K : PySem.W.Frag} {H : Hp} : ∀ (d : D) (v : V), Dp K H v d → d.hasDict = false
  | .none, _, _ => by simp only [PyData.hasDict]
  | .bool _, _, _ => by simp only [PyData.hasDict]
  | .int _, _, _ => by simp only [PyData.hasDict]
  | .str _, _, _ => by simp only [PyData.hasDict]
  | .list ds, _, h => by
    cases h with
    | lst hs ha => simp only [PyData.hasDict]; exact dps_nodict ds _ ha
  | .tuple ds, _, h => by
    cases h with
    | tup hs ha => simp only [PyData.hasDict]; exact dps_nodict ds _ ha
  | .dict _, _, h => by cases h
theorem dps_nodict {K : PySem.W.Frag} {H : Hp} : ∀ (ds : List D) (vs : List V), DpAll K H vs ds → PyData.hasDictAll ds = false
  | [], _, _ => by simp only [PyData.hasDictAll]
  | d :: ds, _, h => by
    cases h with
    | cons h1 h2 => simp only [PyData.hasDictAll, dp_nodict d _ h1, dps_nodict ds _ h2, Bool.or_self]
end
def rReprD (K : PySem.W.Frag) : List V → Hp → VK → Prop := fun xs H Q => ∃ x d, xs = [x] ∧ Dp K H x d ∧ d.showable = true ∧ d.depth ≤ 60 ∧ d.shown.length ≤ 1000000 ∧ Q (.str d.shown) H
theorem call_reprD {X : Cx} (ga : Bare0 X.A) (hu : X.A.units + 64 < cLine) : CallR X (.builtin "repr") (rReprD X.K) := by
  intro pins s σ H xs us Q I r h
  obtain ⟨x, d, rfl, hd, h1, h2, h3, q⟩ := h
  cases r with
  | cons rv rn =>
    cases rn
    rename_i u
    have big : (1000000 : Nat) ≤ sizeLine := by decide
    have fin : ∀ h' tk t, (∀ b o, s.heap.get? b = some o → h'.get? b = some o) → EP X pins σ Q (.str d.shown t) { s with heap := h', toks := tk } := fun h' tk t k => ⟨.str d.shown, H, I.kept (t' := tk) k, ⟨t, rfl⟩, q⟩
    cases hd with
    | non =>
      obtain rfl : u = Value.none := rv
      exact P.repr_of_none (fin _ _ _ fun _ _ e => e)
    | bl b =>
      obtain rfl : u = Value.bool b := rv
      exact P.repr_of_bool (by cases b <;> exact fin _ _ _ fun _ _ e => e)
    | int i =>
      obtain ⟨t, rfl⟩ := rv
      exact P.repr_of_int (by simpa [PyData.showable] using h1) (fin _ _ _ fun _ _ e => e)
    | str z =>
      obtain ⟨t, rfl⟩ := rv
      exact P.repr_of_str (fin _ _ _ fun _ _ e => e) (Nat.le_trans h3 big)
    | lst hs ha =>
      rename_i a vs ds
      obtain rfl : u = Value.ref a := rv
      obtain ⟨as, rd⟩ := Dp.reads I (.list ds) (.ref a) (.ref a) (.lst hs ha) rfl
      exact repr_of_reads' rd h1 (PyData.noDict_hsm (dp_nodict _ _ (.lst hs ha))) ga (by omega) (fun _ _ e => e) (fun h' t tk k => fin h' tk t k) (Nat.le_trans h3 big)
    | tup hs ha =>
      rename_i a vs ds
      obtain rfl : u = Value.ref a := rv
      obtain ⟨as, rd⟩ := Dp.reads I (.tuple ds) (.ref a) (.ref a) (.tup hs ha) rfl
      exact repr_of_reads' rd h1 (PyData.noDict_hsm (dp_nodict _ _ (.tup hs ha))) ga (by omega) (fun _ _ e => e) (fun h' t tk k => fin h' tk t k) (Nat.le_trans h3 big)
theorem cd_repr {K : PySem.W.Frag} {x : D} (h1 : x.showable = true) (h2 : x.depth ≤ 60) (h3 : x.shown.length ≤ 1000000) : CD K (rReprD K) [x] (.str x.shown) := fun B H vs e h Q q => by
  cases h with
  | cons r rn =>
    cases rn
    exact ⟨_, x, rfl, dp_up e _ _ r, h1, h2, h3, q _ B H (.refl e) (.str _)⟩
/-! ### an own error without arguments -/
theorem pmk_own0 {X : Cx} {C : Addr} {bmB : List Value} {B newId initId : String} {x : Str} {p pos : Pos} (F : ExcBaseFacts B newId initId bmB) (q : PySem.W.excIn X.K C bmB newId = true) (gC : X.mg x = some (.ref C)) (kC : PySem.W.keepIn X.K (.ref C) = true)
    (r : Raises X (.ref C)) (hg : Gl X x) (hdb : (x == ("__debug__" : Str)) = false := by decide) : PMk X (.Call (.Name x p) [] [] pos) (fun _ H Q => Q (.ref C) none H) := by
  intro pins s σ H Q I h
  refine wpAny_Call_Name_kw (ld_glob I hg gC (PySem.W.callWith_K0 I.kIn kC ?_) hdb)
  obtain ⟨bm, N, nm, qn, bs, hdct, sn, sub, ab, col, dd, k0, k1, k2, k3, k5, mN, hC, hN, hni, T⟩ := exc_obj I.kIn q
  exact wpAny_call_exc_subT F T hC hN hni (fun h' e hm => mk_of I hm r h (I.hok.gone hm.new)) (Nat.zero_le _)
end Co
namespace Co
open PySem PySem.Spec PyProof.Rows L2
section
variable {K : PySem.W.Frag}
/-! ### readings step by step, whatever the heap does -/
section
variable {σ : L2.St} {H : Hp} {Q : VK} {Dn : Ends} {ta tb te tc : TE} {t u : TS} {c : TT} {r r' : R2} {g : TG} {tr : TA}
theorem w_seq (h : t { Dn with nx := u Dn } σ H) : tSeq t u Dn σ H := h
theorem w_next (h : Dn.nx σ H) : tNext Dn σ H := h
theorem w_asg (h : te σ H fun x H1 => g x σ H1 Dn.nx) : tAsg te g Dn σ H := h
theorem w_set {i : Nat} {v : V} (h : Dn.nx (σ.set i (some v)) H) : gName i v σ H Dn.nx := h
theorem w_ret (h : te σ H Dn.rt) : tRet te Dn σ H := h
theorem w_drop (h : te σ H fun _ H1 => Dn.nx σ H1) : tDrop te Dn σ H := h
theorem w_if (h : c σ H fun b H1 => if b = true then t Dn σ H1 else u Dn σ H1) : tIfS c t u Dn σ H := h
theorem w_test {Q : Bool → Hp → Prop} (h : te σ H fun x H' => ∃ k, x = .bl k ∧ Q k H') : tTest te σ H Q := h
theorem w_B {Q : Bool → Hp → Prop} (h : te σ H fun x H' => ∃ k, x = .bl k ∧ Q k H') : tB te σ H Q := h
theorem w_op (h : ta σ H fun x H1 => tb σ H1 fun y H2 => r x y H2 Q) : tOp r ta tb σ H Q := h
theorem w_var {i : Nat} {v : V} (h : σ[i]? = some (some v)) (q : Q v H) : tVar i σ H Q := ⟨v, h, q⟩
theorem w_c {v : V} (q : Q v H) : tC v σ H Q := q
theorem w_cb {r : List V → Hp → VK → Prop} (h : tr σ H fun vs H1 => r vs H1 Q) : tCB r tr σ H Q := h
theorem w_cons {Q : List V → Hp → Prop} (h : ta σ H fun x H1 => tr σ H1 fun xs H2 => Q (x :: xs) H2) : tCons ta tr σ H Q := h
theorem w_nil {Q : List V → Hp → Prop} (h : Q [] H) : tNil σ H Q := h
theorem w_call {sp : Sp} {dvs : List V} {E : XK} (h : tr σ H fun vs H1 => sp (vs ++ dvs) H1 Q E) : tCall sp dvs E tr σ H Q := h
theorem w_ix {K : PySem.W.Frag} {m : Addr} {xs : List V} {j : Int} {v : V} (hm : H m = some (.lst xs)) (hx : atI xs j = some v) (q : Q v H) : rIx K (.ref m) (.int j) H Q := .inl ⟨m, xs, j, v, rfl, rfl, SqL.of hm, hx, q⟩
/-- m[j], m a list at slot i -/
theorem w_at {K : PySem.W.Frag} {i : Nat} {m : Addr} {xs : List V} {j : Int} {v : V} (hs : σ[i]? = some (some (.ref m))) (hm : H m = some (.lst xs)) (hx : atI xs j = some v) (q : Q v H) : tOp (rIx K) (tVar i) (tC (.int j)) σ H Q := w_op (w_var hs (w_c (w_ix hm hx q)))
theorem w_I0 {f : Int → Int → V} {i j : Int} (q : Q (f i j) H) : rI0 f (.int i) (.int j) H Q := ⟨i, j, rfl, rfl, q⟩
theorem w_I {C : Int → Int → Prop} {f : Int → Int → V} {i j : Int} (h : C i j) (q : Q (f i j) H) : rI C f (.int i) (.int j) H Q := ⟨i, j, rfl, rfl, h, q⟩
theorem w_add {K : PySem.W.Frag} {i j : Int} (q : Q (.int (i + j)) H) : rAddA K (.int i) (.int j) H Q := .inl ⟨i, j, rfl, rfl, q⟩
theorem w_int {i : Int} (q : Q (.int i) H) : rInt1 [.int i] H Q := .inl ⟨i, rfl, q⟩
theorem w_bl {k : Bool} {Q : Bool → Hp → Prop} (q : Q k H) : ∃ k', V.bl k = .bl k' ∧ Q k' H := ⟨k, rfl, q⟩
/-- m[j] = v, m a list at slot i -/
theorem w_put {N : L2.St → Hp → Prop} {i : Nat} {m : Addr} {xs : List V} {j : Int} {n : Nat} {v : V} (hs : σ[i]? = some (some (.ref m))) (hm : H m = some (.lst xs)) (hj : ixN xs.length j = some n) (q : N σ (upd H m (.lst (xs.set n v)))) :
    gSub (tVar i) (tC (.int j)) rSetL v σ H N := ⟨_, hs, m, xs, j, n, rfl, rfl, hm, hj, q⟩
end
/-- a bag: the script's ints (a list at p), the place, the rest, the count, the seed -/
structure BS where
  p : Addr
  ns : List Int
  i : Int
  g : Int
  c : Int
  s : Int
def mix1 (s c z : Int) : Int := (s * 48271 + z % 2147483629 * 69621 + c * 7919 + 11) % 2147483647
def mix2 (m c : Int) : Int := (m * 16807 + c * c * 104729 + m / 65536) % 998244353
def absI (z : Int) : Int := if z < 0 then -z else z
/-- a draw and the bag behind it -/
def drw (b : BS) (lim : Int) : Int × BS :=
  if 0 < b.g then (b.g % lim, { b with g := b.g / lim, c := b.c + 1 })
  else if b.i < b.ns.length then
    if 10 ^ 18 ≤ absI (b.ns.getD b.i.toNat 0) then (absI (b.ns.getD b.i.toNat 0) % lim, { b with i := b.i + 1, g := absI (b.ns.getD b.i.toNat 0) / lim, c := b.c + 1 })
    else (mix2 (mix1 b.s (b.c + 1) (b.ns.getD b.i.toNat 0)) (b.c + 1) / 7 % lim, { b with i := b.i + 1, c := b.c + 1, s := mix1 b.s (b.c + 1) (b.ns.getD b.i.toNat 0) })
  else (mix2 (mix1 b.s (b.c + 1) (b.c + 1)) (b.c + 1) / 7 % lim, { b with c := b.c + 1, s := mix1 b.s (b.c + 1) (b.c + 1) })
abbrev dv (b : BS) (lim : Int) : Int := (drw b lim).1
abbrev db (b : BS) (lim : Int) : BS := (drw b lim).2
theorem draw_range {b : BS} {lim : Int} (h : 1 ≤ lim) : 0 ≤ dv b lim ∧ dv b lim < lim := by
  have h0 : ∀ x : Int, 0 ≤ x % lim ∧ x % lim < lim := fun x => ⟨Int.emod_nonneg _ (by omega), Int.emod_lt_of_pos _ (by omega)⟩
  unfold dv drw
  split
  · exact h0 _
  · split
    · split <;> exact h0 _
    · exact h0 _
/-- the bag b at m; n more draws may be made -/
structure BagAt (K : PySem.W.Frag) (B H : Hp) (m : Addr) (b : BS) (n : Nat) : Prop where
  nb : B m = none
  at' : H m = some (.lst [.ref b.p, .int b.i, .int b.g, .int b.c, .int b.s])
  ls : SqL K B b.p (b.ns.map V.int)
  bits : ∀ z ∈ b.ns, Builtin.Int.intBits z ≤ 1048576
  i0 : 0 ≤ b.i
  g0 : 0 ≤ b.g
  c0 : 0 ≤ b.c
  cn : b.c + n ≤ 1000000000
  s0 : 0 ≤ b.s
  s1 : b.s < 2147483647
theorem BagAt.less {B H : Hp} {m : Addr} {b : BS} {n k : Nat} (x : BagAt K B H m b n) (h : k ≤ n) : BagAt K B H m b k :=
  ⟨x.nb, x.at', x.ls, x.bits, x.i0, x.g0, x.c0, by have := x.cn; omega, x.s0, x.s1⟩
theorem BagAt.up {B H B' H' : Hp} {m : Addr} {b : BS} {n : Nat} (x : BagAt K B H m b n) (g : Gw B H B' H') : BagAt K B' H' m b n :=
  ⟨g.f m x.nb (by rw [x.at']; intro z; cases z), g.same _ _ x.at', g.b.seq x.ls, x.bits, x.i0, x.g0, x.c0, x.cn, x.s0, x.s1⟩
/-- a draw -/
def spDraw (K : PySem.W.Frag) : Sp := fun vs H Q _ => ∃ (B : Hp) (m : Addr) (b : BS) (n : Nat) (lim : Int), vs = [.ref m, .int lim] ∧ Same B H ∧ BagAt K B H m b (n + 1) ∧ 1 ≤ lim ∧ lim ≤ 10 ^ 30 ∧
  ∀ H', Gm (· = m) B H B H' → BagAt K B H' m (db b lim) n → Q (.int (dv b lim)) H'
/-- the bag's making -/
def spBag (K : PySem.W.Frag) : Sp := fun vs H Q _ => ∃ (B : Hp) (a : Addr) (ns : List Int), vs = [.ref a] ∧ Same B H ∧ SqL K B a (ns.map V.int) ∧ ns.length ≤ 63 ∧ (∀ z ∈ ns, Builtin.Int.intBits z ≤ 1048576) ∧
  ∀ m b B' H', Gw B H B' H' → BagAt K B' H' m b 900000000 → Q (.ref m) H'
theorem ten30 : (10 : Int) ^ 30 = 1000000000000000000000000000000 := by decide
theorem lim_wide {lim : Int} (h1 : 1 ≤ lim) (h2 : lim ≤ 10 ^ 30) : CDivW 0 lim := by
  rw [ten30] at h2
  refine wide_div (b := 100) (by omega) ?_ (by decide) (by decide)
  have : (2 : Nat) ^ 100 = 1267650600228229401496703205376 := by decide
  rw [this]
  omega
/-- one more write at m -/
theorem Gm.put {B H B' H' : Hp} {m : Addr} {o : HO} (g : Gm (· = m) B H B' H') (nb : B' m = none) : Gm (· = m) B H B' (upd H' m o) where
  b := g.b
  i := fun a u q => by rw [upd_ne (ne_of_none q nb)]; exact g.i a u q
  r := fun a u n q => by rw [upd_ne n]; exact g.r a u n q
  f := g.f
/-- m[j] = v where the heap is known by g -/
theorem w_putG {σ : L2.St} {N : L2.St → Hp → Prop} {B H B' H' : Hp} {i : Nat} {m : Addr} {xs ys : List V} {j : Int} {n : Nat} {v : V} (g : Gm (· = m) B H B' H') (nb : B' m = none) (hs : σ[i]? = some (some (.ref m))) (hm : H' m = some (.lst xs)) (hj : ixN xs.length j = some n) (hy : xs.set n v = ys)
    (q : ∀ H2, Gm (· = m) B H B' H2 → H2 m = some (.lst ys) → N σ H2) : gSub (tVar i) (tC (.int j)) rSetL v σ H' N := w_put hs hm hj (by rw [hy]; exact q _ (g.put nb) upd_same)
/-- many writes at m -/
theorem gm_puts {B H : Hp} {m : Addr} {o : HO} (e : Same B H) (nb : B m = none) : Gm (· = m) B H B (upd H m o) := Gm.mut e nb
end
end Co
namespace Co
open PySem PySem.Spec PyProof.Rows L2
section
variable {K : PySem.W.Frag}
/-- a def that is a function of data, where it is one -/
def spF (K : PySem.W.Frag) (F : List D → Option D) : Sp := fun vs H Q _ => ∃ (B : Hp) (ds : List D) (d : D), Same B H ∧ DpAll K B vs ds ∧ F ds = some d ∧ ∀ v B' H', Gw B H B' H' → Dp K B' v d → Q v H'
theorem pd_of {F : List D → Option D} {ds : List D} {d : D} (h : F ds = some d) : PD K (spF K F) ds d := fun B H vs e r Q E q => ⟨B, ds, d, e, r, h, q⟩
/-- a def that gives data in such a relation to its arguments' data -/
def spR (K : PySem.W.Frag) (R : List D → D → Prop) : Sp := fun vs H Q _ => ∃ (B : Hp) (ds : List D) (d : D), Same B H ∧ DpAll K B vs ds ∧ R ds d ∧ ∀ v B' H', Gw B H B' H' → Dp K B' v d → Q v H'
theorem pd_ofR {R : List D → D → Prop} {ds : List D} {d : D} (h : R ds d) : PD K (spR K R) ds d := fun B H vs e r Q E q => ⟨B, ds, d, e, r, h, q⟩
theorem spR_len {R : List D → D → Prop} {n : Nat} (hF : ∀ ds d, R ds d → ds.length = n) {vs : List V} {H : Hp} {Q : VK} {E : XK} (h : spR K R vs H Q E) : vs.length = n := by
  obtain ⟨B, ds, d, _, r, e, _⟩ := h
  rw [dpall_len r]
  exact hF ds d e
theorem dpall3 {B : Hp} {vs : List V} {a b c : D} (h : DpAll K B vs [a, b, c]) : ∃ x y z, vs = [x, y, z] ∧ Dp K B x a ∧ Dp K B y b ∧ Dp K B z c := by
  cases h with | cons h1 h => cases h with | cons h2 h => cases h with | cons h3 h => cases h; exact ⟨_, _, _, rfl, h1, h2, h3⟩
theorem dpall2 {B : Hp} {vs : List V} {a b : D} (h : DpAll K B vs [a, b]) : ∃ x y, vs = [x, y] ∧ Dp K B x a ∧ Dp K B y b := by
  cases h with | cons h1 h => cases h with | cons h2 h => cases h; exact ⟨_, _, rfl, h1, h2⟩
theorem dpall1 {B : Hp} {vs : List V} {a : D} (h : DpAll K B vs [a]) : ∃ x, vs = [x] ∧ Dp K B x a := by
  cases h with | cons h1 h => cases h; exact ⟨_, rfl, h1⟩
theorem spF_len {F : List D → Option D} {n : Nat} (hF : ∀ ds d, F ds = some d → ds.length = n) {vs : List V} {H : Hp} {Q : VK} {E : XK} (h : spF K F vs H Q E) : vs.length = n := by
  obtain ⟨B, ds, d, _, r, e, _⟩ := h
  rw [dpall_len r]
  exact hF ds d e
section
variable {σ : L2.St} {B H : Hp} {ta tb : TE} {tt uu : TT} {b : Bool} {d : D}
theorem skip_or {a : Bool} (h : a = true) : a = false → DE K tb σ B (.bool false) := fun z => by rw [h] at z; cases z
theorem skip_and {a : Bool} (h : a = false) : a = true → DE K tb σ B (.bool false) := fun z => by rw [h] at z; cases z
theorem tskip_or {a : Bool} (h : a = true) : a = false → DT uu σ B false := fun z => by rw [h] at z; cases z
theorem tskip_and {a : Bool} (h : a = false) : a = true → DT uu σ B false := fun z => by rw [h] at z; cases z
theorem isi_int {x : D} (h : DE K ta σ B x) : DE K (tCB (rIsi K) (tCons ta (tCons (tC (.ty "int")) tNil))) σ B (.bool (isA x .int)) := de_isi .int h
theorem isi_bool {x : D} (h : DE K ta σ B x) : DE K (tCB (rIsi K) (tCons ta (tCons (tC (.ty "bool")) tNil))) σ B (.bool (isA x .bool)) := de_isi .bool h
theorem isi_str {x : D} (h : DE K ta σ B x) : DE K (tCB (rIsi K) (tCons ta (tCons (tC (.ty "str")) tNil))) σ B (.bool (isA x .str)) := de_isi .str h
theorem isi_list {x : D} (h : DE K ta σ B x) : DE K (tCB (rIsi K) (tCons ta (tCons (tC (.ty "list")) tNil))) σ B (.bool (isA x .list)) := de_isi .list h
theorem isi_tuple {x : D} (h : DE K ta σ B x) : DE K (tCB (rIsi K) (tCons ta (tCons (tC (.ty "tuple")) tNil))) σ B (.bool (isA x .tuple)) := de_isi .tuple h
theorem isi_lt {x : D} (h : DE K ta σ B x) : DE K (tCB (rIsiT K) (tCons ta (tCons (tTup (tCons (tC (.ty "list")) (tCons (tC (.ty "tuple")) tNil))) tNil))) σ B (.bool (isA x .list || isA x .tuple)) := de_isiT .list .tuple h
theorem dp_g {M : Addr → Prop} {B H B' H' : Hp} {v : V} {d : D} (g : Gm M B H B' H') (h : Dp K B v d) : Dp K B' v d := dp_up g.b _ _ h
theorem sm_g {M : Addr → Prop} {B H B' H' : Hp} (g : Gm M B H B' H') : Same B' H' := g.i
/-- statements: the heap's base first -/
theorem s_ret {rt : VK} {nx : L2.St → Hp → Prop} {bk ct : L2.St → Hp → Prop} {d' : D} (e : Same B H) (h : DE K ta σ B d) (k : ∀ v B' H', Gw B H B' H' → Dp K B' v d' → rt v H') (q : d = d') : tRet ta ⟨nx, rt, bk, ct⟩ σ H := by
  subst q
  exact st_ret h e k
theorem s_if {Dn : Ends} {t u : TS} {b : Bool} (e : Same B H) (h : DT tt σ B b) (k1 : b = true → ∀ B' H', Gw B H B' H' → t Dn σ H') (k2 : b = false → ∀ B' H', Gw B H B' H' → u Dn σ H') : tIfS tt t u Dn σ H := st_if h e k1 k2
theorem s_asg {nx : L2.St → Hp → Prop} {rt : VK} {bk ct : L2.St → Hp → Prop} {i : Nat} (e : Same B H) (h : DE K ta σ B d) (k : ∀ v B' H', Gw B H B' H' → Dp K B' v d → nx (σ.set i (some v)) H') : tAsg ta (gName i) ⟨nx, rt, bk, ct⟩ σ H := st_asg h e k
theorem s_drop {nx : L2.St → Hp → Prop} {rt : VK} {bk ct : L2.St → Hp → Prop} (e : Same B H) (h : DE K ta σ B d) (k : ∀ B' H', Gw B H B' H' → nx σ H') : tDrop ta ⟨nx, rt, bk, ct⟩ σ H := st_drop h e k
end
/-! ### loops backwards and over two things, lists of one's own -/
theorem st_rev {σ : L2.St} {B H : Hp} {te : TE} {x : D} {ds : List D} {j : Nat} {t : TS} {Dn : Ends} (h : DE K te σ B x) (sd : SeqD x ds) (e : Same B H)
    (k : ∀ B1 H1, Gw B H B1 H1 → ∃ P : Nat → L2.St → Hp → Prop, P 0 σ H1 ∧ (∀ i σ' H', P i σ' H' → Same B1 H') ∧
      (∀ i d v σ' H', ds.reverse[i]? = some d → Dp K B1 v d → P i σ' H' → t { Dn with nx := P (i + 1), ct := P (i + 1), bk := Dn.nx } (σ'.set j (some v)) H') ∧ (∀ σ' H', P ds.length σ' H' → Dn.nx σ' H')) :
    tFor (RT.iRevA K te) (gName j) t Dn σ H := h H e _ fun v B1 H1 g1 r1 => by
  obtain ⟨P, p0, ps, pt, pd⟩ := k B1 H1 g1
  have go : ∀ {vs : List V}, DpAll K B1 vs ds → ∀ i, i < vs.length → ∃ w d, vs[vs.length - 1 - i]? = some w ∧ ds.reverse[i]? = some d ∧ Dp K B1 w d := fun {vs} ha i hi => by
    have el := dpall_len ha
    obtain ⟨d, hd⟩ : ∃ d, ds[vs.length - 1 - i]? = some d := ⟨_, List.getElem?_eq_getElem (by omega)⟩
    obtain ⟨w, e1, e2⟩ := dpall_get ha hd
    refine ⟨w, d, e1, ?_, e2⟩
    rw [List.getElem?_reverse (by omega), ← el]
    exact hd
  cases sd with
  | l ds =>
    cases r1 with
    | lst hs ha =>
      rename_i a vs
      refine ⟨a, vs, rfl, .inl ⟨g1.i.seq hs, fun i m σ' H' => m = vs.length - i ∧ i ≤ vs.length ∧ P i σ' H', ⟨_, rfl, Nat.zero_le _, p0⟩, ?_⟩⟩
      rintro i m σ' H' ⟨rfl, hi, p⟩
      by_cases hlt : i < vs.length
      · obtain ⟨w, d, e1, e2, e3⟩ := go ha i hlt
        refine .inr ⟨⟨hlt, vs, w, (ps i σ' H' p).seq hs, e1⟩, P (i + 1), fun σ2 H2 p2 => ⟨vs.length - (i + 1), by omega, rfl, hlt, p2⟩, fun y H2 hy => ?_⟩
        obtain ⟨rfl, hy⟩ := hy
        have q := hy vs ((ps i σ' _ p).seq hs)
        rw [e1] at q
        cases q
        exact pt i d w σ' _ e2 e3 p
      · have z : i = vs.length := by omega
        subst z
        rw [dpall_len ha] at p
        exact .inl ⟨Nat.le_refl _, pd σ' H' p⟩
  | t ds =>
    cases r1 with
    | tup hs ha =>
      rename_i a vs
      refine ⟨a, vs, rfl, .inr ⟨seqT_up g1.i hs, fun i m σ' H' => m = vs.length - i ∧ i ≤ vs.length ∧ P i σ' H', ⟨_, rfl, Nat.zero_le _, p0⟩, ?_⟩⟩
      rintro i m σ' H' ⟨rfl, hi, p⟩
      by_cases hlt : i < vs.length
      · obtain ⟨w, d, e1, e2, e3⟩ := go ha i hlt
        refine .inr ⟨⟨hlt, vs, w, seqT_up (ps i σ' H' p) hs, e1⟩, P (i + 1), fun σ2 H2 p2 => ⟨vs.length - (i + 1), by omega, rfl, hlt, p2⟩, fun y H2 hy => ?_⟩
        obtain ⟨rfl, hy⟩ := hy
        have q := hy vs (seqT_up (ps i σ' _ p) hs)
        rw [e1] at q
        cases q
        exact pt i d w σ' _ e2 e3 p
      · have z : i = vs.length := by omega
        subst z
        rw [dpall_len ha] at p
        exact .inl ⟨Nat.le_refl _, pd σ' H' p⟩
theorem sqB_of {B : Hp} {v : V} {x : D} {ds : List D} (r : Dp K B v x) (sd : SeqD x ds) : ∃ a vs k, v = .ref a ∧ DpAll K B vs ds ∧ SqB K k B a vs := by
  cases sd with
  | l ds => cases r with | lst hs ha => exact ⟨_, _, true, rfl, ha, hs⟩
  | t ds => cases r with | tup hs ha => exact ⟨_, _, false, rfl, ha, hs⟩
theorem st_zip {σ : L2.St} {B H : Hp} {ta : TA} {x y : D} {xs ys : List D} {i j : Nat} {t : TS} {Dn : Ends} (h : DA K ta σ B [x, y]) (sx : SeqD x xs) (sy : SeqD y ys) (hl : xs.length = ys.length) (e : Same B H)
    (k : ∀ B1 H1, Gw B H B1 H1 → ∃ P : Nat → L2.St → Hp → Prop, P 0 σ H1 ∧ (∀ i σ' H', P i σ' H' → Same B1 H') ∧
      (∀ n d1 d2 v1 v2 σ' H' H2, xs[n]? = some d1 → ys[n]? = some d2 → Dp K B1 v1 d1 → Dp K B1 v2 d2 → P n σ' H' → (∀ B', Same B' H' → Gw B' H' B' H2) → t { Dn with nx := P (n + 1), ct := P (n + 1), bk := Dn.nx } ((σ'.set i (some v1)).set j (some v2)) H2) ∧
      (∀ σ' H', P xs.length σ' H' → Dn.nx σ' H')) : tFor (iZipG K ta) (gTup K 2 (gCons (gName i) (gCons (gName j) gNil))) t Dn σ H := h H e _ fun vs B1 H1 g1 r1 => by
  obtain ⟨P, p0, ps, pt, pd⟩ := k B1 H1 g1
  obtain ⟨u1, u2, rfl, d1, d2⟩ := dpall2 r1
  obtain ⟨a, us, ka, rfl, ha, sa⟩ := sqB_of d1 sx
  obtain ⟨b, ws, kb, rfl, hb, sb⟩ := sqB_of d2 sy
  have l1 := dpall_len ha
  have l2 := dpall_len hb
  refine ⟨a, b, us, ws, ka, kb, rfl, sa.up g1.i, sb.up g1.i, fun n m σ' H' => m = us.length - n ∧ n ≤ us.length ∧ P n σ' H', ⟨_, rfl, Nat.zero_le _, p0⟩, ?_⟩
  rintro n m σ' H' ⟨rfl, hn, p⟩
  have q1 := sa.up (ps n σ' H' p)
  have q2 := sb.up (ps n σ' H' p)
  by_cases hlt : n < us.length
  · have x1 : us[n]? = some us[n] := List.getElem?_eq_getElem hlt
    have x2 : ws[n]? = some ws[n] := List.getElem?_eq_getElem (by omega)
    refine .inr ⟨⟨us, ws, _, _, q1, q2, x1, x2⟩, P (n + 1), fun σ2 H2 p2 => ⟨us.length - (n + 1), by omega, rfl, hlt, p2⟩, fun v H2 hv => ?_⟩
    obtain ⟨T, y1, y2, rfl, hT, rfl, f1, f2⟩ := hv
    have z1 := f1 us q1
    have z2 := f2 ws q2
    rw [x1] at z1
    rw [x2] at z2
    cases z1
    cases z2
    have e1 : xs[n]? = some xs[n] := List.getElem?_eq_getElem (by omega)
    have e2 : ys[n]? = some ys[n] := List.getElem?_eq_getElem (by omega)
    obtain ⟨w1, c1, c2⟩ := dpall_get ha e1
    obtain ⟨w2, c3, c4⟩ := dpall_get hb e2
    rw [x1] at c1
    rw [x2] at c3
    cases c1
    cases c3
    exact ⟨T, [us[n], ws[n]], rfl, SqT.of upd_same, rfl, _, _, rfl, _, _, rfl, rfl, pt n _ _ _ _ σ' H' _ e1 e2 c2 c4 p fun B' s => Gw.own s hT⟩
  · have z : n = us.length := by omega
    subst z
    refine .inl ⟨⟨us, ws, q1, q2, Nat.le_refl _, by omega, .inl rfl⟩, ?_⟩
    rw [l1] at p
    exact pd σ' H' p
/-- p.append(e), p a list that is not of the base -/
theorem s_app {σ : L2.St} {B H : Hp} {te : TE} {d : D} {i : Nat} {p : Addr} {vs : List V} {nx : L2.St → Hp → Prop} {rt : VK} {bk ct : L2.St → Hp → Prop} (e : Same B H) (hs : σ[i]? = some (some (.ref p))) (nb : B p = none) (hp : H p = some (.lst vs)) (hz : vs.length < 100000) (h : DE K te σ B d)
    (k : ∀ v B' H', Gm (· = p) B H B' H' → B' p = none → H' p = some (.lst (vs ++ [v])) → Dp K B' v d → nx σ H') : tDrop (tBM K "list" rAppend (tVar i) (tCons te tNil)) ⟨nx, rt, bk, ct⟩ σ H :=
  ⟨_, hs, .inl ⟨rfl, _, SqL.of hp⟩, h H e _ fun v B1 H1 g1 r1 => ⟨p, vs, v, rfl, rfl, g1.same _ _ hp, Nat.lt_of_lt_of_le hz (by decide), by
    have n1 : B1 p = none := g1.f p nb (by rw [hp]; intro z; cases z)
    refine k v B1 _ ?_ n1 upd_same r1
    exact (g1.weak fun _ z => z.elim).put n1⟩⟩
theorem Gm.close {B H B' H' : Hp} {p : Addr} (g : Gm (· = p) B H B' H') (h : H p = none) : Gw B H B' H' := ⟨g.b, g.i, fun a o _ q => g.r a o (fun z => by rw [z, h] at q; cases q) q, g.f⟩
theorem Gm.thn {B H B1 H1 B2 H2 : Hp} {p : Addr} (g : Gm (· = p) B H B1 H1) (g' : Gm (· = p) B1 H1 B2 H2) (h : H1 p ≠ none) : Gm (· = p) B H B2 H2 := Gm.trans g g' fun a z _ => by rw [z]; exact h
theorem Gm.thw {B H B1 H1 B2 H2 : Hp} {p : Addr} (g : Gm (· = p) B H B1 H1) (g' : Gw B1 H1 B2 H2) (h : H1 p ≠ none) : Gm (· = p) B H B2 H2 := g.thn (g'.weak fun _ z => z.elim) h
theorem Gm.wth {B H B1 H1 B2 H2 : Hp} {p : Addr} (g : Gw B H B1 H1) (g' : Gm (· = p) B1 H1 B2 H2) (h : H1 p ≠ none) : Gm (· = p) B H B2 H2 := (g.weak fun _ z => z.elim).thn g' h
theorem ne_none {H : Hp} {p : Addr} {o : HO} (h : H p = some o) : H p ≠ none := by rw [h]; intro z; cases z
theorem dpallI_of {B : Hp} {vs : List V} {ns : List Int} (h : DpAll K B vs (ns.map .int)) : vs = ns.map V.int := dpall_ints h
theorem dpall_rev {B : Hp} {vs : List V} {ds : List D} (h : DpAll K B vs ds) : DpAll K B vs.reverse ds.reverse := by
  induction vs generalizing ds with
  | nil => cases h; exact .nil
  | cons v vs ih => cases h with | cons h1 h2 => rw [List.reverse_cons, List.reverse_cons]; exact dpall_app (ih h2) (.cons h1 .nil)
/-! ### a bound of is_whole -/
def loOk : D → Int → Bool
  | .int l, i => decide (l ≤ i)
  | _, _ => true
def hiOk : D → Int → Bool
  | .int h, i => decide (i ≤ h)
  | _, _ => true
def bnd : D → Bool
  | .none => true
  | .int _ => true
  | _ => false
def isWhole : D → D → D → Bool
  | .int i, lo, hi => loOk lo i && hiOk hi i
  | _, _, _ => false
def fIsWhole : List D → Option D
  | [x, lo, hi] => if bnd lo && bnd hi then some (.bool (isWhole x lo hi)) else none
  | _ => none
def isSeq : D → Bool
  | .list _ => true
  | .tuple _ => true
  | _ => false
def lenD : D → Nat
  | .list xs => xs.length
  | .tuple xs => xs.length
  | _ => 0
def itemsD : D → List D
  | .list xs => xs
  | .tuple xs => xs
  | _ => []
theorem seqD_of {x : D} (h : isSeq x = true) : SeqD x (itemsD x) := by
  cases x <;> first | exact .l _ | exact .t _ | cases h
def isSequence (x lo hi : D) : Bool := isSeq x && isWhole (.int (lenD x)) lo hi
def fIsSequence : List D → Option D
  | [x, lo, hi] => if bnd lo && bnd hi then some (.bool (isSequence x lo hi)) else none
  | _ => none
theorem cd_lenSd {x : D} {ds : List D} (h : SeqD x ds) : CD K (rLenA K) [x] (.int (ds.length : Int)) := by
  cases h <;> first | exact cd_lenL | exact cd_lenT
theorem seqD_of' {x : D} {ds : List D} (h : SeqD x ds) : isSeq x = true ∧ itemsD x = ds ∧ lenD x = ds.length := by cases h <;> exact ⟨rfl, rfl, rfl⟩
theorem rd_ixQ {x : D} {ds : List D} {i : Int} {d : D} (sd : SeqD x ds) (h0 : 0 ≤ i) (h : ds[i.toNat]? = some d) : RD K (rIx K) x (.int i) d := by
  cases sd with
  | l ds => exact rd_ixL h0 h
  | t ds => exact rd_ixT h0 h
theorem cd_tupQ {x : D} {ds : List D} (h : SeqD x ds) : CD K (rTupO K) [x] (.tuple ds) := by
  cases h <;> first | exact cd_tupL | exact cd_tupT
theorem cd_lstQ {x : D} {ds : List D} (h : SeqD x ds) : CD K (rLstO K) [x] (.list ds) := by
  cases h <;> first | exact cd_lstL | exact cd_lstT
theorem cd_lenQ {x : D} (h : isSeq x = true) : CD K (rLenA K) [x] (.int (lenD x : Int)) := by
  cases x <;> first | exact cd_lenL | exact cd_lenT | cases h
/-! ### == and != of data and of plain values -/
def rEqA (K : PySem.W.Frag) : R2 := fun x y H Q => rEqD K x y H Q ∨ rEq x y H Q
def rNeA (K : PySem.W.Frag) : R2 := fun x y H Q => rNeD K x y H Q ∨ rNe x y H Q
theorem op_eqA {X : Cx} (hu : X.A.units + 64 < cLine) : OpR X (compareOp .Eq) (rEqA X.K) := OpR.or (op_eqD hu) op_eq
theorem op_neA {X : Cx} (hu : X.A.units + 64 < cLine) : OpR X (compareOp .NotEq) (rNeA X.K) := OpR.or (op_neD hu) op_ne
theorem rd_eqX {x y : D} (h1 : SeqAt.shaped x = true) (h2 : SeqAt.shaped y = true) : RD K (rEqA K) x y (.bool (PyData.eqv x y)) := fun B H u v e hu hv Q q => .inl (rd_eqD h1 h2 B H u v e hu hv Q q)
theorem rd_neX {x y : D} (h1 : SeqAt.shaped x = true) (h2 : SeqAt.shaped y = true) : RD K (rNeA K) x y (.bool (!PyData.eqv x y)) := fun B H u v e hu hv Q q => .inl (rd_neD h1 h2 B H u v e hu hv Q q)
theorem rd_eqI {i j : Int} : RD K (rEqA K) (.int i) (.int j) (.bool (decide (i = j))) := fun B H u v e hu hv Q q => by
  cases hu; cases hv
  refine .inr ⟨rfl, ?_⟩
  have : decide ((V.int i) = V.int j) = decide (i = j) := by simp
  rw [this]
  exact q _ B H (.refl e) (.bl _)
theorem rd_neI {i j : Int} : RD K (rNeA K) (.int i) (.int j) (.bool (!decide (i = j))) := fun B H u v e hu hv Q q => by
  cases hu; cases hv
  refine .inr ⟨rfl, ?_⟩
  have : decide ((V.int i) = V.int j) = decide (i = j) := by simp
  rw [this]
  exact q _ B H (.refl e) (.bl _)
theorem rd_eqS {i j : Str} : RD K (rEqA K) (.str i) (.str j) (.bool (decide (i = j))) := fun B H u v e hu hv Q q => by
  cases hu; cases hv
  refine .inr ⟨rfl, ?_⟩
  have : decide ((V.str i) = V.str j) = decide (i = j) := by simp
  rw [this]
  exact q _ B H (.refl e) (.bl _)
theorem rd_neS {i j : Str} : RD K (rNeA K) (.str i) (.str j) (.bool (!decide (i = j))) := fun B H u v e hu hv Q q => by
  cases hu; cases hv
  refine .inr ⟨rfl, ?_⟩
  have : decide ((V.str i) = V.str j) = decide (i = j) := by simp
  rw [this]
  exact q _ B H (.refl e) (.bl _)
theorem rd_eqB {i j : Bool} : RD K (rEqA K) (.bool i) (.bool j) (.bool (decide (i = j))) := fun B H u v e hu hv Q q => by
  cases hu; cases hv
  refine .inr ⟨rfl, ?_⟩
  have : decide ((V.bl i) = V.bl j) = decide (i = j) := by simp
  rw [this]
  exact q _ B H (.refl e) (.bl _)
theorem rd_neB {i j : Bool} : RD K (rNeA K) (.bool i) (.bool j) (.bool (!decide (i = j))) := fun B H u v e hu hv Q q => by
  cases hu; cases hv
  refine .inr ⟨rfl, ?_⟩
  have : decide ((V.bl i) = V.bl j) = decide (i = j) := by simp
  rw [this]
  exact q _ B H (.refl e) (.bl _)
/-! ### defs that give a new list -/
def spL (K : PySem.W.Frag) (R : List D → List D → Prop) : Sp := fun vs H Q _ => ∃ (B : Hp) (ds es : List D), Same B H ∧ DpAll K B vs ds ∧ R ds es ∧ ∀ p us B' H', Gw B H B' H' → B' p = some (.lst us) → DpAll K B' us es → Q (.ref p) H'
theorem spL_len {R : List D → List D → Prop} {n : Nat} (hF : ∀ ds d, R ds d → ds.length = n) {vs : List V} {H : Hp} {Q : VK} {E : XK} (h : spL K R vs H Q E) : vs.length = n := by
  obtain ⟨B, ds, d, _, r, e, _⟩ := h
  rw [dpall_len r]
  exact hF ds d e
theorem dl_call {σ : L2.St} {B : Hp} {t : TA} {R : List D → List D → Prop} {E : XK} {ds es : List D} (h : DA K t σ B ds) (hr : R ds es) : DL K (tCall (spL K R) [] E t) σ B es := fun H e Q q =>
  h H e _ fun vs B1 H1 g1 r1 => ⟨B1, ds, es, g1.i, by rw [List.append_nil]; exact r1, hr, fun p us B2 H2 g2 hp r2 => q p us B2 H2 (g1.trans g2) hp r2⟩
theorem s_asgL {σ : L2.St} {B H : Hp} {te : TE} {ds : List D} {nx : L2.St → Hp → Prop} {rt : VK} {bk ct : L2.St → Hp → Prop} {i : Nat} (e : Same B H) (h : DL K te σ B ds) (k : ∀ p vs B' H', Gw B H B' H' → B' p = some (.lst vs) → DpAll K B' vs ds → nx (σ.set i (some (.ref p))) H') : tAsg te (gName i) ⟨nx, rt, bk, ct⟩ σ H :=
  h H e _ fun p vs B' H' g hp r => k p vs B' H' g hp r
theorem s_retL {σ : L2.St} {B H : Hp} {te : TE} {ds : List D} {nx : L2.St → Hp → Prop} {rt : VK} {bk ct : L2.St → Hp → Prop} (e : Same B H) (h : DL K te σ B ds) (k : ∀ p vs B' H', Gw B H B' H' → B' p = some (.lst vs) → DpAll K B' vs ds → rt (.ref p) H') : tRet te ⟨nx, rt, bk, ct⟩ σ H :=
  h H e _ fun p vs B' H' g hp r => k p vs B' H' g hp r
theorem snoc_ind {α : Type} {p : List α → Prop} (h0 : p []) (h1 : ∀ l a, p l → p (l ++ [a])) (l : List α) : p l := by
  have : ∀ n (l : List α), l.length = n → p l := by
    intro n
    induction n with
    | zero => intro l h; rw [List.length_eq_zero_iff.mp h]; exact h0
    | succ n ih =>
      intro l h
      have hne : l ≠ [] := by intro z; rw [z] at h; simp at h
      rw [← List.dropLast_concat_getLast hne]
      exact h1 _ _ (ih _ (by rw [List.length_dropLast, h]; rfl))
  exact this _ l rfl
/-! ### more -/
mutual
theorem eqv_refl : ∀ d : D, d.hasDict = false → PyData.eqv d d = true
  | .none, _ => by simp only [PyData.eqv]
  | .bool _, _ => by simp only [PyData.eqv, beq_self_eq_true]
  | .int _, _ => by simp only [PyData.eqv, beq_self_eq_true]
  | .str _, _ => by simp only [PyData.eqv, beq_self_eq_true]
  | .list ds, h => by simp only [PyData.eqv]; exact eqvs_refl ds (by simpa only [PyData.hasDict] using h)
  | .tuple ds, h => by simp only [PyData.eqv]; exact eqvs_refl ds (by simpa only [PyData.hasDict] using h)
  | .dict _, h => by simp [PyData.hasDict] at h
theorem eqvs_refl : ∀ ds : List D, PyData.hasDictAll ds = false → PyData.eqvAll ds ds = true
  | [], _ => by simp only [PyData.eqvAll]
  | d :: ds, h => by
    simp only [PyData.hasDictAll, Bool.or_eq_false_iff] at h
    simp only [PyData.eqvAll, eqv_refl d h.1, eqvs_refl ds h.2, Bool.and_self]
end
theorem eqvAll_ints : ∀ xs ys : List Int, PyData.eqvAll (xs.map .int) (ys.map .int) = decide (xs = ys)
  | [], [] => by simp [PyData.eqvAll]
  | [], y :: ys => by simp [PyData.eqvAll]
  | x :: xs, [] => by simp [PyData.eqvAll]
  | x :: xs, y :: ys => by
    simp only [List.map_cons, PyData.eqvAll, PyData.eqv, eqvAll_ints xs ys]
    by_cases h : x = y <;> by_cases k : xs = ys <;> simp [h, k]
theorem shaped_int {i : Int} : SeqAt.shaped (.int i) = true := by simp [SeqAt.shaped, PyData.canLay0, PyData.depth]
theorem lay_ints : ∀ ns : List Int, PyData.canLayAll0 (ns.map .int) = true ∧ PyData.depthAll (ns.map .int) = 0
  | [] => by simp [PyData.canLayAll0, PyData.depthAll]
  | n :: ns => by simp [PyData.canLayAll0, PyData.depthAll, PyData.canLay0, PyData.depth, lay_ints ns]
theorem shaped_intsT {ns : List Int} : SeqAt.shaped (.tuple (ns.map .int)) = true := by simp [SeqAt.shaped, PyData.canLay0, PyData.depth, lay_ints ns]
theorem shaped_intsL {ns : List Int} : SeqAt.shaped (.list (ns.map .int)) = true := by simp [SeqAt.shaped, PyData.canLay0, PyData.depth, lay_ints ns]
theorem shaped_str {z : Str} (h : PyData.strOk z = true) : SeqAt.shaped (.str z) = true := by simp [SeqAt.shaped, PyData.canLay0, PyData.depth, h]
theorem shaped_items {x : D} (h : SeqAt.shaped x = true) (hs : isSeq x = true) : SeqAt.shaped (.tuple (itemsD x)) = true := by
  cases x <;> first | (simp [isSeq] at hs; done) | (simpa [SeqAt.shaped, PyData.canLay0, PyData.depth, itemsD] using h)
theorem nodict_items {x : D} (h : x.hasDict = false) (hs : isSeq x = true) : PyData.hasDict (.tuple (itemsD x)) = false := by
  cases x <;> first | (simp [isSeq] at hs; done) | (simpa [PyData.hasDict, itemsD] using h)
theorem rd_inS {c : Nat} {z : Str} : RD K rInS (.str ⟨#[c]⟩) (.str z) (.bool (decide (c ∈ z.cps.toList))) := fun B H u v e hu hv Q q => by
  cases hu; cases hv
  exact ⟨c, z, rfl, rfl, q _ B H (.refl e) (.bl _)⟩
theorem rd_isB {a b : Bool} : RD K rIsB (.bool a) (.bool b) (.bool (decide (a = b))) := fun B H u v e hu hv Q q => by
  cases hu; cases hv
  exact ⟨a, b, rfl, rfl, q _ B H (.refl e) (.bl _)⟩
theorem fold_chars (cs : List Nat) : ∀ acc : Array Nat, (cs.map fun c => (⟨#[c]⟩ : Str)).foldl (fun acc p => acc ++ #[] ++ p.cps) acc = acc ++ cs.toArray := by
  induction cs with
  | nil => intro acc; simp
  | cons c cs ih =>
    intro acc
    rw [List.map_cons, List.foldl_cons, ih]
    apply Array.ext'
    simp
theorem join_chars (cs : List Nat) : Txt.join "" (cs.map fun c => (⟨#[c]⟩ : Str)) = ⟨cs.toArray⟩ := by
  show Builtin.Str.glued ⟨#[]⟩ _ = _
  unfold Builtin.Str.glued
  cases cs with
  | nil => rfl
  | cons c cs =>
    simp only [List.map_cons, List.headD_cons, List.drop_succ_cons, List.drop_zero]
    rw [fold_chars]
    congr 1
    apply Array.ext'
    simp
theorem rd_pow {i j : Int} (h : CPow i j) : RD K (rI CPow fun i j => V.int (i ^ j.toNat)) (.int i) (.int j) (.int (i ^ j.toNat)) := rd_I h fun _ => .int _
theorem cd_allM {α : Type} {xs : List α} {g : α → Bool} : CD K (rAll K) [.list (xs.map fun a => .bool (g a))] (.bool (xs.all g)) := by
  have h := cd_all (K := K) (bs := xs.map g)
  have e1 : (xs.map g).map PyData.bool = xs.map fun a => .bool (g a) := by rw [List.map_map]; rfl
  have e2 : (xs.map g).all id = xs.all g := by rw [List.all_map]; rfl
  rw [e1, e2] at h
  exact h
end
end Co
namespace Co
open PySem PySem.Spec PyProof.Rows L2
section
variable {K : PySem.W.Frag} {AD : String → Addr}
/-- the fields of an error, as data -/
def Fl (K : PySem.W.Frag) (B : Hp) (ws : List (Str × V)) (fs : List (Str × D)) : Prop := ws.map Prod.fst = fs.map Prod.fst ∧ DpAll K B (ws.map Prod.snd) (fs.map Prod.snd)
abbrev Err := String × List (Str × D)
abbrev Res := Sum D Err
/-- the error x leaves -/
def xTo (K : PySem.W.Frag) (AD : String → Addr) (B H : Hp) (E : XK) (x : Err) : Prop :=
  (x.2 = [] → ∀ B' H', Gw B H B' H' → E (.ref (AD x.1)) none H') ∧ (x.2 ≠ [] → ∀ B' H' dx ws, Gw B H B' H' → B' dx = some (.xd ws) → Fl K B' ws x.2 → E (.ref (AD x.1)) (some dx) H')
def resX (K : PySem.W.Frag) (AD : String → Addr) (B H : Hp) (Q : VK) (E : XK) : Res → Prop
  | .inl d => ∀ v B' H', Gw B H B' H' → Dp K B' v d → Q v H'
  | .inr x => xTo K AD B H E x
/-- a def that gives data or raises -/
def spX (K : PySem.W.Frag) (AD : String → Addr) (R : List D → Res → Prop) : Sp := fun vs H Q E => ∃ (B : Hp) (ds : List D) (r : Res), Same B H ∧ DpAll K B vs ds ∧ R ds r ∧ resX K AD B H Q E r
theorem spX_len {R : List D → Res → Prop} {n : Nat} (hF : ∀ ds r, R ds r → ds.length = n) {vs : List V} {H : Hp} {Q : VK} {E : XK} (h : spX K AD R vs H Q E) : vs.length = n := by
  obtain ⟨B, ds, r, _, a, e, _⟩ := h
  rw [dpall_len a]
  exact hF ds r e
theorem xTo.up {B H B1 H1 : Hp} {E : XK} {x : Err} (h : xTo K AD B H E x) (g : Gw B H B1 H1) : xTo K AD B1 H1 E x :=
  ⟨fun z B' H' g' => h.1 z B' H' (g.trans g'), fun z B' H' dx ws g' => h.2 z B' H' dx ws (g.trans g')⟩
theorem resX.up {B H B1 H1 : Hp} {Q : VK} {E : XK} {r : Res} (h : resX K AD B H Q E r) (g : Gw B H B1 H1) : resX K AD B1 H1 Q E r := by
  cases r with
  | inl d => exact fun v B' H' g' q => h v B' H' (g.trans g') q
  | inr x => exact xTo.up h g
variable {σ : L2.St} {B H : Hp} {ta : TA} {ds : List D}
theorem st_callX {R : List D → Res → Prop} {r : Res} {Ex : L2.St → XK} {Q : VK} (e : Same B H) (h : DA K ta σ B ds) (hr : R ds r) (k : resX K AD B H Q (Ex σ) r) : tCallS (spX K AD R) Ex ta σ H Q :=
  h H e _ fun vs B1 H1 g1 r1 => ⟨B1, ds, r, g1.i, r1, hr, k.up g1⟩
/-- __init__ of an error: its fields, the last first -/
def spIni (C : Addr) (names : List Str) : Sp := fun vs H Q _ => ∃ a ws, vs = .ref a :: ws ∧ ws.length = names.length ∧ H a = some (exo a C none) ∧ ∀ dx, H dx = none → dx ≠ a → Q .non (upd (upd H dx (exd dx (names.zip ws).reverse)) a (exo a C (some dx)))
theorem spIni_len {C : Addr} {names : List Str} {vs : List V} {H : Hp} {Q : VK} {E : XK} (h : spIni C names vs H Q E) : vs.length = names.length + 1 := by
  obtain ⟨a, ws, rfl, hl, _⟩ := h
  rw [List.length_cons, hl]
theorem dpall_revz {names : List Str} {ws : List V} {ds : List D} {B' : Hp} (r : DpAll K B' ws ds) (hl : ds.length = names.length) : Fl K B' (names.zip ws).reverse (names.zip ds).reverse := by
  have lw := dpall_len r
  refine ⟨?_, ?_⟩
  · rw [List.map_reverse, List.map_reverse, List.map_fst_zip (by omega), List.map_fst_zip (by omega)]
  · rw [List.map_reverse, List.map_reverse, List.map_snd_zip (by omega), List.map_snd_zip (by omega)]
    exact dpall_rev r
theorem mk_flds {C : Addr} {names : List Str} {Q : XK} (e : Same B H) (h : DA K ta σ B ds) (hl : ds.length = names.length) (hz : names.length ≤ 1000)
    (k : ∀ B' H' dx ws, Gw B H B' H' → B' dx = some (.xd ws) → Fl K B' ws (names.zip ds).reverse → Q (.ref C) (some dx) H') : tMkO C (spIni C names) [] ta σ H Q :=
  h H e _ fun vs B1 H1 g1 r1 => by
    have lw := dpall_len r1
    refine ⟨by omega, fun a ha => ⟨a, vs, by rw [List.append_nil], by omega, upd_same, fun dx hdx hne => ?_⟩⟩
    have hd1 : H1 dx = none := by rw [upd_ne hne] at hdx; exact hdx
    refine ⟨rfl, dx, (names.zip vs).reverse, upd_same, by rw [upd_ne hne, upd_same], hd1, ?_⟩
    have hH : upd (del (upd (upd (upd H1 a (exo a C none)) dx (exd dx (names.zip vs).reverse)) a (exo a C (some dx))) a) dx (.xd (names.zip vs).reverse) = upd H1 dx (.xd (names.zip vs).reverse) := by
      funext b
      by_cases z : b = dx
      · subst z; rw [upd_same, upd_same]
      · rw [upd_ne z, upd_ne z]
        by_cases y : b = a
        · subst y; rw [ha]; simp [del]
        · have : del (upd (upd (upd H1 a (exo a C none)) dx (exd dx (names.zip vs).reverse)) a (exo a C (some dx))) a b = upd (upd (upd H1 a (exo a C none)) dx (exd dx (names.zip vs).reverse)) a (exo a C (some dx)) b := by simp [del, y]
          rw [this, upd_ne y, upd_ne z, upd_ne y]
    rw [hH]
    have g2 : Gw B1 H1 (upd B1 dx (.xd (names.zip vs).reverse)) (upd H1 dx (.xd (names.zip vs).reverse)) := Gw.new g1.i hd1
    exact k _ _ dx _ (g1.trans g2) upd_same (dpall_revz (dps_up g2.b _ _ r1) hl)
theorem de_xf {i : Nat} {a C dx : Addr} {f : Str} {ws : List (Str × V)} {v : V} {d : D} (hs : σ[i]? = some (some (.ref a))) (hb : B dx = some (.xd ws)) (hl : ws.lookup f = some v) (r : Dp K B v d) : DE K (tXf a (.ref C) (some dx) C f (tVar i)) σ B d :=
  fun H e Q q => ⟨_, hs, rfl, rfl, dx, ws, v, rfl, e _ _ hb, hl, q v B H (.refl e) r⟩
theorem fl1 {B : Hp} {ws : List (Str × V)} {n : Str} {d : D} (h : Fl K B ws [(n, d)]) : ∃ v, ws = [(n, v)] ∧ Dp K B v d := by
  obtain ⟨h1, h2⟩ := h
  match ws, h1, h2 with
  | [(m, v)], h1, h2 =>
    simp at h1
    subst h1
    cases h2 with
    | cons r _ => exact ⟨v, rfl, r⟩
end
end Co
namespace Co
open PySem PySem.Spec PyProof.Rows L2
section
variable {K : PySem.W.Frag} {m : Addr}
theorem pi_seqK {X : Cx} {K : PySem.W.Frag} {tg l : PySem.Expr} {tl : TE} (hK : X.K = K) (hl : PE X l tl) : PI X tg l (iSeq K tl) := hK ▸ pi_seq hl
/-! ### join -/
def rJoin (K : PySem.W.Frag) : V → List V → Hp → VK → Prop := fun x xs H Q => ∃ (a : Str) (p : Addr) (ys : List Str), x = .str a ∧ xs = [.ref p] ∧ (SqL K H p (ys.map V.str) ∨ SqT K H p (ys.map V.str)) ∧ (ys.map (·.length)).sum + ys.length * a.length ≤ 16777216 ∧ Q (.str (Txt.join a ys)) H
theorem pe_joinA {X : Cx} {o e : PySem.Expr} {to te : TE} {apos pos : Pos} (ho : PE X o to) (he : PE X e te) (h1 : starEach [e] X.env = [(false, eval e X.env)] := by rfl) (h2 : attributeBase o "join" X.env (eval o X.env) = eval o X.env := by rfl) (h3 : (apos.endLine == pos.line) = true := by rfl) :
    PE X (.Call (.Attribute o "join" apos) [e] [] pos) (tM1 (rJoin X.K) to te) := pe_join ho he h1 h2 h3
theorem dpall_strs {B : Hp} {vs : List V} : ∀ {zs : List Str}, DpAll K B vs (zs.map .str) → vs = zs.map V.str := by
  induction vs with
  | nil => intro bs h; cases bs with
    | nil => rfl
    | cons => cases h
  | cons v vs ih => intro bs h; cases bs with
    | nil => cases h
    | cons b bs => cases h with | cons h1 h2 => cases h1; rw [ih h2]; rfl
/-! ### what draws: an expression that leaves the bag b' of the bag b, by k draws -/
def ES (K : PySem.W.Frag) (m : Addr) (te : TE) (σ : L2.St) (B : Hp) (b : BS) (k : Nat) (d : D) (b' : BS) : Prop :=
  ∀ B1 H n, Same B B1 → Same B1 H → BagAt K B1 H m b (n + k) → ∀ Q : VK, (∀ v B' H', Gm (· = m) B1 H B' H' → BagAt K B' H' m b' n → Dp K B' v d → Q v H') → te σ H Q
def AS (K : PySem.W.Frag) (m : Addr) (ta : TA) (σ : L2.St) (B : Hp) (b : BS) (k : Nat) (ds : List D) (b' : BS) : Prop :=
  ∀ B1 H n, Same B B1 → Same B1 H → BagAt K B1 H m b (n + k) → ∀ Q : List V → Hp → Prop, (∀ vs B' H', Gm (· = m) B1 H B' H' → BagAt K B' H' m b' n → DpAll K B' vs ds → Q vs H') → ta σ H Q
def XS (K : PySem.W.Frag) (m : Addr) (tt : TT) (σ : L2.St) (B : Hp) (b : BS) (k : Nat) (t : Bool) (b' : BS) : Prop :=
  ∀ B1 H n, Same B B1 → Same B1 H → BagAt K B1 H m b (n + k) → ∀ Q : Bool → Hp → Prop, (∀ B' H', Gm (· = m) B1 H B' H' → BagAt K B' H' m b' n → Q t H') → tt σ H Q
def EL (K : PySem.W.Frag) (m : Addr) (te : TE) (σ : L2.St) (B : Hp) (b : BS) (k : Nat) (ds : List D) (b' : BS) : Prop :=
  ∀ B1 H n, Same B B1 → Same B1 H → BagAt K B1 H m b (n + k) → ∀ Q : VK, (∀ p vs B' H', Gm (· = m) B1 H B' H' → BagAt K B' H' m b' n → B' p = some (.lst vs) → DpAll K B' vs ds → Q (.ref p) H') → te σ H Q
theorem EL.es {te : TE} {σ : L2.St} {B : Hp} {b b' : BS} {k : Nat} {ds : List D} (h : EL K m te σ B b k ds b') : ES K m te σ B b k (.list ds) b' := fun B1 H n s e bg Q q => h B1 H n s e bg Q fun p vs B' H' g bg' hp r => q _ B' H' g bg' (.lst (.inl (.inl hp)) r)
variable {σ : L2.St} {B : Hp} {te ta tb tc : TE} {tt uu : TT} {ts tr : TA} {b b1 b2 b3 : BS} {k k1 k2 : Nat} {d x y : D} {ds es : List D}
theorem Gm.thm {B H B1 H1 B2 H2 : Hp} (g : Gm (· = m) B H B1 H1) (h : Gm (· = m) B1 H1 B2 H2) (x : H1 m ≠ none) : Gm (· = m) B H B2 H2 := Gm.trans g h fun a z _ => by rw [z]; exact x
theorem BagAt.ne {B H : Hp} {n : Nat} (x : BagAt K B H m b n) : H m ≠ none := ne_none x.at'
theorem gw_gm {B H B' H' : Hp} (g : Gw B H B' H') : Gm (· = m) B H B' H' := g.weak fun _ z => z.elim
theorem es_pure (h : DE K te σ B d) : ES K m te σ B b 0 d b := fun B1 H n s1 e bg Q q => h.up s1 H e Q fun v B' H' g r => q v B' H' (gw_gm g) (bg.up g) r
theorem as_pure (h : DA K ts σ B ds) : AS K m ts σ B b 0 ds b := fun B1 H n s1 e bg Q q => h.up s1 H e Q fun v B' H' g r => q v B' H' (gw_gm g) (bg.up g) r
theorem xs_pure {t : Bool} (h : DT tt σ B t) : XS K m tt σ B b 0 t b := fun B1 H n s1 e bg Q q => h.up s1 H e Q fun B' H' g => q B' H' (gw_gm g) (bg.up g)
theorem bag_cast {B H : Hp} {n n' : Nat} (x : BagAt K B H m b n) (h : n = n') : BagAt K B H m b n' := h ▸ x
theorem es_op {r : R2} (ha : ES K m ta σ B b k1 x b1) (hb : ES K m tb σ B b1 k2 y b2) (hr : RD K r x y d) : ES K m (tOp r ta tb) σ B b (k1 + k2) d b2 := fun B1 H n s1 e bg Q q =>
  ha B1 H (n + k2) s1 e (bag_cast bg (by omega)) _ fun u B2 H2 g2 bg2 r2 => hb B2 H2 n (s1.trans g2.b) g2.i bg2 _ fun v B3 H3 g3 bg3 r3 => hr B3 H3 u v g3.i (dp_up g3.b _ _ r2) r3 Q fun w B4 H4 g4 r4 =>
    q w B4 H4 ((g2.thm g3 bg2.ne).thm (gw_gm g4) bg3.ne) (bg3.up g4) r4
theorem as_nil : AS K m tNil σ B b 0 [] b := as_pure da_nil
theorem as_cons (h : ES K m te σ B b k1 d b1) (hr : AS K m tr σ B b1 k2 ds b2) : AS K m (tCons te tr) σ B b (k1 + k2) (d :: ds) b2 := fun B1 H n s1 e bg Q q =>
  h B1 H (n + k2) s1 e (bag_cast bg (by omega)) _ fun u B2 H2 g2 bg2 r2 => hr B2 H2 n (s1.trans g2.b) g2.i bg2 _ fun vs B3 H3 g3 bg3 r3 => q _ B3 H3 (g2.thm g3 bg2.ne) bg3 (.cons (dp_up g3.b _ _ r2) r3)
theorem es_tup (h : AS K m ts σ B b k ds b1) (hl : ds.length ≤ 100000) : ES K m (tTup ts) σ B b k (.tuple ds) b1 := fun B1 H n s1 e bg Q q =>
  h B1 H n s1 e bg _ fun vs B2 H2 g2 bg2 r2 => ⟨Nat.le_trans (by rw [dpall_len r2]; exact hl) (by decide), fun p hp => by
    have g3 : Gw B2 H2 (upd B2 p (.tup vs)) (upd H2 p (.tup vs)) := Gw.new g2.i hp
    exact q _ _ _ (g2.thm (gw_gm g3) bg2.ne) (bg2.up g3) (.tup (.inl (.inl upd_same)) (dps_up g3.b _ _ r2))⟩
theorem el_lst (h : AS K m ts σ B b k ds b1) (hl : ds.length ≤ 100000) : EL K m (tLst ts) σ B b k ds b1 := fun B1 H n s1 e bg Q q =>
  h B1 H n s1 e bg _ fun vs B2 H2 g2 bg2 r2 => ⟨Nat.le_trans (by rw [dpall_len r2]; exact hl) (by decide), fun p hp => by
    have g3 : Gw B2 H2 (upd B2 p (.lst vs)) (upd H2 p (.lst vs)) := Gw.new g2.i hp
    exact q _ _ _ _ (g2.thm (gw_gm g3) bg2.ne) (bg2.up g3) upd_same (dps_up g3.b _ _ r2)⟩
theorem el_pure (h : DL K te σ B ds) : EL K m te σ B b 0 ds b := fun B1 H n s1 e bg Q q => h.up s1 H e Q fun p vs B' H' g hp r => q p vs B' H' (gw_gm g) (bg.up g) hp r
theorem es_cb {r : List V → Hp → VK → Prop} (h : AS K m ts σ B b k ds b1) (hr : CD K r ds d) : ES K m (tCB r ts) σ B b k d b1 := fun B1 H n s1 e bg Q q =>
  h B1 H n s1 e bg _ fun vs B2 H2 g2 bg2 r2 => hr B2 H2 vs g2.i r2 Q fun w B3 H3 g3 r3 => q w B3 H3 (g2.thm (gw_gm g3) bg2.ne) (bg2.up g3) r3
theorem es_call {sp : Sp} {dvs : List V} {E : XK} (h : AS K m ts σ B b k ds b1) (hd : ∀ B, DpAll K B dvs es) (hs : PD K sp (ds ++ es) d) : ES K m (tCall sp dvs E ts) σ B b k d b1 := fun B1 H n s1 e bg Q q =>
  h B1 H n s1 e bg _ fun vs B2 H2 g2 bg2 r2 => hs B2 H2 _ g2.i (dpall_app r2 (hd _)) Q E fun w B3 H3 g3 r3 => q w B3 H3 (g2.thm (gw_gm g3) bg2.ne) (bg2.up g3) r3
/-- the draw -/
theorem es_draw {i : Nat} {E : XK} {lim : Int} (hs : σ[i]? = some (some (.ref m))) (h : ES K m te σ B b k (.int lim) b1) (hl : 1 ≤ lim ∧ lim ≤ 10 ^ 30) : ES K m (tCall (spDraw K) [] E (tCons (tVar i) (tCons te tNil))) σ B b (k + 1) (.int (dv b1 lim)) (db b1 lim) := fun B1 H n s1 e bg Q q =>
  ⟨_, hs, h B1 H (n + 1) s1 e (bag_cast bg (by omega)) _ fun u B2 H2 g2 bg2 r2 => by
    cases r2
    exact ⟨B2, m, b1, n, lim, rfl, g2.i, bg2, hl.1, hl.2, fun H3 g3 bg3 => q _ B2 H3 (g2.thm g3 bg2.ne) bg3 (.int _)⟩⟩
theorem es_if {t : Bool} (h : XS K m tt σ B b k1 t b1) (h1 : t = true → ES K m ta σ B b1 k2 d b2) (h2 : t = false → ES K m tb σ B b1 k2 d b2) : ES K m (tIf tt ta tb) σ B b (k1 + k2) d b2 := fun B1 H n s1 e bg Q q =>
  h B1 H (n + k2) s1 e (bag_cast bg (by omega)) _ fun B2 H2 g2 bg2 => by
    cases t with
    | true => exact iteT (h1 rfl B2 H2 n (s1.trans g2.b) g2.i bg2 _ fun w B3 H3 g3 bg3 r3 => q w B3 H3 (g2.thm g3 bg2.ne) bg3 r3)
    | false => exact iteF (h2 rfl B2 H2 n (s1.trans g2.b) g2.i bg2 _ fun w B3 H3 g3 bg3 r3 => q w B3 H3 (g2.thm g3 bg2.ne) bg3 r3)
theorem xs_test {t : Bool} (h : ES K m te σ B b k (.bool t) b1) : XS K m (tTest te) σ B b k t b1 := fun B1 H n s1 e bg Q q => h B1 H n s1 e bg _ fun u B2 H2 g2 bg2 r2 => by
  cases r2; exact ⟨t, rfl, q B2 H2 g2 bg2⟩
theorem xs_B {t : Bool} (h : ES K m te σ B b k (.bool t) b1) : XS K m (tB te) σ B b k t b1 := fun B1 H n s1 e bg Q q => h B1 H n s1 e bg _ fun u B2 H2 g2 bg2 r2 => by
  cases r2; exact ⟨t, rfl, q B2 H2 g2 bg2⟩
theorem xs_not {t : Bool} (h : XS K m tt σ B b k t b1) : XS K m (tNot tt) σ B b k (!t) b1 := fun B1 H n s1 e bg Q q => h B1 H n s1 e bg _ fun B2 H2 g2 bg2 => q B2 H2 g2 bg2
theorem es_le {te : TE} {k' : Nat} (h : ES K m te σ B b k d b1) (hk : k ≤ k') : ES K m te σ B b k' d b1 := fun B1 H n s1 e bg Q q => h B1 H n s1 e (bg.less (by omega)) Q q
theorem el_if {t : Bool} {ds1 ds2 : List D} (h : XS K m tt σ B b k1 t b1) (h1 : t = true → EL K m ta σ B b1 k2 ds1 b2) (h2 : t = false → EL K m tb σ B b1 k2 ds2 b2) : EL K m (tIf tt ta tb) σ B b (k1 + k2) (if t = true then ds1 else ds2) b2 := fun B1 H n s1 e bg Q q =>
  h B1 H (n + k2) s1 e (bag_cast bg (by omega)) _ fun B2 H2 g2 bg2 => by
    cases t with
    | true => exact iteT (h1 rfl B2 H2 n (s1.trans g2.b) g2.i bg2 _ fun p vs B3 H3 g3 bg3 hp r3 => q p vs B3 H3 (g2.thm g3 bg2.ne) bg3 hp r3)
    | false => exact iteF (h2 rfl B2 H2 n (s1.trans g2.b) g2.i bg2 _ fun p vs B3 H3 g3 bg3 hp r3 => q p vs B3 H3 (g2.thm g3 bg2.ne) bg3 hp r3)
theorem es_join {a : Str} {ys : List Str} (ha : ES K m ta σ B b k1 (.str a) b1) (hb : ES K m tb σ B b1 k2 (.list (ys.map .str)) b2) (hz : (ys.map (·.length)).sum + ys.length * a.length ≤ 16777216) : ES K m (tM1 (rJoin K) ta tb) σ B b (k1 + k2) (.str (Txt.join a ys)) b2 := fun B1 H n s1 e bg Q q =>
  ha B1 H (n + k2) s1 e (bag_cast bg (by omega)) _ fun u B2 H2 g2 bg2 r2 => by
    cases r2
    refine ⟨⟨a, rfl⟩, hb B2 H2 n (s1.trans g2.b) g2.i bg2 _ fun v B3 H3 g3 bg3 r3 => ?_⟩
    cases r3 with
    | lst hs ha =>
      have := dpall_strs ha
      subst this
      exact ⟨a, _, ys, rfl, rfl, .inl (g3.i.seq hs), hz, q _ B3 H3 (g2.thm g3 bg2.ne) bg3 (.str _)⟩
theorem es_sl {r : V → Option Int → Option Int → Hp → VK → Prop} {tl th : TO} {l u : Option Int} (ha : ES K m ta σ B b k x b1) (hl : DO tl σ B l) (hu : DO th σ B u) (hr : SD K r x l u d) : ES K m (tSl r ta tl th) σ B b k d b1 := fun B1 H n s1 e bg Q q =>
  ha B1 H n s1 e bg _ fun v B2 H2 g2 bg2 r2 => hl.up (s1.trans g2.b) H2 g2.i _ fun B3 H3 g3 => hu.up ((s1.trans g2.b).trans g3.b) H3 g3.i _ fun B4 H4 g4 => hr B4 H4 v g4.i (dp_up (g3.b.trans g4.b) _ _ r2) Q fun w B5 H5 g5 r5 =>
    q w B5 H5 (g2.thm (gw_gm ((g3.trans g4).trans g5)) bg2.ne) (bg2.up ((g3.trans g4).trans g5)) r5
/-! ### statements -/
theorem b_retL {H : Hp} {N : Nat} {nx : L2.St → Hp → Prop} {rt : VK} {bk ct : L2.St → Hp → Prop} (e : Same B H) (bg : BagAt K B H m b N) (h : EL K m te σ B b k ds b1) (hk : k ≤ N)
    (c : ∀ p vs B' H', Gm (· = m) B H B' H' → BagAt K B' H' m b1 (N - k) → B' p = some (.lst vs) → DpAll K B' vs ds → rt (.ref p) H') : tRet te ⟨nx, rt, bk, ct⟩ σ H :=
  h B H (N - k) (Same.refl _) e (bag_cast bg (by omega)) _ fun p vs B' H' g bg' hp r => c p vs B' H' g bg' hp r
theorem b_asgL {H : Hp} {N : Nat} {nx : L2.St → Hp → Prop} {rt : VK} {bk ct : L2.St → Hp → Prop} {i : Nat} (e : Same B H) (bg : BagAt K B H m b N) (h : EL K m te σ B b k ds b1) (hk : k ≤ N)
    (c : ∀ p vs B' H', Gm (· = m) B H B' H' → BagAt K B' H' m b1 (N - k) → B' p = some (.lst vs) → DpAll K B' vs ds → nx (σ.set i (some (.ref p))) H') : tAsg te (gName i) ⟨nx, rt, bk, ct⟩ σ H :=
  h B H (N - k) (Same.refl _) e (bag_cast bg (by omega)) _ fun p vs B' H' g bg' hp r => c p vs B' H' g bg' hp r
theorem b_asg {H : Hp} {N : Nat} {nx : L2.St → Hp → Prop} {rt : VK} {bk ct : L2.St → Hp → Prop} {i : Nat} (e : Same B H) (bg : BagAt K B H m b N) (h : ES K m te σ B b k d b1) (hk : k ≤ N)
    (c : ∀ v B' H', Gm (· = m) B H B' H' → BagAt K B' H' m b1 (N - k) → Dp K B' v d → nx (σ.set i (some v)) H') : tAsg te (gName i) ⟨nx, rt, bk, ct⟩ σ H :=
  h B H (N - k) (Same.refl _) e (bag_cast bg (by omega)) _ fun v B' H' g bg' r => c v B' H' g bg' r
theorem b_ret {H : Hp} {N : Nat} {nx : L2.St → Hp → Prop} {rt : VK} {bk ct : L2.St → Hp → Prop} (e : Same B H) (bg : BagAt K B H m b N) (h : ES K m te σ B b k d b1) (hk : k ≤ N)
    (c : ∀ v B' H', Gm (· = m) B H B' H' → BagAt K B' H' m b1 (N - k) → Dp K B' v d → rt v H') : tRet te ⟨nx, rt, bk, ct⟩ σ H :=
  h B H (N - k) (Same.refl _) e (bag_cast bg (by omega)) _ fun v B' H' g bg' r => c v B' H' g bg' r
theorem b_if {H : Hp} {N : Nat} {Dn : Ends} {t u : TS} {z : Bool} (e : Same B H) (bg : BagAt K B H m b N) (h : XS K m tt σ B b k z b1) (hk : k ≤ N)
    (c1 : z = true → ∀ B' H', Gm (· = m) B H B' H' → BagAt K B' H' m b1 (N - k) → t Dn σ H') (c2 : z = false → ∀ B' H', Gm (· = m) B H B' H' → BagAt K B' H' m b1 (N - k) → u Dn σ H') : tIfS tt t u Dn σ H :=
  h B H (N - k) (Same.refl _) e (bag_cast bg (by omega)) _ fun B' H' g bg' => by
    cases z with
    | true => exact iteT (c1 rfl B' H' g bg')
    | false => exact iteF (c2 rfl B' H' g bg')
/-! ### comprehensions that draw -/
def mapV (f : BS → D → D) (g : BS → D → BS) : BS → List D → List D
  | _, [] => []
  | b, d :: ds => f b d :: mapV f g (g b d) ds
def mapB (g : BS → D → BS) : BS → List D → BS
  | b, [] => b
  | b, d :: ds => mapB g (g b d) ds
theorem mapB_snoc {g : BS → D → BS} : ∀ (ds : List D) (b : BS) (d : D), mapB g b (ds ++ [d]) = g (mapB g b ds) d
  | [], b, d => rfl
  | x :: ds, b, d => by simp [mapB, mapB_snoc ds]
theorem mapV_snoc {f : BS → D → D} {g : BS → D → BS} : ∀ (ds : List D) (b : BS) (d : D), mapV f g b (ds ++ [d]) = mapV f g b ds ++ [f (mapB g b ds) d]
  | [], b, d => rfl
  | x :: ds, b, d => by simp [mapV, mapB, mapV_snoc ds]
theorem mapV_len {f : BS → D → D} {g : BS → D → BS} : ∀ (ds : List D) (b : BS), (mapV f g b ds).length = ds.length
  | [], b => rfl
  | x :: ds, b => by simp [mapV, mapV_len ds]
structure LcB (K : PySem.W.Frag) (B1 H1 : Hp) (m : Addr) (b : BS) (n : Nat) (Da : Addr) (out : List D) (H' : Hp) : Prop where
  ex : ∃ B' vs, Gm (fun a => a = Da ∨ a = m) B1 H1 B' H' ∧ B' Da = none ∧ H' Da = some (.lst vs) ∧ DpAll K B' vs out ∧ BagAt K B' H' m b n
theorem lcb0 {H : Hp} {Da : Addr} {n : Nat} (e : Same B H) (bg : BagAt K B H m b n) (h : H Da = none) : LcB K B H m b n Da [] (upd H Da (.lst [])) := by
  have g : Gw B H B (upd H Da (.lst [])) := Gw.own e h
  exact ⟨B, [], g.weak (fun _ z => z.elim), base_none e h, upd_same, .nil, bg.up g⟩
theorem lcb_turn {B1 H : Hp} {Da : Addr} {out : List D} {H' : Hp} {te : TE} {σ2 : L2.St} {dd : D} {n ke : Nat} {Nx : Hp → Prop} (w : LcB K B1 H m b (n + ke) Da out H') (hD : H Da = none) (hm : H m ≠ none) (hz : out.length < 100000) (he : ES K m te σ2 B1 b ke dd b1) (kk : ∀ H5, LcB K B1 H m b1 n Da (out ++ [dd]) H5 → Nx H5) :
    te σ2 H' fun y H4 => ∃ acc, H4 Da = some (.lst acc) ∧ acc.length < sizeLine ∧ Nx (upd H4 Da (.lst (acc ++ [y]))) := by
  obtain ⟨B', vs, g, nb, hl, ha, bg⟩ := w.ex
  have hne : Da ≠ m := fun z => hm (z ▸ hD)
  refine he B' H' n g.b g.i bg _ fun y B2 H2 g2 bg2 r2 => ?_
  have n2 : B2 Da = none := g2.f Da nb (by rw [hl]; intro z; cases z)
  have h2 : H2 Da = some (.lst vs) := g2.r Da _ hne hl
  refine ⟨vs, h2, Nat.lt_of_lt_of_le (by rw [dpall_len ha]; exact hz) (by decide), kk _ ⟨B2, vs ++ [y], ?_, n2, upd_same, dpall_app (dps_up g2.b _ _ ha) (.cons r2 .nil), ?_⟩⟩
  · have st : ∀ a, (a = Da ∨ a = m) → H2 a ≠ none := fun a z => by
      rcases z with z | z
      · rw [z, h2]; intro q; cases q
      · rw [z]; exact bg2.ne
    refine Gm.trans (B1 := B2) (H1 := H2) (Gm.trans g (g2.weak fun _ z => .inr z) fun a z _ => ?_) ((Gm.mut g2.i n2).weak fun _ z => .inl z) fun a z _ => st a z
    rcases z with z | z
    · rw [z, hl]; intro q; cases q
    · rw [z]; exact bg.ne
  · exact ⟨bg2.nb, by rw [upd_ne (Ne.symm hne)]; exact bg2.at', bg2.ls, bg2.bits, bg2.i0, bg2.g0, bg2.c0, bg2.cn, bg2.s0, bg2.s1⟩
theorem lcb_done {B1 H : Hp} {Da : Addr} {out : List D} {H' : Hp} {n : Nat} (w : LcB K B1 H m b n Da out H') (hD : H Da = none) (hm : H m ≠ none) : ∃ B' vs, Gm (· = m) B1 H B' H' ∧ B' Da = some (.lst vs) ∧ DpAll K B' vs out ∧ BagAt K B' H' m b n := by
  obtain ⟨B', vs, g, nb, hl, ha, bg⟩ := w.ex
  have hne : Da ≠ m := fun z => hm (z ▸ hD)
  have kk : Same B' (upd B' Da (.lst vs)) := fun a o q => by rw [upd_ne (ne_of_none q nb)]; exact q
  refine ⟨upd B' Da (.lst vs), vs, ⟨g.b.trans kk, fun a o q => ?_, fun a o z q => ?_, fun a q nn => ?_⟩, upd_same, dps_up kk _ _ ha, ?_⟩
  · by_cases z : a = Da
    · subst z; rw [upd_same] at q; cases q; exact hl
    · rw [upd_ne z] at q; exact g.i a o q
  · refine g.r a o (fun zz => ?_) q
    rcases zz with zz | zz
    · subst zz; rw [hD] at q; cases q
    · exact z zz
  · have z : a ≠ Da := fun z => nn (z ▸ hD)
    rw [upd_ne z]
    exact g.f a q nn
  · exact ⟨by rw [upd_ne (Ne.symm hne)]; exact bg.nb, bg.at', kk.seq bg.ls, bg.bits, bg.i0, bg.g0, bg.c0, bg.cn, bg.s0, bg.s1⟩
theorem el_lc {tl : TE} {j : Nat} {ds : List D} {f : BS → D → D} {gB : BS → D → BS} {vs : List Nat} {ke : Nat} (h : ES K m tl σ B b k x b1) (sd : SeqD x ds) (hz : ds.length ≤ 90000) (hw : ∀ x, wipe ((wipe σ vs).set j (some x)) vs = wipe σ vs)
    (he : ∀ dd v B1 bb, dd ∈ ds → Same B B1 → Dp K B1 v dd → ES K m te ((wipe σ vs).set j (some v)) B1 bb ke (f bb dd) (gB bb dd)) : EL K m (tLc (iSeq K tl) (gName j) tYes te vs) σ B b (k + ds.length * ke) (mapV f gB b1 ds) (mapB gB b1 ds) := fun B0 H n s0 e bg Q q =>
  h B0 H (n + ds.length * ke) s0 e (bag_cast bg (by omega)) _ fun v B1 H1 g1 bg1 r1 => by
  have go : ∀ {us : List V} {Da : Addr}, H1 Da = none → DpAll K B1 us ds → ∀ i x H', us[i]? = some x → LcB K B1 H1 m (mapB gB b1 (ds.take i)) (n + (ds.length - i) * ke) Da (mapV f gB b1 (ds.take i)) H' →
      tYes ((wipe σ vs).set j (some x)) H' fun bo H3 => if bo = true then te ((wipe σ vs).set j (some x)) H3 fun y H4 => ∃ acc, H4 Da = some (.lst acc) ∧ acc.length < sizeLine ∧ LcB K B1 H1 m (mapB gB b1 (ds.take (i + 1))) (n + (ds.length - (i + 1)) * ke) Da (mapV f gB b1 (ds.take (i + 1))) (upd H4 Da (.lst (acc ++ [y])))
        else LcB K B1 H1 m (mapB gB b1 (ds.take (i + 1))) (n + (ds.length - (i + 1)) * ke) Da (mapV f gB b1 (ds.take (i + 1))) H3 := fun {us Da} hD ha i x H' hx w => by
    refine yes_at ?_
    have hi := (List.getElem?_eq_some_iff.mp hx).1
    rw [dpall_len ha] at hi
    have hd := List.getElem?_eq_getElem hi
    obtain ⟨w', e1, e2⟩ := dpall_get ha hd
    rw [hx] at e1
    cases e1
    have hn : n + (ds.length - i) * ke = n + (ds.length - (i + 1)) * ke + ke := by
      have : ds.length - i = (ds.length - (i + 1)) + 1 := by omega
      rw [this, Nat.add_mul, Nat.one_mul]
      omega
    rw [hn] at w
    refine lcb_turn w hD bg1.ne (by rw [mapV_len, List.length_take]; omega) (he _ _ B1 _ (List.getElem_mem hi) (s0.trans g1.b) e2) fun H5 w5 => ?_
    rw [take_succ' hd, mapV_snoc, mapB_snoc]
    exact w5
  have st0 : LcB K B1 H1 m (mapB gB b1 (ds.take 0)) (n + (ds.length - 0) * ke) 0 [] H1 → True := fun _ => trivial
  have fin : ∀ {us : List V} {Da : Addr} {H' : Hp}, us.length = ds.length → H1 Da = none → LcB K B1 H1 m (mapB gB b1 (ds.take us.length)) (n + (ds.length - us.length) * ke) Da (mapV f gB b1 (ds.take us.length)) H' → Q (.ref Da) H' := fun {us Da H'} hl hD w => by
    rw [hl, List.take_length, Nat.sub_self, Nat.zero_mul] at w
    obtain ⟨B', us', g, hp, r, bg'⟩ := lcb_done w hD bg1.ne
    exact q _ _ B' H' (g1.thm g bg1.ne) bg' hp r
  cases sd with
  | l ds =>
    cases r1 with
    | lst hs ha =>
      rename_i aL xsL
      refine ⟨_, _, rfl, .inl ⟨g1.i.seq hs, fun Da hD => lc_list (xs := xsL) (fun i H' => LcB K B1 H1 m (mapB gB b1 (ds.take i)) (n + (ds.length - i) * ke) Da (mapV f gB b1 (ds.take i)) H') (lcb0 g1.i bg1 hD) (fun i H' _ w => ?_) (fun i x H' hx w => ⟨hw x, go hD ha i x H' hx w⟩) (fun H' w => fin (dpall_len ha) hD w)⟩⟩
      obtain ⟨B', vs', g, _⟩ := w.ex
      exact (g.b.trans g.i).seq hs
  | t ds =>
    cases r1 with
    | tup hs ha =>
      rename_i aL xsL
      refine ⟨_, _, rfl, .inr ⟨seqT_up g1.i hs, fun Da hD => lc_tup (xs := xsL) (fun i H' => LcB K B1 H1 m (mapB gB b1 (ds.take i)) (n + (ds.length - i) * ke) Da (mapV f gB b1 (ds.take i)) H') (lcb0 g1.i bg1 hD) (fun i H' _ w => ?_) (fun i x H' hx w => ⟨hw x, go hD ha i x H' hx w⟩) (fun H' w => fin (dpall_len ha) hD w)⟩⟩
      obtain ⟨B', vs', g, _⟩ := w.ex
      exact seqT_up (g.b.trans g.i) hs
def itV (f : BS → Nat → D) (g : BS → Nat → BS) : BS → Nat → List D
  | _, 0 => []
  | b, n + 1 => itV f g b n ++ [f (Nat.rec b (fun i x => g x i) n) n]
def itB (g : BS → Nat → BS) (b : BS) (n : Nat) : BS := Nat.rec b (fun i x => g x i) n
theorem itV_len {f : BS → Nat → D} {g : BS → Nat → BS} (b : BS) : ∀ n, (itV f g b n).length = n
  | 0 => rfl
  | n + 1 => by simp [itV, itV_len b n]
theorem el_lcR {tn : TE} {j : Nat} {N : Int} {f : BS → Nat → D} {gB : BS → Nat → BS} {vs : List Nat} {ke : Nat} (h : ES K m tn σ B b k (.int N) b1) (hz : -1000 ≤ N ∧ N ≤ 90000) (hw : ∀ x, wipe ((wipe σ vs).set j (some x)) vs = wipe σ vs)
    (he : ∀ (i : Nat) B1 bb, i < N.toNat → Same B B1 → ES K m te ((wipe σ vs).set j (some (.int (i : Int)))) B1 bb ke (f bb i) (gB bb i)) : EL K m (tLc (iRng1 (tCons tn tNil)) (gName j) tYes te vs) σ B b (k + N.toNat * ke) (itV f gB b1 N.toNat) (itB gB b1 N.toNat) := fun B0 H n s0 e bg Q q =>
  h B0 H (n + N.toNat * ke) s0 e (bag_cast bg (by omega)) _ fun v B1 H1 g1 bg1 r1 => by
  cases r1
  refine ⟨N, rfl, by omega, by omega, fun Da hD => lc_range (lo := 0) (n := N.toNat) (fun i H' => LcB K B1 H1 m (itB gB b1 i) (n + (N.toNat - i) * ke) Da (itV f gB b1 i) H') (lcb0 g1.i bg1 hD) (fun i H' hi w => ?_) (fun H' w => ?_)⟩
  · have z : (0 : Int) + (i : Int) = (i : Int) := Int.zero_add _
    rw [z]
    refine ⟨hw _, yes_at ?_⟩
    have hn : n + (N.toNat - i) * ke = n + (N.toNat - (i + 1)) * ke + ke := by
      have : N.toNat - i = (N.toNat - (i + 1)) + 1 := by omega
      rw [this, Nat.add_mul, Nat.one_mul]
      omega
    rw [hn] at w
    exact lcb_turn w hD bg1.ne (by rw [itV_len]; omega) (he i B1 _ hi (s0.trans g1.b)) fun H5 w5 => w5
  · rw [Nat.sub_self, Nat.zero_mul] at w
    obtain ⟨B', us', g, hp, r, bg'⟩ := lcb_done w hD bg1.ne
    exact q _ _ B' H' (g1.thm g bg1.ne) bg' hp r
/-! ### x[i] = e, x a list that was just made -/
theorem adopt {B H B2 H3 : Hp} {p : Addr} {us us' : List V} {n : Nat} (e : Same B H) (hp : H p = none) (hm : H m ≠ none) (g : Gm (· = m) B (upd H p (.lst us)) B2 H3) (hb : B2 p = none) (bg : BagAt K B2 H3 m b n) :
    Gm (· = m) B H (upd B2 p (.lst us')) (upd H3 p (.lst us')) ∧ BagAt K (upd B2 p (.lst us')) (upd H3 p (.lst us')) m b n ∧ Same B2 (upd B2 p (.lst us')) := by
  have hne : p ≠ m := fun z => hm (z ▸ hp)
  have k : Same B2 (upd B2 p (.lst us')) := fun a o q => by rw [upd_ne (ne_of_none q hb)]; exact q
  refine ⟨⟨g.b.trans k, fun a o q => ?_, fun a o z q => ?_, fun a q nn => ?_⟩, ⟨by rw [upd_ne (Ne.symm hne)]; exact bg.nb, by rw [upd_ne (Ne.symm hne)]; exact bg.at', k.seq bg.ls, bg.bits, bg.i0, bg.g0, bg.c0, bg.cn, bg.s0, bg.s1⟩, k⟩
  · by_cases z : a = p
    · subst z; rw [upd_same] at q ⊢; exact q
    · rw [upd_ne z] at q ⊢; exact g.i a o q
  · have z2 : a ≠ p := fun z => by rw [z, hp] at q; cases q
    rw [upd_ne z2]
    exact g.r a o z (by rw [upd_ne z2]; exact q)
  · have z : a ≠ p := fun z => nn (z ▸ hp)
    rw [upd_ne z]
    exact g.f a q (by rw [upd_ne z]; exact nn)
theorem dpall_set {vs : List V} : ∀ {ds : List D} {v : V} {d : D} (q : Nat) {B : Hp}, DpAll K B vs ds → Dp K B v d → DpAll K B (vs.set q v) (ds.set q d) := by
  induction vs with
  | nil => intro ds v d q B h r; cases h; exact .nil
  | cons x vs ih =>
    intro ds v d q B h r
    cases h with
    | cons h1 h2 => cases q with
      | zero => exact .cons r h2
      | succ q => exact .cons h1 (ih q h2 r)
/-- x[draw(bag, len(x))] = e -/
theorem b_setD {H : Hp} {N : Nat} {nx : L2.St → Hp → Prop} {rt : VK} {bk ct : L2.St → Hp → Prop} {i jb : Nat} {p : Addr} {us : List V} {E : XK} (e : Same B H) (hp : H p = none) (bg : BagAt K B H m b N) (hu : DpAll K B us ds) (hl : 1 ≤ us.length ∧ us.length ≤ 100000)
    (hs : σ[i]? = some (some (.ref p))) (hsb : σ[jb]? = some (some (.ref m))) (hv : ES K m ta σ B b k1 d b1) (hk : k1 + 1 ≤ N)
    (c : ∀ vs' B' H', Gm (· = m) B H B' H' → BagAt K B' H' m (db b1 us.length) (N - (k1 + 1)) → B' p = some (.lst vs') → DpAll K B' vs' (ds.set (dv b1 us.length).toNat d) → nx σ H') :
    tAsg ta (gSub (tVar i) (tCall (spDraw K) [] E (tCons (tVar jb) (tCons (tCB (rLenA K) (tCons (tVar i) tNil)) tNil))) rSetL) ⟨nx, rt, bk, ct⟩ σ (upd H p (.lst us)) := by
  have g0 : Gw B H B (upd H p (.lst us)) := Gw.own e hp
  have hne : p ≠ m := fun z => bg.ne (z ▸ hp)
  refine hv B _ (N - (k1 + 1) + 1) (Same.refl _) g0.i (bag_cast (bg.up g0) (by omega)) _ fun v B2 H2 g2 bg2 r2 => ?_
  have h2 : H2 p = some (.lst us) := g2.r p _ hne upd_same
  have hb2 : B2 p = none := g2.f p (base_none e hp) (by rw [upd_same]; intro z; cases z)
  have hr := draw_range (b := b1) (lim := (us.length : Int)) (by omega)
  refine ⟨_, hs, _, hsb, _, hs, ⟨_, _, rfl, .inl ⟨_, SqL.of h2, rfl⟩, B2, m, b1, N - (k1 + 1), us.length, rfl, g2.i, bg2, by omega, ?_, fun H3 g3 bg3 => ?_⟩⟩
  · have : (100000 : Int) ≤ 10 ^ 30 := by decide
    omega
  · have h3 : H3 p = some (.lst us) := g3.r p _ hne h2
    refine ⟨p, us, _, (dv b1 us.length).toNat, rfl, rfl, h3, ?_, ?_⟩
    · simp only [ixN, hr.1, hr.2, if_true]
    · obtain ⟨a1, a2, a3⟩ := adopt (us' := us.set (dv b1 us.length).toNat v) e hp bg.ne (g2.thm g3 bg2.ne) hb2 bg3
      exact c _ _ _ a1 a2 upd_same (dps_up a3 _ _ (dpall_set _ (dps_up g2.b _ _ hu) r2))
/-- x[j] = e, j at a slot -/
theorem b_setV {H : Hp} {N : Nat} {nx : L2.St → Hp → Prop} {rt : VK} {bk ct : L2.St → Hp → Prop} {i jb : Nat} {p : Addr} {us : List V} {j : Int} (e : Same B H) (hp : H p = none) (bg : BagAt K B H m b N) (hu : DpAll K B us ds) (hl : 0 ≤ j ∧ j < us.length)
    (hs : σ[i]? = some (some (.ref p))) (hsb : σ[jb]? = some (some (.int j))) (hv : ES K m ta σ B b k1 d b1) (hk : k1 ≤ N)
    (c : ∀ vs' B' H', Gm (· = m) B H B' H' → BagAt K B' H' m b1 (N - k1) → B' p = some (.lst vs') → DpAll K B' vs' (ds.set j.toNat d) → nx σ H') :
    tAsg ta (gSub (tVar i) (tVar jb) rSetL) ⟨nx, rt, bk, ct⟩ σ (upd H p (.lst us)) := by
  have g0 : Gw B H B (upd H p (.lst us)) := Gw.own e hp
  have hne : p ≠ m := fun z => bg.ne (z ▸ hp)
  refine hv B _ (N - k1) (Same.refl _) g0.i (bag_cast (bg.up g0) (by omega)) _ fun v B2 H2 g2 bg2 r2 => ?_
  have h2 : H2 p = some (.lst us) := g2.r p _ hne upd_same
  have hb2 : B2 p = none := g2.f p (base_none e hp) (by rw [upd_same]; intro z; cases z)
  refine ⟨_, hs, _, hsb, p, us, _, j.toNat, rfl, rfl, h2, ?_, ?_⟩
  · simp only [ixN, hl.1, hl.2, if_true]
  · obtain ⟨a1, a2, a3⟩ := adopt (us' := us.set j.toNat v) e hp bg.ne g2 hb2 bg2
    exact c _ _ _ a1 a2 upd_same (dps_up a3 _ _ (dpall_set _ (dps_up g2.b _ _ hu) r2))
/-! ### more expressions -/
theorem el_ifT (h : XS K m tt σ B b k1 true b1) (h1 : EL K m ta σ B b1 k2 ds b2) : EL K m (tIf tt ta tb) σ B b (k1 + k2) ds b2 := fun B1 H n s1 e bg Q q =>
  h B1 H (n + k2) s1 e (bag_cast bg (by omega)) _ fun B2 H2 g2 bg2 => iteT (h1 B2 H2 n (s1.trans g2.b) g2.i bg2 _ fun p vs B3 H3 g3 bg3 hp r3 => q p vs B3 H3 (g2.thm g3 bg2.ne) bg3 hp r3)
theorem el_ifF (h : XS K m tt σ B b k1 false b1) (h1 : EL K m tb σ B b1 k2 ds b2) : EL K m (tIf tt ta tb) σ B b (k1 + k2) ds b2 := fun B1 H n s1 e bg Q q =>
  h B1 H (n + k2) s1 e (bag_cast bg (by omega)) _ fun B2 H2 g2 bg2 => iteF (h1 B2 H2 n (s1.trans g2.b) g2.i bg2 _ fun p vs B3 H3 g3 bg3 hp r3 => q p vs B3 H3 (g2.thm g3 bg2.ne) bg3 hp r3)
theorem de_neg {i : Int} (h : DE K te σ B (.int i)) : DE K (tUn (rU fun i => V.int (-i)) te) σ B (.int (-i)) := fun H e Q q => h H e _ fun v B' H' g r => by
  cases r
  exact ⟨i, rfl, q _ B' H' g (.int _)⟩
theorem dl_listRg {n : Int} (h : DE K te σ B (.int n)) (hz : -1000 ≤ n ∧ n ≤ 90000) : DL K (tLstRg (tRg1 te)) σ B ((List.range n.toNat).map fun (i : Nat) => .int (i : Int)) := fun H e Q q => h H e _ fun v B1 H1 g1 r1 => by
  cases r1
  refine ⟨n, rfl, ⟨by omega, by omega, by omega, by omega, by omega⟩, fun p hp => ?_⟩
  have hv : rgV 0 n = ((List.range n.toNat).map fun (i : Nat) => (i : Int)).map V.int := by simp [rgV]
  have hd : ((List.range n.toNat).map fun (i : Nat) => PyData.int (i : Int)) = ((List.range n.toNat).map fun (i : Nat) => (i : Int)).map PyData.int := by simp
  have g2 : Gw B1 H1 (upd B1 p (.lst (rgV 0 n))) (upd H1 p (.lst (rgV 0 n))) := Gw.new g1.i hp
  refine q p _ _ _ (g1.trans g2) upd_same ?_
  rw [hv, hd]
  exact dpall_intsI
end
end Co
namespace Fx
open PySem PySem.Spec PyProof.Rows L2 Co
/-! ### values of the mirror: what never changes is a tree; what may change is a cell, by its number -/
inductive PV where
  | non
  | bl (b : Bool)
  | int (i : Int)
  | str (s : Str)
  | tup (xs : List PV)
  | lst (xs : List PV)
  | kls (xs : List PV)
  | obj (c : String) (ns : List Str) (xs : List PV)
  | mu (n : Nat)
  | xv (n : Nat)
deriving Inhabited
inductive Cell where
  | lst (xs : List PV)
  | obj (c : String) (ns : List Str) (xs : List PV)
  | dead
deriving Inhabited
abbrev Sta := List Cell
abbrev Env := List (Option PV)
inductive Out (α : Type) where
  | ok (a : α) (S : Sta)
  | ex (c : String) (xs : List PV) (S : Sta)
  | stuck
inductive Flow where
  | nx (ε : Env) (S : Sta)
  | rt (p : PV) (S : Sta)
  | bk (ε : Env) (S : Sta)
  | ct (ε : Env) (S : Sta)
  | ex (c : String) (xs : List PV) (ε : Env) (S : Sta)
  | stuck
/-- the written part, the addresses of the classes, the fields of each class in the order in which they are set -/
structure Md where
  K : PySem.W.Frag
  AD : String → Addr
  fl : String → List Str
  er : String → Bool
/-- what a number of the state stands for: a thing that may change, or an error that was caught -/
inductive Slot where
  | own (a : Addr)
  | exc (a : Addr)
structure Wd where
  B : Hp
  ρ : List Slot
/-- an instance of an own class, or an error held as a value -/
def ObjB (M : Md) (W : Wd) (a : Addr) (c : String) (ns : List Str) (vs : List V) : Prop :=
  (M.er c = false ∧ ∃ dx, W.B a = some (.ins (M.AD c) dx (ns.zip vs)) ∧ W.B dx = some (.own a)) ∨
    (M.er c = true ∧ ns = M.fl c ∧ ((ns = [] ∧ W.B a = some (exo a (M.AD c) none)) ∨ ∃ dx, ns ≠ [] ∧ W.B a = some (exo a (M.AD c) (some dx)) ∧ W.B dx = some (exd dx (ns.zip vs).reverse)))
theorem ObjB.up {M : Md} {W W' : Wd} {a : Addr} {c : String} {ns : List Str} {vs : List V} (e : Same W.B W'.B) (h : ObjB M W a c ns vs) : ObjB M W' a c ns vs := by
  rcases h with ⟨h0, dx, h1, h2⟩ | ⟨h0, hf, ⟨h1, h2⟩ | ⟨dx, h1, h2, h3⟩⟩
  · exact .inl ⟨h0, dx, e _ _ h1, e _ _ h2⟩
  · exact .inr ⟨h0, hf, .inl ⟨h1, e _ _ h2⟩⟩
  · exact .inr ⟨h0, hf, .inr ⟨dx, h1, e _ _ h2, e _ _ h3⟩⟩
mutual
inductive Rp (M : Md) (W : Wd) : V → PV → Prop
  | non : Rp M W .non .non
  | bl (b : Bool) : Rp M W (.bl b) (.bl b)
  | int (i : Int) : Rp M W (.int i) (.int i)
  | str (s : Str) : Rp M W (.str s) (.str s)
  | tup {a : Addr} {vs : List V} {xs : List PV} : SqT M.K W.B a vs → RpA M W vs xs → Rp M W (.ref a) (.tup xs)
  | lst {a : Addr} {vs : List V} {xs : List PV} : W.B a = some (.lst vs) → RpA M W vs xs → Rp M W (.ref a) (.lst xs)
  | kls {a : Addr} {vs : List V} {xs : List PV} : SqL M.K W.B a vs → RpA M W vs xs → Rp M W (.ref a) (.kls xs)
  | obj {a : Addr} {c : String} {ns : List Str} {vs : List V} {xs : List PV} : ObjB M W a c ns vs → ns.length = xs.length → RpA M W vs xs → Rp M W (.ref a) (.obj c ns xs)
  | mu {n : Nat} {a : Addr} : W.ρ[n]? = some (.own a) → Rp M W (.ref a) (.mu n)
  | xv {n : Nat} {a : Addr} : W.ρ[n]? = some (.exc a) → Rp M W (.ref a) (.xv n)
inductive RpA (M : Md) (W : Wd) : List V → List PV → Prop
  | nil : RpA M W [] []
  | cons {v : V} {vs : List V} {p : PV} {ps : List PV} : Rp M W v p → RpA M W vs ps → RpA M W (v :: vs) (p :: ps)
end
structure Le (W W' : Wd) : Prop where
  b : Same W.B W'.B
  ρ : W.ρ <+: W'.ρ
theorem Le.refl (W : Wd) : Le W W := ⟨Same.refl _, List.prefix_refl _⟩
theorem Le.trans {W W1 W2 : Wd} (h : Le W W1) (k : Le W1 W2) : Le W W2 := ⟨h.b.trans k.b, h.ρ.trans k.ρ⟩
theorem pre_get {α : Type} {xs ys : List α} (h : xs <+: ys) {n : Nat} {a : α} (q : xs[n]? = some a) : ys[n]? = some a := by
  obtain ⟨t, rfl⟩ := h
  rw [List.getElem?_append_left (List.getElem?_eq_some_iff.mp q).1]
  exact q
mutual
theorem rp_up {M : Md} {W W' : Wd} (e : Le W W') : ∀ (p : PV) (v : V), Rp M W v p → Rp M W' v p
  | .non, _, h => by cases h; exact .non
  | .bl b, _, h => by cases h; exact .bl b
  | .int i, _, h => by cases h; exact .int i
  | .str x, _, h => by cases h; exact .str x
  | .tup xs, _, h => by
    cases h with
    | tup hs ha => exact .tup (seqT_up e.b hs) (rpa_up e xs _ ha)
  | .lst xs, _, h => by
    cases h with
    | lst hs ha => exact .lst (e.b _ _ hs) (rpa_up e xs _ ha)
  | .kls xs, _, h => by
    cases h with
    | kls hs ha => exact .kls (e.b.seq hs) (rpa_up e xs _ ha)
  | .obj c ns xs, _, h => by
    cases h with
    | obj h1 h3 ha => exact .obj (h1.up e.b) h3 (rpa_up e xs _ ha)
  | .mu n, _, h => by
    cases h with
    | mu h => exact .mu (pre_get e.ρ h)
  | .xv n, _, h => by
    cases h with
    | xv h => exact .xv (pre_get e.ρ h)
theorem rpa_up {M : Md} {W W' : Wd} (e : Le W W') : ∀ (ps : List PV) (vs : List V), RpA M W vs ps → RpA M W' vs ps
  | [], _, h => by cases h; exact .nil
  | p :: ps, _, h => by
    cases h with
    | cons h1 h2 => exact .cons (rp_up e p _ h1) (rpa_up e ps _ h2)
end
theorem rpa_len {M : Md} {W : Wd} : ∀ {ps : List PV} {vs : List V}, RpA M W vs ps → vs.length = ps.length
  | [], _, h => by cases h; rfl
  | p :: ps, _, h => by cases h with | cons h1 h2 => rw [List.length_cons, List.length_cons, rpa_len h2]
theorem rpa_app {M : Md} {W : Wd} {vs ws : List V} {ds es : List PV} (h : RpA M W vs ds) (k : RpA M W ws es) : RpA M W (vs ++ ws) (ds ++ es) := by
  induction vs generalizing ds with
  | nil => cases h; exact k
  | cons v vs ih => cases h with | cons h1 h2 => exact .cons h1 (ih h2)
theorem rpa_get {M : Md} {W : Wd} {vs : List V} : ∀ {ps : List PV} {i : Nat} {p : PV}, RpA M W vs ps → ps[i]? = some p → ∃ v, vs[i]? = some v ∧ Rp M W v p := by
  induction vs with
  | nil => intro ds i d h e; cases h; simp at e
  | cons v vs ih =>
    intro ds i d h e
    cases h with
    | cons h1 h2 =>
      cases i with
      | zero => simp at e; subst e; exact ⟨v, by simp, h1⟩
      | succ i => obtain ⟨w, a, b⟩ := ih (i := i) h2 (by simpa using e); exact ⟨w, by simpa using a, b⟩
theorem rpa_get' {M : Md} {W : Wd} {vs : List V} {ps : List PV} {i : Nat} {v : V} (h : RpA M W vs ps) (e : vs[i]? = some v) : ∃ p, ps[i]? = some p ∧ Rp M W v p := by
  have hi := (List.getElem?_eq_some_iff.mp e).1
  rw [rpa_len h] at hi
  obtain ⟨w, a, b⟩ := rpa_get h (List.getElem?_eq_getElem hi)
  rw [e] at a
  cases a
  exact ⟨_, List.getElem?_eq_getElem hi, b⟩
theorem rpa_take {M : Md} {W : Wd} {vs : List V} : ∀ {ds : List PV} (n : Nat), RpA M W vs ds → RpA M W (vs.take n) (ds.take n) := by
  induction vs with
  | nil => intro ds n h; cases h; simp; exact .nil
  | cons v vs ih => intro ds n h; cases h with
    | cons h1 h2 => cases n with
      | zero => exact .nil
      | succ n => exact .cons h1 (ih n h2)
theorem rpa_drop {M : Md} {W : Wd} {vs : List V} : ∀ {ds : List PV} (n : Nat), RpA M W vs ds → RpA M W (vs.drop n) (ds.drop n) := by
  induction vs with
  | nil => intro ds n h; cases h; simp; exact .nil
  | cons v vs ih => intro ds n h; cases n with
    | zero => exact h
    | succ n => cases h with | cons h1 h2 => exact ih n h2
theorem rpa_set {M : Md} {W : Wd} {vs : List V} {v : V} {p : PV} (hv : Rp M W v p) : ∀ {ds : List PV} (n : Nat), RpA M W vs ds → RpA M W (vs.set n v) (ds.set n p) := by
  induction vs with
  | nil => intro ds n h; cases h; exact .nil
  | cons w vs ih => intro ds n h; cases h with
    | cons h1 h2 => cases n with
      | zero => exact .cons hv h2
      | succ n => exact .cons h1 (ih n h2)
/-! ### the heap beside the state -/
def CellR (M : Md) (W : Wd) (H : Hp) (a : Addr) : Cell → Prop
  | .lst xs => W.B a = none ∧ ∃ vs, H a = some (.lst vs) ∧ RpA M W vs xs
  | .obj c ns xs => W.B a = none ∧ M.er c = false ∧ ns.length = xs.length ∧ ∃ dx vs, H a = some (.ins (M.AD c) dx (ns.zip vs)) ∧ W.B dx = some (.own a) ∧ RpA M W vs xs
  | .dead => True
theorem CellR.up {M : Md} {W W' : Wd} {H H' : Hp} {a : Addr} {c : Cell} (e : Le W W') (hb : W'.B a = W.B a) (hh : H' a = H a) (h : CellR M W H a c) : CellR M W' H' a c := by
  cases c with
  | lst xs =>
    obtain ⟨n, vs, h1, h2⟩ := h
    exact ⟨hb.trans n, vs, hh.trans h1, rpa_up e _ _ h2⟩
  | obj c ns xs =>
    obtain ⟨n, er, l, dx, vs, h1, h2, h3⟩ := h
    exact ⟨hb.trans n, er, l, dx, vs, hh.trans h1, e.b _ _ h2, rpa_up e _ _ h3⟩
  | dead => exact trivial
structure Rel (M : Md) (W : Wd) (H : Hp) (S : Sta) : Prop where
  i : Same W.B H
  len : W.ρ.length = S.length
  nd : ∀ (n m : Nat) (a : Addr), W.ρ[n]? = some (.own a) → W.ρ[m]? = some (.own a) → n = m
  al : ∀ a, Slot.own a ∈ W.ρ → H a ≠ none
  c : ∀ (n : Nat) (a : Addr) (c : Cell), W.ρ[n]? = some (.own a) → S[n]? = some c → CellR M W H a c
structure Go (W : Wd) (H : Hp) (W' : Wd) (H' : Hp) : Prop where
  b : Same W.B W'.B
  ρ : W.ρ <+: W'.ρ
  p : ∀ a, W.B a = none → Slot.own a ∉ W.ρ → H a ≠ none → W'.B a = none ∧ Slot.own a ∉ W'.ρ ∧ H' a = H a
theorem Go.le {W W' : Wd} {H H' : Hp} (g : Go W H W' H') : Le W W' := ⟨g.b, g.ρ⟩
theorem Go.refl (W : Wd) (H : Hp) : Go W H W H := ⟨Same.refl _, List.prefix_refl _, fun _ h1 h2 _ => ⟨h1, h2, rfl⟩⟩
theorem Go.trans {W W1 W2 : Wd} {H H1 H2 : Hp} (g : Go W H W1 H1) (h : Go W1 H1 W2 H2) : Go W H W2 H2 :=
  ⟨g.b.trans h.b, g.ρ.trans h.ρ, fun a q1 q2 q3 => by
    obtain ⟨x1, x2, x3⟩ := g.p a q1 q2 q3
    obtain ⟨y1, y2, y3⟩ := h.p a x1 x2 (by rw [x3]; exact q3)
    exact ⟨y1, y2, y3.trans x3⟩⟩
section
variable {M : Md} {W W' Wa : Wd} {H H' Ha : Hp} {S S' : Sta}
theorem Rel.none_b (r : Rel M W H S) {a : Addr} (h : H a = none) : W.B a = none := base_none r.i h
theorem Rel.none_ρ (r : Rel M W H S) {a : Addr} (h : H a = none) : Slot.own a ∉ W.ρ := fun q => r.al a q h
/-- a new thing that never changes -/
theorem Rel.new (r : Rel M W H S) {p : Addr} {o : HO} (h : H p = none) : Rel M ⟨upd W.B p o, W.ρ⟩ (upd H p o) S ∧ Go W H ⟨upd W.B p o, W.ρ⟩ (upd H p o) := by
  have sb : Same W.B (upd W.B p o) := fun a u q => by rw [upd_ne (ne_of_none (r.i a u q) h)]; exact q
  refine ⟨⟨fun a u q => ?_, r.len, r.nd, fun a ha => ?_, fun n a c h1 h2 => ?_⟩, sb, List.prefix_refl _, fun a q1 q2 q3 => ?_⟩
  · have q' : upd W.B p o a = some u := q
    by_cases z : a = p
    · subst z; rw [upd_same] at q' ⊢; exact q'
    · rw [upd_ne z] at q' ⊢; exact r.i a u q'
  · have : a ≠ p := fun z => r.al a ha (z ▸ h)
    rw [upd_ne this]; exact r.al a ha
  · have ne : a ≠ p := fun z => r.al a (List.mem_of_getElem? h1) (z ▸ h)
    exact (r.c n a c h1 h2).up ⟨sb, List.prefix_refl _⟩ (upd_ne ne) (upd_ne ne)
  · have ne : a ≠ p := fun z => q3 (z ▸ h)
    exact ⟨(upd_ne ne).trans q1, q2, upd_ne ne⟩
theorem snoc_get {α : Type} {xs : List α} {x y : α} {n : Nat} (h : (xs ++ [x])[n]? = some y) : xs[n]? = some y ∨ (n = xs.length ∧ x = y) := by
  by_cases hn : n < xs.length
  · rw [List.getElem?_append_left hn] at h; exact .inl h
  · have := (List.getElem?_eq_some_iff.mp h).1
    have e : n = xs.length := by simp at this; omega
    subst e
    rw [List.getElem?_append_right (Nat.le_refl _)] at h
    exact .inr ⟨rfl, by simpa using h⟩
/-- a private thing becomes one that never changes -/
theorem Rel.adopt (r : Rel M W H S) {p : Addr} {o : HO} (h : H p = some o) (nb : W.B p = none) (nr : Slot.own p ∉ W.ρ) : Rel M ⟨upd W.B p o, W.ρ⟩ H S ∧ ∀ Wa Ha, Ha p = none → Go Wa Ha W H → Go Wa Ha ⟨upd W.B p o, W.ρ⟩ H := by
  have sb : Same W.B (upd W.B p o) := fun a u q => by rw [upd_ne (ne_of_none q nb)]; exact q
  refine ⟨⟨fun a u q => ?_, r.len, r.nd, r.al, fun n a c h1 h2 => ?_⟩, fun Wa Ha hp g => ⟨g.b.trans sb, g.ρ, fun a q1 q2 q3 => ?_⟩⟩
  · have q' : upd W.B p o a = some u := q
    by_cases z : a = p
    · subst z; rw [upd_same] at q'; rw [h]; exact q'
    · rw [upd_ne z] at q'; exact r.i a u q'
  · have ne : a ≠ p := fun z => nr (z ▸ List.mem_of_getElem? h1)
    exact (r.c n a c h1 h2).up ⟨sb, List.prefix_refl _⟩ (upd_ne ne) rfl
  · obtain ⟨x1, x2, x3⟩ := g.p a q1 q2 q3
    have ne : a ≠ p := fun z => q3 (z ▸ hp)
    exact ⟨(upd_ne ne).trans x1, x2, x3⟩
/-- a private thing becomes a cell -/
theorem Rel.adoptC (r : Rel M W H S) {p : Addr} {o : HO} {c : Cell} (h : H p = some o) (nr : Slot.own p ∉ W.ρ) (hc : CellR M ⟨W.B, W.ρ ++ [.own p]⟩ H p c) : Rel M ⟨W.B, W.ρ ++ [.own p]⟩ H (S ++ [c]) ∧ ∀ Wa Ha, Ha p = none → Go Wa Ha W H → Go Wa Ha ⟨W.B, W.ρ ++ [.own p]⟩ H := by
  have le : Le W ⟨W.B, W.ρ ++ [.own p]⟩ := ⟨Same.refl _, List.prefix_append _ _⟩
  refine ⟨⟨r.i, by simp [r.len], fun n m a h1 h2 => ?_, fun a ha => ?_, fun n a c' h1 h2 => ?_⟩, fun Wa Ha hp g => ⟨g.b, g.ρ.trans le.ρ, fun a q1 q2 q3 => ?_⟩⟩
  · rcases snoc_get h1 with k1 | ⟨k1, e1⟩ <;> rcases snoc_get h2 with k2 | ⟨k2, e2⟩
    · exact r.nd n m a k1 k2
    · cases e2; exact absurd (List.mem_of_getElem? k1) nr
    · cases e1; exact absurd (List.mem_of_getElem? k2) nr
    · omega
  · rcases List.mem_append.mp ha with ha | ha
    · exact r.al a ha
    · cases List.mem_singleton.mp ha
      rw [h]; intro z; cases z
  · rcases snoc_get h1 with k1 | ⟨k1, e1⟩
    · have hn : n < S.length := by rw [← r.len]; exact (List.getElem?_eq_some_iff.mp k1).1
      rw [List.getElem?_append_left hn] at h2
      exact (r.c n a c' k1 h2).up le rfl rfl
    · cases e1
      rw [k1, r.len, List.getElem?_append_right (Nat.le_refl _)] at h2
      have e2 : c = c' := by simpa using h2
      subst e2
      exact hc
  · obtain ⟨x1, x2, x3⟩ := g.p a q1 q2 q3
    refine ⟨x1, fun hm => ?_, x3⟩
    rcases List.mem_append.mp hm with hm | hm
    · exact x2 hm
    · cases List.mem_singleton.mp hm
      exact q3 hp
/-- a private thing changes -/
theorem Rel.priv (r : Rel M W H S) {p : Addr} {o : HO} (nb : W.B p = none) (nr : Slot.own p ∉ W.ρ) : Rel M W (upd H p o) S ∧ ∀ Wa Ha, Ha p = none → Go Wa Ha W H → Go Wa Ha W (upd H p o) := by
  refine ⟨⟨fun a u q => ?_, r.len, r.nd, fun a ha => ?_, fun n a c h1 h2 => ?_⟩, fun Wa Ha hp g => ⟨g.b, g.ρ, fun a q1 q2 q3 => ?_⟩⟩
  · have ne : a ≠ p := fun z => by rw [z, nb] at q; cases q
    rw [upd_ne ne]; exact r.i a u q
  · have ne : a ≠ p := fun z => nr (z ▸ ha)
    rw [upd_ne ne]; exact r.al a ha
  · have ne : a ≠ p := fun z => nr (z ▸ List.mem_of_getElem? h1)
    exact (r.c n a c h1 h2).up (Le.refl _) rfl (upd_ne ne)
  · obtain ⟨x1, x2, x3⟩ := g.p a q1 q2 q3
    have ne : a ≠ p := fun z => q3 (z ▸ hp)
    exact ⟨x1, x2, (upd_ne ne).trans x3⟩
/-- a new cell -/
theorem Rel.cell (r : Rel M W H S) {p : Addr} {o : HO} {c : Cell} (h : H p = none) (hc : CellR M ⟨W.B, W.ρ ++ [.own p]⟩ (upd H p o) p c) : Rel M ⟨W.B, W.ρ ++ [.own p]⟩ (upd H p o) (S ++ [c]) ∧ Go W H ⟨W.B, W.ρ ++ [.own p]⟩ (upd H p o) := by
  obtain ⟨r1, g1⟩ := r.priv (p := p) (o := o) (r.none_b h) (r.none_ρ h)
  obtain ⟨r2, g2⟩ := r1.adoptC (c := c) upd_same (r.none_ρ h) hc
  exact ⟨r2, g2 W H h (g1 W H h (.refl W H))⟩
/-- the place of an error that was caught -/
theorem Rel.caught (r : Rel M W H S) (a : Addr) : Rel M ⟨W.B, W.ρ ++ [.exc a]⟩ H (S ++ [.dead]) ∧ Go W H ⟨W.B, W.ρ ++ [.exc a]⟩ H := by
  have le : Le W ⟨W.B, W.ρ ++ [.exc a]⟩ := ⟨Same.refl _, List.prefix_append _ _⟩
  have mem : ∀ b, Slot.own b ∈ W.ρ ++ [Slot.exc a] → Slot.own b ∈ W.ρ := fun b h => by
    rcases List.mem_append.mp h with h | h
    · exact h
    · cases List.mem_singleton.mp h
  have get : ∀ (n : Nat) (b : Addr), (W.ρ ++ [Slot.exc a])[n]? = some (Slot.own b) → W.ρ[n]? = some (Slot.own b) := fun n b h => by
    rcases snoc_get h with h | ⟨_, h⟩
    · exact h
    · cases h
  refine ⟨⟨r.i, by simp [r.len], fun n m b h1 h2 => r.nd n m b (get _ _ h1) (get _ _ h2), fun b h => r.al b (mem b h), fun n b c h1 h2 => ?_⟩, Same.refl _, le.ρ, fun b q1 q2 q3 => ⟨q1, fun h => q2 (mem b h), rfl⟩⟩
  have h1' := get _ _ h1
  have hn : n < S.length := by rw [← r.len]; exact (List.getElem?_eq_some_iff.mp h1').1
  rw [List.getElem?_append_left hn] at h2
  exact (r.c n b c h1' h2).up le rfl rfl
/-- a cell changes -/
theorem Rel.put (r : Rel M W H S) {n : Nat} {a : Addr} {o : HO} {c : Cell} (h : W.ρ[n]? = some (.own a)) (nb : W.B a = none) (hc : CellR M W (upd H a o) a c) : Rel M W (upd H a o) (S.set n c) ∧ Go W H W (upd H a o) := by
  have ha := List.mem_of_getElem? h
  refine ⟨⟨fun b u q => ?_, by simp [r.len], r.nd, fun b hb => ?_, fun m b c' h1 h2 => ?_⟩, Same.refl _, List.prefix_refl _, fun b q1 q2 q3 => ?_⟩
  · have ne : b ≠ a := fun z => by rw [z, nb] at q; cases q
    rw [upd_ne ne]; exact r.i b u q
  · by_cases z : b = a
    · subst z; rw [upd_same]; intro z; cases z
    · rw [upd_ne z]; exact r.al b hb
  · by_cases z : m = n
    · subst z
      rw [h] at h1; cases h1
      have : (S.set m c)[m]? = some c := List.getElem?_set_self (by rw [← r.len]; exact (List.getElem?_eq_some_iff.mp h).1)
      rw [this] at h2; cases h2
      exact hc
    · have ne : b ≠ a := fun q => z (r.nd m n a (q ▸ h1) h)
      rw [List.getElem?_set_ne (Ne.symm z)] at h2
      exact (r.c m b c' h1 h2).up (Le.refl _) rfl (upd_ne ne)
  · have ne : b ≠ a := fun z => q2 (z ▸ ha)
    exact ⟨q1, q2, upd_ne ne⟩
end
end Fx
namespace Fx
open PySem PySem.Spec PyProof.Rows L2 Co
/-! ### outcomes -/
/-- a mark that hangs on a term: simp leaves that term alone -/
inductive Tag {α : Type} (a : α) : Type where
  | mk
def Out.bind {α β : Type} (o : Out α) (f : α → Sta → Out β) (_ : Tag f := Tag.mk) : Out β := match o with
  | .ok a S => f a S
  | .ex c xs S => .ex c xs S
  | .stuck => .stuck
def lift {α : Type} (o : Option α) (S : Sta) : Out α := match o with
  | some a => .ok a S
  | none => .stuck
def OPost {α : Type} (o : Out α) (A : α → Sta → Prop) (E : String → List PV → Sta → Prop) : Prop := match o with
  | .ok a S => A a S
  | .ex c xs S => E c xs S
  | .stuck => False
theorem opost_bind {α β : Type} {o : Out α} {f : α → Sta → Out β} {A : β → Sta → Prop} {E : String → List PV → Sta → Prop} : OPost (o.bind f) A E = OPost o (fun a S => OPost (f a S) A E) E := by cases o <;> rfl
theorem OPost.mono {α : Type} {o : Out α} {A A' : α → Sta → Prop} {E E' : String → List PV → Sta → Prop} (h : OPost o A E) (k : ∀ a S, A a S → A' a S) (k' : ∀ c xs S, E c xs S → E' c xs S) : OPost o A' E' := by
  cases o with
  | ok a S => exact k a S h
  | ex c xs S => exact k' c xs S h
  | stuck => exact h
theorem opost_lift {α : Type} {o : Option α} {S : Sta} {A : α → Sta → Prop} {E : String → List PV → Sta → Prop} (h : OPost (lift o S) A E) : ∃ a, o = some a ∧ A a S := by
  cases o with
  | none => exact h.elim
  | some a => exact ⟨a, rfl, h⟩
section
variable {M : Md} {W W' Wa W0 W1 : Wd} {H H' Ha H1 : Hp} {S S' : Sta} {σ : L2.St} {ε : Env} {X : WX}
/-! ### slots -/
structure Er (M : Md) (W : Wd) (σ : L2.St) (ε : Env) : Prop where
  len : σ.length = ε.length
  get : ∀ (i : Nat) (p : PV), ε[i]? = some (some p) → ∃ v, σ[i]? = some (some v) ∧ Rp M W v p
theorem Er.up (h : Er M W σ ε) (e : Le W W') : Er M W' σ ε := ⟨h.len, fun i p q => by obtain ⟨v, a, b⟩ := h.get i p q; exact ⟨v, a, rp_up e _ _ b⟩⟩
theorem Er.set (h : Er M W σ ε) {i : Nat} {v : V} {p : PV} (r : Rp M W v p) : Er M W (σ.set i (some v)) (ε.set i (some p)) := ⟨by simp [h.len], fun j q hj => by
  by_cases z : i = j
  · subst z
    have hl : i < ε.length := by have := (List.getElem?_eq_some_iff.mp hj).1; simpa using this
    rw [List.getElem?_set_self hl] at hj
    cases hj
    exact ⟨v, List.getElem?_set_self (by rw [h.len]; exact hl), r⟩
  · rw [List.getElem?_set_ne z] at hj
    obtain ⟨w, a, b⟩ := h.get j q hj
    exact ⟨w, by rw [List.getElem?_set_ne z]; exact a, b⟩⟩
theorem Er.unset (h : Er M W σ ε) {i : Nat} {x : Option V} : Er M W (σ.set i x) (ε.set i none) := ⟨by simp [h.len], fun j q hj => by
  by_cases z : i = j
  · subst z
    have hl : i < ε.length := by have := (List.getElem?_eq_some_iff.mp hj).1; simpa using this
    rw [List.getElem?_set_self hl] at hj
    cases hj
  · rw [List.getElem?_set_ne z] at hj
    obtain ⟨w, a, b⟩ := h.get j q hj
    exact ⟨w, by rw [List.getElem?_set_ne z]; exact a, b⟩⟩
theorem er_start (M : Md) (W : Wd) {vs : List V} {ps : List PV} (n : Nat) (h : RpA M W vs ps) : Er M W (vs.map some ++ List.replicate n none) (ps.map some ++ List.replicate n none) := ⟨by simp [rpa_len h], fun i p q => by
  by_cases hl : i < ps.length
  · rw [List.getElem?_append_left (by simpa using hl), List.getElem?_map] at q
    obtain ⟨p', h1, h2⟩ := Option.map_eq_some_iff.mp q
    cases h2
    obtain ⟨v, a, b⟩ := rpa_get h h1
    refine ⟨v, ?_, b⟩
    rw [List.getElem?_append_left (by rw [List.length_map, rpa_len h]; exact hl), List.getElem?_map, a]
    rfl
  · rw [List.getElem?_append_right (by simpa using hl)] at q
    have := List.mem_of_getElem? q
    rw [List.mem_replicate] at this
    cases this.2⟩
/-! ### what a reading keeps of its mirror -/
/-- the fields of an error that is under way -/
def Xd (M : Md) (W : Wd) (c : String) (xs : List PV) : Option Addr → Prop
  | none => xs = [] ∧ M.fl c = []
  | some dx => M.fl c ≠ [] ∧ ∃ vs, W.B dx = some (.xd ((M.fl c).zip vs).reverse) ∧ vs.length = (M.fl c).length ∧ RpA M W vs xs
theorem Xd.up {c : String} {xs : List PV} {d : Option Addr} (e : Le W W') (h : Xd M W c xs d) : Xd M W' c xs d := by
  cases d with
  | none => exact h
  | some dx => obtain ⟨n, vs, h1, h2, h3⟩ := h; exact ⟨n, vs, e.b _ _ h1, h2, rpa_up e _ _ h3⟩
def okG {α β : Type} (R : Md → Wd → β → α → Prop) (M : Md) (W : Wd) (H : Hp) (Q : β → Hp → Prop) (a : α) (S : Sta) : Prop := ∀ b W' H', Go W H W' H' → Rel M W' H' S → R M W' b a → Q b H'
def exE (M : Md) (W : Wd) (H : Hp) (E : XK) (c : String) (xs : List PV) (S : Sta) : Prop := ∀ d W' H', Go W H W' H' → Rel M W' H' S → Xd M W' c xs d → E (.ref (M.AD c)) d H'
abbrev atσ (X : WX) (σ : L2.St) : XK := fun cls d H => X cls d σ H
theorem okG.up {α β : Type} {R : Md → Wd → β → α → Prop} {Q : β → Hp → Prop} {a : α} (h : okG R M W H Q a S) (g : Go W H W' H') : okG R M W' H' Q a S := fun b W2 H2 g2 r q => h b W2 H2 (g.trans g2) r q
theorem exE.up {E : XK} {c : String} {xs : List PV} (h : exE M W H E c xs S) (g : Go W H W' H') : exE M W' H' E c xs S := fun d W2 H2 g2 r q => h d W2 H2 (g.trans g2) r q
/-- the reading t of an expression follows from its mirror m -/
def RG {α β : Type} (R : Md → Wd → β → α → Prop) (M : Md) (W0 : Wd) (X : WX) (t : L2.St → Hp → (β → Hp → Prop) → Prop) (m : Env → Sta → Out α) : Prop :=
  ∀ (W : Wd) (H : Hp) (S : Sta) (σ : L2.St) (ε : Env), Le W0 W → Rel M W H S → Er M W σ ε → ∀ Q : β → Hp → Prop, OPost (m ε S) (okG R M W H Q) (exE M W H (atσ X σ)) → t σ H Q
abbrev RE (M : Md) (W0 : Wd) (X : WX) (te : TE) (m : Env → Sta → Out PV) : Prop := RG Rp M W0 X te m
abbrev RA (M : Md) (W0 : Wd) (X : WX) (ta : TA) (m : Env → Sta → Out (List PV)) : Prop := RG RpA M W0 X ta m
def Rq {α : Type} (_ : Md) (_ : Wd) (b a : α) : Prop := b = a
abbrev RT (M : Md) (W0 : Wd) (X : WX) (tt : TT) (m : Env → Sta → Out Bool) : Prop := RG Rq M W0 X tt m
abbrev RO (M : Md) (W0 : Wd) (X : WX) (to : TO) (m : Env → Sta → Out (Option Int)) : Prop := RG Rq M W0 X to m
theorem RG.thn {α β γ : Type} {R : Md → Wd → β → α → Prop} {t : L2.St → Hp → (β → Hp → Prop) → Prop} {m : Env → Sta → Out α} {f : α → Sta → Out γ} {A : γ → Sta → Prop} {Q : β → Hp → Prop} (h : RG R M W0 X t m) (g : Go Wa Ha W H) (le : Le W0 Wa) (r : Rel M W H S) (er : Er M Wa σ ε)
    (q : OPost ((m ε S).bind f) A (exE M Wa Ha (atσ X σ))) (k : ∀ b a S' W' H', Go W H W' H' → Rel M W' H' S' → R M W' b a → OPost (f a S') A (exE M Wa Ha (atσ X σ)) → Q b H') : t σ H Q := by
  rw [opost_bind] at q
  exact h W H S σ ε (le.trans g.le) r (er.up g.le) Q (q.mono (fun a S' q b W' H' g' r' p => k b a S' W' H' g' r' p q) fun c xs S' z => z.up g)
def VarE (i : Nat) : Env → Sta → Out PV := fun ε S => match ε[i]? with
  | some (some p) => .ok p S
  | _ => .stuck
def CE (p : PV) : Env → Sta → Out PV := fun _ S => .ok p S
theorem re_var {i : Nat} : RE M W0 X (tVar i) (VarE i) := fun W H S σ ε le r er Q q => by
  unfold VarE at q
  cases h : ε[i]? with
  | none => rw [h] at q; exact q.elim
  | some x =>
    cases x with
    | none => rw [h] at q; exact q.elim
    | some p =>
      rw [h] at q
      obtain ⟨v, a, b⟩ := er.get i p h
      exact ⟨v, a, q v W H (.refl W H) r b⟩
theorem re_c {v : V} {p : PV} (h : ∀ W, Rp M W v p) : RE M W0 X (tC v) (CE p) := fun W H S σ ε le r er Q q => q v W H (.refl W H) r (h W)
theorem re_int {i : Int} : RE M W0 X (tC (.int i)) (CE (.int i)) := re_c fun _ => .int i
theorem re_bl {i : Bool} : RE M W0 X (tC (.bl i)) (CE (.bl i)) := re_c fun _ => .bl i
theorem re_str {i : Str} : RE M W0 X (tC (.str i)) (CE (.str i)) := re_c fun _ => .str i
theorem re_non : RE M W0 X (tC .non) (CE .non) := re_c fun _ => .non
/-! ### operators -/
abbrev F2 := Sta → PV → PV → Option PV
def K2 (M : Md) (r : R2) (f : F2) : Prop := ∀ (W : Wd) (H : Hp) (S : Sta) (u v : V) (x y p : PV), Rel M W H S → Rp M W u x → Rp M W v y → f S x y = some p → ∀ Q : VK, okG Rp M W H Q p S → r u v H Q
def OpE (f : F2) (ma mb : Env → Sta → Out PV) : Env → Sta → Out PV := fun ε S => (ma ε S).bind fun x S1 => (mb ε S1).bind fun y S2 => lift (f S2 x y) S2
variable {ta tb tc te : TE} {ma mb mc me : Env → Sta → Out PV} {tt uu : TT} {mt mu : Env → Sta → Out Bool} {ts tr : TA} {ms mr : Env → Sta → Out (List PV)}
theorem re_op {r : R2} {f : F2} (ha : RE M W0 X ta ma) (hb : RE M W0 X tb mb) (hr : K2 M r f) : RE M W0 X (tOp r ta tb) (OpE f ma mb) := fun W H S σ ε le r0 er Q q =>
  ha.thn (.refl W H) le r0 er q fun u x S1 W1 H1 g1 r1 p1 q1 => hb.thn g1 le r1 er q1 fun v y S2 W2 H2 g2 r2 p2 q2 => by
    obtain ⟨p, e, q3⟩ := opost_lift q2
    exact hr W2 H2 S2 u v x y p r2 (rp_up g2.le _ _ p1) p2 e Q (okG.up q3 (g1.trans g2))
def truth : PV → Option Bool
  | .bl b => some b
  | _ => none
theorem rp_bl {v : V} {p : PV} {b : Bool} (h : Rp M W v p) (e : truth p = some b) : v = .bl b := by
  cases h <;> first | (cases e; rfl) | cases e
def AndE (ma mb : Env → Sta → Out PV) : Env → Sta → Out PV := fun ε S => (ma ε S).bind fun x S1 => (lift (truth x) S1).bind fun b S1 => if b = true then mb ε S1 else .ok (.bl false) S1
def OrE (ma mb : Env → Sta → Out PV) : Env → Sta → Out PV := fun ε S => (ma ε S).bind fun x S1 => (lift (truth x) S1).bind fun b S1 => if b = true then .ok (.bl true) S1 else mb ε S1
def NotE (ma : Env → Sta → Out PV) : Env → Sta → Out PV := fun ε S => (ma ε S).bind fun x S1 => (lift (truth x) S1).bind fun b S1 => .ok (.bl (!b)) S1
/-- the last part of an expression -/
theorem RG.end {α β : Type} {R : Md → Wd → β → α → Prop} {t : L2.St → Hp → (β → Hp → Prop) → Prop} {m : Env → Sta → Out α} {Q : β → Hp → Prop} (h : RG R M W0 X t m) (g : Go Wa Ha W H) (le : Le W0 Wa) (r : Rel M W H S) (er : Er M Wa σ ε)
    (q : OPost (m ε S) (okG R M Wa Ha Q) (exE M Wa Ha (atσ X σ))) : t σ H Q :=
  h W H S σ ε (le.trans g.le) r (er.up g.le) Q (q.mono (fun a S' q => okG.up q g) fun c xs S' z => z.up g)
theorem re_and (ha : RE M W0 X ta ma) (hb : RE M W0 X tb mb) : RE M W0 X (tAndV ta tb) (AndE ma mb) := fun W H S σ ε le r0 er Q q =>
  ha.thn (.refl W H) le r0 er q fun u x S1 W1 H1 g1 r1 p1 q1 => by
    rw [opost_bind] at q1
    obtain ⟨b, e, q2⟩ := opost_lift q1
    refine ⟨b, rp_bl p1 e, ?_⟩
    cases b with
    | true => exact iteT (hb.end g1 le r1 er q2)
    | false => exact iteF (q2 _ W1 H1 g1 r1 (.bl false))
theorem re_or (ha : RE M W0 X ta ma) (hb : RE M W0 X tb mb) : RE M W0 X (tOrV ta tb) (OrE ma mb) := fun W H S σ ε le r0 er Q q =>
  ha.thn (.refl W H) le r0 er q fun u x S1 W1 H1 g1 r1 p1 q1 => by
    rw [opost_bind] at q1
    obtain ⟨b, e, q2⟩ := opost_lift q1
    refine ⟨b, rp_bl p1 e, ?_⟩
    cases b with
    | true => exact iteT (q2 _ W1 H1 g1 r1 (.bl true))
    | false => exact iteF (hb.end g1 le r1 er q2)
theorem re_not (ha : RE M W0 X ta ma) : RE M W0 X (tNotV ta) (NotE ma) := fun W H S σ ε le r0 er Q q =>
  ha.thn (.refl W H) le r0 er q fun u x S1 W1 H1 g1 r1 p1 q1 => by
    rw [opost_bind] at q1
    obtain ⟨b, e, q2⟩ := opost_lift q1
    exact ⟨b, rp_bl p1 e, q2 _ W1 H1 g1 r1 (.bl _)⟩
/-! tests -/
def TestE (ma : Env → Sta → Out PV) : Env → Sta → Out Bool := fun ε S => (ma ε S).bind fun x S1 => lift (truth x) S1
def TAnd (ma mb : Env → Sta → Out Bool) : Env → Sta → Out Bool := fun ε S => (ma ε S).bind fun b S1 => if b = true then mb ε S1 else .ok false S1
def TOr (ma mb : Env → Sta → Out Bool) : Env → Sta → Out Bool := fun ε S => (ma ε S).bind fun b S1 => if b = true then .ok true S1 else mb ε S1
def TNot (ma : Env → Sta → Out Bool) : Env → Sta → Out Bool := fun ε S => (ma ε S).bind fun b S1 => .ok (!b) S1
theorem rt_test (ha : RE M W0 X ta ma) : RT M W0 X (tTest ta) (TestE ma) := fun W H S σ ε le r0 er Q q =>
  ha.thn (.refl W H) le r0 er q fun u x S1 W1 H1 g1 r1 p1 q1 => by
    obtain ⟨b, e, q2⟩ := opost_lift q1
    exact ⟨b, rp_bl p1 e, q2 b W1 H1 g1 r1 rfl⟩
theorem rt_B (ha : RE M W0 X ta ma) : RT M W0 X (tB ta) (TestE ma) := fun W H S σ ε le r0 er Q q =>
  ha.thn (.refl W H) le r0 er q fun u x S1 W1 H1 g1 r1 p1 q1 => by
    obtain ⟨b, e, q2⟩ := opost_lift q1
    exact ⟨b, rp_bl p1 e, q2 b W1 H1 g1 r1 rfl⟩
theorem rt_and (ha : RT M W0 X tt mt) (hb : RT M W0 X uu mu) : RT M W0 X (tAnd tt uu) (TAnd mt mu) := fun W H S σ ε le r0 er Q q =>
  ha.thn (.refl W H) le r0 er q fun u b S1 W1 H1 g1 r1 p1 q1 => by
    cases p1
    cases u with
    | true => exact iteT (hb.end g1 le r1 er q1)
    | false => exact iteF (q1 _ W1 H1 g1 r1 rfl)
theorem rt_or (ha : RT M W0 X tt mt) (hb : RT M W0 X uu mu) : RT M W0 X (tOr tt uu) (TOr mt mu) := fun W H S σ ε le r0 er Q q =>
  ha.thn (.refl W H) le r0 er q fun u b S1 W1 H1 g1 r1 p1 q1 => by
    cases p1
    cases u with
    | true => exact iteT (q1 _ W1 H1 g1 r1 rfl)
    | false => exact iteF (hb.end g1 le r1 er q1)
theorem rt_not (ha : RT M W0 X tt mt) : RT M W0 X (tNot tt) (TNot mt) := fun W H S σ ε le r0 er Q q =>
  ha.thn (.refl W H) le r0 er q fun u b S1 W1 H1 g1 r1 p1 q1 => by
    cases p1
    exact q1 _ W1 H1 g1 r1 rfl
def IfE (mt : Env → Sta → Out Bool) (ma mb : Env → Sta → Out PV) : Env → Sta → Out PV := fun ε S => (mt ε S).bind fun b S1 => if b = true then ma ε S1 else mb ε S1
theorem re_if (ht : RT M W0 X tt mt) (ha : RE M W0 X ta ma) (hb : RE M W0 X tb mb) : RE M W0 X (tIf tt ta tb) (IfE mt ma mb) := fun W H S σ ε le r0 er Q q =>
  ht.thn (.refl W H) le r0 er q fun u b S1 W1 H1 g1 r1 p1 q1 => by
    cases p1
    cases u with
    | true => exact iteT (ha.end g1 le r1 er q1)
    | false => exact iteF (hb.end g1 le r1 er q1)
def ChainE (f f' : F2) (ma mb mc : Env → Sta → Out PV) : Env → Sta → Out PV := fun ε S => (ma ε S).bind fun x S1 => (mb ε S1).bind fun y S2 => (lift (f S2 x y) S2).bind fun w S2 => (lift (truth w) S2).bind fun b S2 => if b = true then (mc ε S2).bind fun z S3 => lift (f' S3 y z) S3 else .ok (.bl false) S2
theorem re_chain {r r' : R2} {f f' : F2} (ha : RE M W0 X ta ma) (hb : RE M W0 X tb mb) (hr : K2 M r f) (hc : RE M W0 X tc mc) (hr' : K2 M r' f') : RE M W0 X (tChain r r' ta tb tc) (ChainE f f' ma mb mc) := fun W H S σ ε le r0 er Q q =>
  ha.thn (.refl W H) le r0 er q fun u x S1 W1 H1 g1 r1 p1 q1 => hb.thn g1 le r1 er q1 fun v y S2 W2 H2 g2 r2 p2 q2 => by
    rw [opost_bind] at q2
    obtain ⟨p, e, q3⟩ := opost_lift q2
    refine hr W2 H2 S2 u v x y p r2 (rp_up g2.le _ _ p1) p2 e _ fun w W3 H3 g3 r3 p3 => ?_
    rw [opost_bind] at q3
    obtain ⟨b, e', q4⟩ := opost_lift q3
    refine ⟨b, rp_bl p3 e', ?_⟩
    have g13 := (g1.trans g2).trans g3
    cases b with
    | true => exact iteT (hc.thn g13 le r3 er q4 fun z pz S4 W4 H4 g4 r4 p4 q5 => by
        obtain ⟨p', e2, q6⟩ := opost_lift q5
        exact hr' W4 H4 S4 v z y pz p' r4 (rp_up (g3.trans g4).le _ _ p2) p4 e2 Q (okG.up q6 (g13.trans g4)))
    | false => exact iteF (q4 _ W3 H3 g13 r3 (.bl false))
/-! ### arguments, displays -/
def NilA : Env → Sta → Out (List PV) := fun _ S => .ok [] S
def ConsA (me : Env → Sta → Out PV) (mr : Env → Sta → Out (List PV)) : Env → Sta → Out (List PV) := fun ε S => (me ε S).bind fun x S1 => (mr ε S1).bind fun xs S2 => .ok (x :: xs) S2
theorem ra_nil : RA M W0 X tNil NilA := fun W H S σ ε le r er Q q => q [] W H (.refl W H) r .nil
theorem ra_cons (h : RE M W0 X te me) (hr : RA M W0 X tr mr) : RA M W0 X (tCons te tr) (ConsA me mr) := fun W H S σ ε le r0 er Q q =>
  h.thn (.refl W H) le r0 er q fun u x S1 W1 H1 g1 r1 p1 q1 => hr.thn g1 le r1 er q1 fun vs xs S2 W2 H2 g2 r2 p2 q2 => q2 _ W2 H2 (g1.trans g2) r2 (.cons (rp_up g2.le _ _ p1) p2)
/-- a tuple; a list that never changes; a list that may -/
def TupE (ms : Env → Sta → Out (List PV)) : Env → Sta → Out PV := fun ε S => (ms ε S).bind fun xs S1 => if xs.length ≤ 100000 then .ok (.tup xs) S1 else .stuck
def LstE (ms : Env → Sta → Out (List PV)) : Env → Sta → Out PV := fun ε S => (ms ε S).bind fun xs S1 => if xs.length ≤ 100000 then .ok (.lst xs) S1 else .stuck
def newL (xs : List PV) (S : Sta) : Out PV := .ok (.mu S.length) (S ++ [.lst xs])
def LmuE (ms : Env → Sta → Out (List PV)) : Env → Sta → Out PV := fun ε S => (ms ε S).bind fun xs S1 => if xs.length ≤ 100000 then newL xs S1 else .stuck
theorem ite_post {α : Type} {c : Prop} [Decidable c] {o : Out α} {A : α → Sta → Prop} {E : String → List PV → Sta → Prop} (h : OPost (if c then o else .stuck) A E) : c ∧ OPost o A E := by
  by_cases z : c
  · rw [if_pos z] at h; exact ⟨z, h⟩
  · rw [if_neg z] at h; exact h.elim
theorem big_ok {n : Nat} (h : n ≤ 100000) : n ≤ sizeLine := Nat.le_trans h (by decide)
theorem new_tup {vs : List V} {xs : List PV} {Q : VK} (g : Go Wa Ha W H) (r : Rel M W H S) (h : RpA M W vs xs) (q : okG Rp M Wa Ha Q (.tup xs) S) : ∀ p, H p = none → Q (.ref p) (upd H p (.tup vs)) := fun p hp => by
  obtain ⟨r2, g2⟩ := r.new (o := .tup vs) hp
  exact q _ _ _ (g.trans g2) r2 (.tup (.inl (.inl upd_same)) (rpa_up g2.le _ _ h))
theorem new_lst {vs : List V} {xs : List PV} {Q : VK} (g : Go Wa Ha W H) (r : Rel M W H S) (h : RpA M W vs xs) (q : okG Rp M Wa Ha Q (.lst xs) S) : ∀ p, H p = none → Q (.ref p) (upd H p (.lst vs)) := fun p hp => by
  obtain ⟨r2, g2⟩ := r.new (o := .lst vs) hp
  exact q _ _ _ (g.trans g2) r2 (.lst upd_same (rpa_up g2.le _ _ h))
theorem new_mu {vs : List V} {xs : List PV} {Q : VK} (g : Go Wa Ha W H) (r : Rel M W H S) (h : RpA M W vs xs) (q : okG Rp M Wa Ha Q (.mu S.length) (S ++ [.lst xs])) : ∀ p, H p = none → Q (.ref p) (upd H p (.lst vs)) := fun p hp => by
  have le : Le W ⟨W.B, W.ρ ++ [.own p]⟩ := ⟨Same.refl _, List.prefix_append _ _⟩
  obtain ⟨r2, g2⟩ := r.cell (o := .lst vs) (c := .lst xs) hp ⟨r.none_b hp, vs, upd_same, rpa_up le _ _ h⟩
  refine q _ _ _ (g.trans g2) r2 (.mu ?_)
  rw [← r.len]
  simp
theorem re_tup (h : RA M W0 X ts ms) : RE M W0 X (tTup ts) (TupE ms) := fun W H S σ ε le r0 er Q q =>
  h.thn (.refl W H) le r0 er q fun vs xs S1 W1 H1 g1 r1 p1 q1 => by
    obtain ⟨z, q2⟩ := ite_post q1
    exact ⟨big_ok (by rw [rpa_len p1]; exact z), new_tup g1 r1 p1 q2⟩
theorem re_lst (h : RA M W0 X ts ms) : RE M W0 X (tLst ts) (LstE ms) := fun W H S σ ε le r0 er Q q =>
  h.thn (.refl W H) le r0 er q fun vs xs S1 W1 H1 g1 r1 p1 q1 => by
    obtain ⟨z, q2⟩ := ite_post q1
    exact ⟨big_ok (by rw [rpa_len p1]; exact z), new_lst g1 r1 p1 q2⟩
theorem re_lmu (h : RA M W0 X ts ms) : RE M W0 X (tLst ts) (LmuE ms) := fun W H S σ ε le r0 er Q q =>
  h.thn (.refl W H) le r0 er q fun vs xs S1 W1 H1 g1 r1 p1 q1 => by
    obtain ⟨z, q2⟩ := ite_post q1
    exact ⟨big_ok (by rw [rpa_len p1]; exact z), new_mu g1 r1 p1 q2⟩
/-! ### calls of built-ins and of defs -/
abbrev FC := List PV → Sta → Out PV
def noX : String → List PV → Sta → Prop := fun _ _ _ => False
def KC (M : Md) (r : List V → Hp → VK → Prop) (f : FC) : Prop := ∀ (W : Wd) (H : Hp) (S : Sta) (vs : List V) (xs : List PV), Rel M W H S → RpA M W vs xs → ∀ Q : VK, OPost (f xs S) (okG Rp M W H Q) noX → r vs H Q
/-- what a built-in does, where it raises nothing -/
def calm (o : Out PV) : Out PV := match o with
  | .ok a S => .ok a S
  | _ => .stuck
theorem calm_post {o : Out PV} {A : PV → Sta → Prop} {E : String → List PV → Sta → Prop} (h : OPost (calm o) A E) : OPost o A noX := by
  cases o with
  | ok a S => exact h
  | ex => exact h.elim
  | stuck => exact h.elim
def CbE (f : FC) (ms : Env → Sta → Out (List PV)) : Env → Sta → Out PV := fun ε S => (ms ε S).bind fun xs S1 => calm (f xs S1)
theorem re_cb {r : List V → Hp → VK → Prop} {f : FC} (h : RA M W0 X ts ms) (hr : KC M r f) : RE M W0 X (tCB r ts) (CbE f ms) := fun W H S σ ε le r0 er Q q =>
  h.thn (.refl W H) le r0 er q fun vs xs S1 W1 H1 g1 r1 p1 q1 => hr W1 H1 S1 vs xs r1 p1 Q ((calm_post q1).mono (fun a S' q => okG.up q g1) fun _ _ _ z => z)
/-- the promise of a def whose mirror is f -/
def spM (M : Md) (f : FC) : Sp := fun vs H Q E => ∃ (W : Wd) (S : Sta) (xs : List PV), Rel M W H S ∧ RpA M W vs xs ∧ OPost (f xs S) (okG Rp M W H Q) (exE M W H E)
def CallE (f : FC) (dps : List PV) (ms : Env → Sta → Out (List PV)) : Env → Sta → Out PV := fun ε S => (ms ε S).bind fun xs S1 => f (xs ++ dps) S1
theorem re_call {f : FC} {dvs : List V} {dps : List PV} {E : XK} (h : RA M W0 (fun cls d _ H => E cls d H) ts ms) (hd : ∀ W, RpA M W dvs dps) : RE M W0 (fun cls d _ H => E cls d H) (tCall (spM M f) dvs E ts) (CallE f dps ms) := fun W H S σ ε le r0 er Q q =>
  h.thn (.refl W H) le r0 er q fun vs xs S1 W1 H1 g1 r1 p1 q1 => ⟨W1, S1, xs ++ dps, r1, rpa_app p1 (hd _), q1.mono (fun a S' q => okG.up q g1) fun c ys S' z => exE.up z g1⟩
theorem re_callS {f : FC} (h : RA M W0 X ts ms) : RE M W0 X (tCallS (spM M f) (atσ X) ts) (CallE f [] ms) := fun W H S σ ε le r0 er Q q =>
  h.thn (.refl W H) le r0 er q fun vs xs S1 W1 H1 g1 r1 p1 q1 => ⟨W1, S1, xs, r1, p1, by
    rw [List.append_nil] at q1
    exact q1.mono (fun a S' q => okG.up q g1) fun c ys S' z => exE.up z g1⟩
end
end Fx
namespace Fx
open PySem PySem.Spec PyProof.Rows L2 Co
section
variable {M : Md} {W W' Wa W0 W1 : Wd} {H H' Ha H1 : Hp} {S S' : Sta} {σ : L2.St} {ε : Env} {X : WX}
variable {ta tb tc te : TE} {ma mb mc me : Env → Sta → Out PV} {tt uu : TT} {mt mu : Env → Sta → Out Bool} {ts tr : TA} {ms mr : Env → Sta → Out (List PV)}
/-! ### lists and tuples as they stand now -/
def look (S : Sta) : PV → PV
  | .mu n => match S[n]? with
    | some (.lst xs) => .lst xs
    | _ => .mu n
  | .kls xs => .lst xs
  | p => p
/-- items of a list (true) or a tuple (false) -/
def items (S : Sta) (p : PV) : Option (Bool × List PV) := match look S p with
  | .lst xs => some (true, xs)
  | .tup xs => some (false, xs)
  | _ => none
theorem look_lst (r : Rel M W H S) {v : V} {p : PV} {xs : List PV} (h : Rp M W v p) (e : look S p = .lst xs) : ∃ a vs, v = .ref a ∧ SqL M.K H a vs ∧ RpA M W vs xs := by
  cases h with
  | lst hs ha => cases e; exact ⟨_, _, rfl, .inl (.inl (r.i _ _ hs)), ha⟩
  | kls hs ha => cases e; exact ⟨_, _, rfl, r.i.seq hs, ha⟩
  | @mu n a hm =>
    unfold look at e
    dsimp only at e
    cases q : S[n]? with
    | none => rw [q] at e; cases e
    | some c =>
      rw [q] at e
      cases c with
      | lst ys =>
        cases e
        obtain ⟨_, vs, h1, h2⟩ := r.c n a _ hm q
        exact ⟨a, vs, rfl, .inl (.inl h1), h2⟩
      | obj => cases e
      | dead => cases e
  | _ => cases e
theorem look_tup (r : Rel M W H S) {v : V} {p : PV} {xs : List PV} (h : Rp M W v p) (e : look S p = .tup xs) : ∃ a vs, v = .ref a ∧ SqT M.K H a vs ∧ RpA M W vs xs := by
  cases h with
  | tup hs ha => cases e; exact ⟨_, _, rfl, seqT_up r.i hs, ha⟩
  | @mu n a hm =>
    unfold look at e
    dsimp only at e
    cases q : S[n]? with
    | none => rw [q] at e; cases e
    | some c => rw [q] at e; cases c <;> cases e
  | _ => cases e
theorem look_str {v : V} {p : PV} {z : Str} (h : Rp M W v p) (e : look S p = .str z) : v = .str z := by
  cases h with
  | str => cases e; rfl
  | @mu n a hm =>
    unfold look at e
    dsimp only at e
    cases q : S[n]? with
    | none => rw [q] at e; cases e
    | some c => rw [q] at e; cases c <;> cases e
  | _ => cases e
theorem look_int {v : V} {p : PV} {z : Int} (h : Rp M W v p) (e : look S p = .int z) : v = .int z := by
  cases h with
  | int => cases e; rfl
  | @mu n a hm =>
    unfold look at e
    dsimp only at e
    cases q : S[n]? with
    | none => rw [q] at e; cases e
    | some c => rw [q] at e; cases c <;> cases e
  | _ => cases e
theorem items_sq (r : Rel M W H S) {v : V} {p : PV} {k : Bool} {xs : List PV} (h : Rp M W v p) (e : items S p = some (k, xs)) : ∃ a vs, v = .ref a ∧ SqB M.K k H a vs ∧ RpA M W vs xs := by
  unfold items at e
  split at e
  · rename_i ys q
    cases e
    obtain ⟨a, vs, h1, h2, h3⟩ := look_lst r h q
    exact ⟨a, vs, h1, h2, h3⟩
  · rename_i ys q
    cases e
    obtain ⟨a, vs, h1, h2, h3⟩ := look_tup r h q
    exact ⟨a, vs, h1, h2, h3⟩
  · cases e
/-! ### data -/
mutual
def toD : PV → Option D
  | .non => some .none
  | .bl b => some (.bool b)
  | .int i => some (.int i)
  | .str s => some (.str s)
  | .tup xs => (toDs xs).map .tuple
  | .lst xs => (toDs xs).map .list
  | .kls xs => (toDs xs).map .list
  | .obj _ _ _ => none
  | .mu _ => none
  | .xv _ => none
def toDs : List PV → Option (List D)
  | [] => some []
  | p :: ps => match toD p, toDs ps with
    | some d, some ds => some (d :: ds)
    | _, _ => none
end
mutual
def dat (S : Sta) : PV → Option D
  | .non => some .none
  | .bl b => some (.bool b)
  | .int i => some (.int i)
  | .str s => some (.str s)
  | .tup xs => (dats S xs).map .tuple
  | .lst xs => (dats S xs).map .list
  | .kls xs => (dats S xs).map .list
  | .obj _ _ _ => none
  | .mu n => match S[n]? with
    | some (.lst xs) => (toDs xs).map .list
    | _ => none
  | .xv _ => none
def dats (S : Sta) : List PV → Option (List D)
  | [] => some []
  | p :: ps => match dat S p, dats S ps with
    | some d, some ds => some (d :: ds)
    | _, _ => none
end
mutual
theorem toD_ok (e : Same W.B H) : ∀ (p : PV) (v : V) (d : D), Rp M W v p → toD p = some d → Dp M.K H v d
  | .non, _, _, h, q => by cases h; simp only [toD] at q; cases q; exact .non
  | .bl b, _, _, h, q => by cases h; simp only [toD] at q; cases q; exact .bl b
  | .int i, _, _, h, q => by cases h; simp only [toD] at q; cases q; exact .int i
  | .str z, _, _, h, q => by cases h; simp only [toD] at q; cases q; exact .str z
  | .tup xs, _, _, h, q => by
    cases h with
    | tup hs ha =>
      simp only [toD] at q
      obtain ⟨ds, q1, rfl⟩ := Option.map_eq_some_iff.mp q
      exact .tup (seqT_up e hs) (toDs_ok e xs _ ds ha q1)
  | .lst xs, _, _, h, q => by
    cases h with
    | lst hs ha =>
      simp only [toD] at q
      obtain ⟨ds, q1, rfl⟩ := Option.map_eq_some_iff.mp q
      exact .lst (.inl (.inl (e _ _ hs))) (toDs_ok e xs _ ds ha q1)
  | .kls xs, _, _, h, q => by
    cases h with
    | kls hs ha =>
      simp only [toD] at q
      obtain ⟨ds, q1, rfl⟩ := Option.map_eq_some_iff.mp q
      exact .lst (e.seq hs) (toDs_ok e xs _ ds ha q1)
  | .obj c ns xs, _, _, h, q => by simp only [toD] at q; cases q
  | .mu n, _, _, h, q => by simp only [toD] at q; cases q
  | .xv n, _, _, h, q => by simp only [toD] at q; cases q
theorem toDs_ok (e : Same W.B H) : ∀ (ps : List PV) (vs : List V) (ds : List D), RpA M W vs ps → toDs ps = some ds → DpAll M.K H vs ds
  | [], _, _, h, q => by cases h; simp only [toDs] at q; cases q; exact .nil
  | p :: ps, _, ds, h, q => by
    cases h with
    | cons h1 h2 =>
      simp only [toDs] at q
      split at q
      · rename_i d ds' q1 q2
        cases q
        exact .cons (toD_ok e p _ d h1 q1) (toDs_ok e ps _ ds' h2 q2)
      · cases q
end
mutual
theorem dat_ok (r : Rel M W H S) : ∀ (p : PV) (v : V) (d : D), Rp M W v p → dat S p = some d → Dp M.K H v d
  | .non, _, _, h, q => by cases h; simp only [dat] at q; cases q; exact .non
  | .bl b, _, _, h, q => by cases h; simp only [dat] at q; cases q; exact .bl b
  | .int i, _, _, h, q => by cases h; simp only [dat] at q; cases q; exact .int i
  | .str z, _, _, h, q => by cases h; simp only [dat] at q; cases q; exact .str z
  | .tup xs, _, _, h, q => by
    cases h with
    | tup hs ha =>
      simp only [dat] at q
      obtain ⟨ds, q1, rfl⟩ := Option.map_eq_some_iff.mp q
      exact .tup (seqT_up r.i hs) (dats_ok r xs _ ds ha q1)
  | .lst xs, _, _, h, q => by
    cases h with
    | lst hs ha =>
      simp only [dat] at q
      obtain ⟨ds, q1, rfl⟩ := Option.map_eq_some_iff.mp q
      exact .lst (.inl (.inl (r.i _ _ hs))) (dats_ok r xs _ ds ha q1)
  | .kls xs, _, _, h, q => by
    cases h with
    | kls hs ha =>
      simp only [dat] at q
      obtain ⟨ds, q1, rfl⟩ := Option.map_eq_some_iff.mp q
      exact .lst (r.i.seq hs) (dats_ok r xs _ ds ha q1)
  | .obj c ns xs, _, _, h, q => by simp only [dat] at q; cases q
  | .mu n, v, d, h, q => by
    simp only [dat] at q
    split at q
    · rename_i xs q0
      obtain ⟨ds, q1, rfl⟩ := Option.map_eq_some_iff.mp q
      obtain ⟨a, vs, rfl, hs, ha⟩ := look_lst (xs := xs) r h (by unfold look; dsimp only; rw [q0])
      exact .lst hs (toDs_ok r.i xs vs ds ha q1)
    · cases q
  | .xv n, v, d, h, q => by simp only [dat] at q; cases q
theorem dats_ok (r : Rel M W H S) : ∀ (ps : List PV) (vs : List V) (ds : List D), RpA M W vs ps → dats S ps = some ds → DpAll M.K H vs ds
  | [], _, _, h, q => by cases h; simp only [dats] at q; cases q; exact .nil
  | p :: ps, _, ds, h, q => by
    cases h with
    | cons h1 h2 =>
      simp only [dats] at q
      split at q
      · rename_i d ds' q1 q2
        cases q
        exact .cons (dat_ok r p _ d h1 q1) (dats_ok r ps _ ds' h2 q2)
      · cases q
end
/-! ### operators -/
theorem okG_end {v : V} {p : PV} {Q : VK} (r : Rel M W H S) (h : Rp M W v p) (q : okG Rp M W H Q p S) : Q v H := q v W H (.refl W H) r h
def fAdd : F2 := fun S x y => match look S x, look S y with
  | .int i, .int j => some (.int (i + j))
  | .str a, .str b => if a.length + b.length ≤ 100000 then some (.str (a ++ b)) else none
  | .tup xs, .tup ys => if xs.length + ys.length ≤ 100000 then some (.tup (xs ++ ys)) else none
  | .lst xs, .lst ys => match x, y with
    | .kls _, _ => none
    | _, .kls _ => none
    | _, _ => if xs.length + ys.length ≤ 100000 then some (.lst (xs ++ ys)) else none
  | _, _ => none
theorem look_lstH (r : Rel M W H S) {v : V} {p : PV} {xs : List PV} (h : Rp M W v p) (hk : ∀ ys, p ≠ .kls ys) (e : look S p = .lst xs) : ∃ a vs, v = .ref a ∧ H a = some (.lst vs) ∧ RpA M W vs xs := by
  cases h with
  | lst hs ha => cases e; exact ⟨_, _, rfl, r.i _ _ hs, ha⟩
  | kls hs ha => exact absurd rfl (hk _)
  | @mu n a hm =>
    unfold look at e
    dsimp only at e
    cases q : S[n]? with
    | none => rw [q] at e; cases e
    | some c =>
      rw [q] at e
      cases c with
      | lst ys =>
        cases e
        obtain ⟨_, vs, h1, h2⟩ := r.c n a _ hm q
        exact ⟨a, vs, rfl, h1, h2⟩
      | obj => cases e
      | dead => cases e
  | _ => cases e
theorem ite_some {α : Type} {c : Prop} [Decidable c] {x y : α} (h : (if c then some x else none) = some y) : c ∧ x = y := by
  by_cases z : c
  · rw [if_pos z] at h; exact ⟨z, Option.some.inj h⟩
  · rw [if_neg z] at h; cases h
theorem k_add : K2 M (rAddA M.K) fAdd := fun W H S u v x y p r hx hy e Q q => by
  unfold fAdd at e
  split at e
  · rename_i i j ex ey
    cases e
    exact .inl ⟨i, j, look_int hx ex, look_int hy ey, okG_end r (.int _) q⟩
  · rename_i a b ex ey
    obtain ⟨z, rfl⟩ := ite_some e
    exact .inr (.inl ⟨a, b, look_str hx ex, look_str hy ey, big_ok z, okG_end r (.str _) q⟩)
  · rename_i xs ys ex ey
    obtain ⟨z, rfl⟩ := ite_some e
    obtain ⟨a, us, rfl, h1, h2⟩ := look_tup r hx ex
    obtain ⟨b, vs, rfl, h3, h4⟩ := look_tup r hy ey
    refine .inr (.inr (.inr ⟨a, b, us, vs, rfl, rfl, h1, h3, big_ok (by rw [rpa_len h2, rpa_len h4]; exact z), fun z => ?_, fun n z => ?_, fun n1 n2 => new_tup (.refl W H) r (rpa_app h2 h4) q⟩))
    · subst z
      cases h2
      cases hy with
      | tup hs ha => cases ey; exact okG_end r (.tup hs ha) q
      | @mu n b hm =>
        exfalso
        unfold look at ey
        dsimp only at ey
        cases w : S[n]? with
        | none => rw [w] at ey; cases ey
        | some c => rw [w] at ey; cases c <;> cases ey
      | _ => cases ey
    · subst z
      cases h4
      rw [List.append_nil] at q
      cases hx with
      | tup hs ha => cases ex; exact okG_end r (.tup hs ha) q
      | @mu n b hm =>
        exfalso
        unfold look at ex
        dsimp only at ex
        cases w : S[n]? with
        | none => rw [w] at ex; cases ex
        | some c => rw [w] at ex; cases c <;> cases ex
      | _ => cases ex
  · rename_i xs ys ex ey
    have main : (∀ ys, x ≠ .kls ys) → (∀ ys, y ≠ .kls ys) → xs.length + ys.length ≤ 100000 → p = .lst (xs ++ ys) → rAddA M.K u v H Q := fun k1 k2 z e => by
      subst e
      obtain ⟨a, us, rfl, h1, h2⟩ := look_lstH r hx k1 ex
      obtain ⟨b, vs, rfl, h3, h4⟩ := look_lstH r hy k2 ey
      exact .inr (.inr (.inl ⟨a, b, us, vs, rfl, rfl, h1, h3, big_ok (by rw [rpa_len h2, rpa_len h4]; exact z), new_lst (.refl W H) r (rpa_app h2 h4) q⟩))
    split at e
    · cases e
    · cases e
    · rename_i n1 n2
      obtain ⟨z, e⟩ := ite_some e
      exact main (fun ys q => n1 _ q) (fun ys q => n2 _ q) z e.symm
  · cases e
/-- an operator on two ints -/
def fI (C : Int → Int → Prop) [∀ i j, Decidable (C i j)] (g : Int → Int → PV) : F2 := fun S x y => match x, y with
  | .int i, .int j => if C i j then some (g i j) else none
  | _, _ => none
theorem fI_inv {C : Int → Int → Prop} [∀ i j, Decidable (C i j)] {g : Int → Int → PV} {x y p : PV} {u v : V} (hx : Rp M W u x) (hy : Rp M W v y) (e : fI C g S x y = some p) : ∃ i j, u = .int i ∧ v = .int j ∧ C i j ∧ p = g i j := by
  cases x <;> first | (cases e; done) | skip
  cases y <;> first | (cases e; done) | skip
  cases hx; cases hy
  obtain ⟨z, rfl⟩ := ite_some e
  exact ⟨_, _, rfl, rfl, z, rfl⟩
abbrev fI0 (g : Int → Int → PV) : F2 := fI (fun _ _ => True) g
theorem k_I0 {g : Int → Int → PV} {gv : Int → Int → V} (h : ∀ W i j, Rp M W (gv i j) (g i j)) : K2 M (rI0 gv) (fI0 g) := fun W H S u v x y p r hx hy e Q q => by
  obtain ⟨i, j, rfl, rfl, _, rfl⟩ := fI_inv hx hy e
  exact ⟨i, j, rfl, rfl, okG_end r (h _ _ _) q⟩
theorem k_I {C C' : Int → Int → Prop} [∀ i j, Decidable (C i j)] {g : Int → Int → PV} {gv : Int → Int → V} (hc : ∀ i j, C i j → C' i j) (h : ∀ W i j, Rp M W (gv i j) (g i j)) : K2 M (rI C' gv) (fI C g) := fun W H S u v x y p r hx hy e Q q => by
  obtain ⟨i, j, rfl, rfl, z, rfl⟩ := fI_inv hx hy e
  exact ⟨i, j, rfl, rfl, hc _ _ z, okG_end r (h _ _ _) q⟩
abbrev fSub : F2 := fI0 fun i j => .int (i - j)
abbrev fLt : F2 := fI0 fun i j => .bl (decide (i < j))
abbrev fLe : F2 := fI0 fun i j => .bl (decide (i ≤ j))
abbrev fGt : F2 := fI0 fun i j => .bl (decide (j < i))
abbrev fGe : F2 := fI0 fun i j => .bl (decide (j ≤ i))
abbrev fMul : F2 := fI (fun i j => (-18446744073709551616 < i ∧ i < 18446744073709551616) ∨ (-18446744073709551616 < j ∧ j < 18446744073709551616)) fun i j => .int (i * j)
abbrev fMod : F2 := fI (fun _ j => 0 < j) fun i j => .int (i % j)
abbrev fDiv : F2 := fI (fun _ j => 0 < j ∧ j.natAbs.log2 < 9000) fun i j => .int (i / j)
theorem k_sub : K2 M (rI0 fun i j => .int (i - j)) fSub := k_I0 fun _ _ _ => .int _
theorem k_lt : K2 M (rI0 fun i j => .bl (decide (i < j))) fLt := k_I0 fun _ _ _ => .bl _
theorem k_le : K2 M (rI0 fun i j => .bl (decide (i ≤ j))) fLe := k_I0 fun _ _ _ => .bl _
theorem k_gt : K2 M (rI0 fun i j => .bl (decide (j < i))) fGt := k_I0 fun _ _ _ => .bl _
theorem k_ge : K2 M (rI0 fun i j => .bl (decide (j ≤ i))) fGe := k_I0 fun _ _ _ => .bl _
theorem k_mul : K2 M (rI CMul fun i j => .int (i * j)) fMul := k_I (fun _ _ h => by
  have e : (2 : Int) ^ 64 = 18446744073709551616 := by decide
  unfold CMul
  rw [e]
  exact h) fun _ _ _ => .int _
theorem k_mod : K2 M (rI (fun _ j => 0 < j) fun i j => .int (i % j)) fMod := k_I (fun _ _ h => h) fun _ _ _ => .int _
theorem k_div : K2 M (rI CDivW fun i j => .int (i / j)) fDiv := k_I (fun _ _ h => h) fun _ _ _ => .int _
def fEq : F2 := fun S x y => match dat S x, dat S y with
  | some d, some e => if SeqAt.shaped d = true ∧ SeqAt.shaped e = true then some (.bl (PyData.eqv d e)) else none
  | _, _ => none
def fNe : F2 := fun S x y => match dat S x, dat S y with
  | some d, some e => if SeqAt.shaped d = true ∧ SeqAt.shaped e = true then some (.bl (!PyData.eqv d e)) else none
  | _, _ => none
theorem k_eqD : K2 M (rEqD M.K) fEq := fun W H S u v x y p r hx hy e Q q => by
  unfold fEq at e
  split at e
  · rename_i d d' h1 h2
    obtain ⟨⟨z1, z2⟩, rfl⟩ := ite_some e
    exact ⟨d, d', dat_ok r _ _ _ hx h1, dat_ok r _ _ _ hy h2, z1, z2, okG_end r (.bl _) q⟩
  · cases e
theorem k_neD : K2 M (rNeD M.K) fNe := fun W H S u v x y p r hx hy e Q q => by
  unfold fNe at e
  split at e
  · rename_i d d' h1 h2
    obtain ⟨⟨z1, z2⟩, rfl⟩ := ite_some e
    exact ⟨d, d', dat_ok r _ _ _ hx h1, dat_ok r _ _ _ hy h2, z1, z2, okG_end r (.bl _) q⟩
  · cases e
def isNonP : PV → Bool
  | .non => true
  | _ => false
theorem dec_nonP {v : V} {p : PV} (h : Rp M W v p) : decide (v = V.non) = isNonP p := by
  cases h <;> first | rfl | exact decide_eq_false (fun z => nomatch z)
def fIsN : F2 := fun S x y => if isNonP y = true then some (.bl (isNonP x)) else none
def fNotN : F2 := fun S x y => if isNonP y = true then some (.bl (!isNonP x)) else none
theorem isNon_v {v : V} {p : PV} (h : Rp M W v p) (e : isNonP p = true) : v = .non := by
  rw [← dec_nonP h] at e
  exact of_decide_eq_true e
theorem k_isN : K2 M rIsN fIsN := fun W H S u v x y p r hx hy e Q q => by
  obtain ⟨z, rfl⟩ := ite_some e
  refine ⟨isNon_v hy z, ?_⟩
  rw [dec_nonP hx]
  exact okG_end r (.bl _) q
theorem k_notN : K2 M rNotN fNotN := fun W H S u v x y p r hx hy e Q q => by
  obtain ⟨z, rfl⟩ := ite_some e
  refine ⟨isNon_v hy z, ?_⟩
  rw [dec_nonP hx]
  exact okG_end r (.bl _) q
/-- a subscript -/
def fIx : F2 := fun S x y => match look S x, y with
  | .lst xs, .int i => atI xs i
  | .tup xs, .int i => atI xs i
  | .str z, .int i => if z.length ≤ 100000 then (atI z.cps.toList i).map fun c => .str ⟨#[c]⟩ else none
  | _, _ => none
theorem atI_rel {vs : List V} {ps : List PV} {i : Int} {p : PV} (h : RpA M W vs ps) (e : atI ps i = some p) : ∃ v, atI vs i = some v ∧ Rp M W v p := by
  have l := rpa_len h
  unfold atI at e ⊢
  rw [l]
  cases q : ixN ps.length i with
  | none => rw [q] at e; cases e
  | some n =>
    rw [q] at e
    exact rpa_get h e
theorem k_ix : K2 M (rIx M.K) fIx := fun W H S u v x y p r hx hy e Q q => by
  unfold fIx at e
  split at e
  · rename_i xs i ex
    cases hy
    obtain ⟨a, vs, rfl, h1, h2⟩ := look_lst r hx ex
    obtain ⟨w, h3, h4⟩ := atI_rel h2 e
    exact .inl ⟨a, vs, i, w, rfl, rfl, h1, h3, okG_end r h4 q⟩
  · rename_i xs i ex
    cases hy
    obtain ⟨a, vs, rfl, h1, h2⟩ := look_tup r hx ex
    obtain ⟨w, h3, h4⟩ := atI_rel h2 e
    exact .inr (.inl ⟨a, vs, i, w, rfl, rfl, h1, h3, okG_end r h4 q⟩)
  · rename_i z i ex
    cases hy
    obtain ⟨zl, e⟩ : z.length ≤ 100000 ∧ (atI z.cps.toList i).map (fun c => PV.str ⟨#[c]⟩) = some p := by
      by_cases zl : z.length ≤ 100000
      · rw [if_pos zl] at e; exact ⟨zl, e⟩
      · rw [if_neg zl] at e; cases e
    obtain ⟨c, h1, rfl⟩ := Option.map_eq_some_iff.mp e
    exact .inr (.inr ⟨z, i, c, look_str hx ex, rfl, big_ok zl, h1, okG_end r (.str _) q⟩)
  · cases e
/-! ### built-ins -/
theorem rpa1 {vs : List V} {a : PV} (h : RpA M W vs [a]) : ∃ x, vs = [x] ∧ Rp M W x a := by
  cases h with | cons h1 h => cases h; exact ⟨_, rfl, h1⟩
def fLen : FC := fun xs S => match xs with
  | [x] => match look S x with
    | .lst ys => .ok (.int (ys.length : Int)) S
    | .tup ys => .ok (.int (ys.length : Int)) S
    | .str z => if z.length ≤ 100000 then .ok (.int (z.length : Int)) S else .stuck
    | _ => .stuck
  | _ => .stuck
theorem k_len : KC M (rLenA M.K) fLen := fun W H S vs xs r ha Q q => by
  unfold fLen at q
  split at q
  · rename_i x
    obtain ⟨v, rfl, hv⟩ := rpa1 ha
    split at q
    · rename_i ys e
      obtain ⟨a, us, rfl, h1, h2⟩ := look_lst r hv e
      refine ⟨_, _, rfl, .inl ⟨_, h1, rfl⟩, ?_⟩
      rw [rpa_len h2]
      exact okG_end r (.int _) q
    · rename_i ys e
      obtain ⟨a, us, rfl, h1, h2⟩ := look_tup r hv e
      refine ⟨_, _, rfl, .inr ⟨_, h1, rfl⟩, ?_⟩
      rw [rpa_len h2]
      exact okG_end r (.int _) q
    · rename_i z e
      obtain ⟨zl, q⟩ := ite_post q
      have := look_str hv e
      subst this
      exact ⟨_, _, rfl, ⟨big_ok zl, rfl⟩, okG_end r (.int _) q⟩
    · exact q.elim
  · exact q.elim
def fTuple : FC := fun xs S => match xs with
  | [x] => match look S x with
    | .lst ys => .ok (.tup ys) S
    | .tup ys => .ok (.tup ys) S
    | _ => .stuck
  | _ => .stuck
theorem k_tuple : KC M (rTupO M.K) fTuple := fun W H S vs xs r ha Q q => by
  unfold fTuple at q
  split at q
  · rename_i x
    obtain ⟨v, rfl, hv⟩ := rpa1 ha
    split at q
    · rename_i ys e
      obtain ⟨a, us, rfl, h1, h2⟩ := look_lst r hv e
      exact ⟨a, us, rfl, .inl ⟨h1, new_tup (.refl W H) r h2 q⟩⟩
    · rename_i ys e
      cases hv with
      | tup hs hh =>
        cases e
        exact ⟨_, _, rfl, .inr ⟨seqT_up r.i hs, okG_end r (.tup hs hh) q⟩⟩
      | @mu n b hm =>
        exfalso
        unfold look at e
        dsimp only at e
        cases w : S[n]? with
        | none => rw [w] at e; cases e
        | some c => rw [w] at e; cases c <;> cases e
      | _ => cases e
    · exact q.elim
  · exact q.elim
def fList : FC := fun xs S => match xs with
  | [x] => match items S x with
    | some (_, ys) => .ok (.lst ys) S
    | none => .stuck
  | _ => .stuck
def fListM : FC := fun xs S => match xs with
  | [x] => match items S x with
    | some (_, ys) => newL ys S
    | none => .stuck
  | _ => .stuck
theorem sqB_or {k : Bool} {a : Addr} {vs : List V} (h : SqB M.K k H a vs) : SqL M.K H a vs ∨ SqT M.K H a vs := by
  cases k with
  | true => exact .inl h
  | false => exact .inr h
theorem k_list : KC M (rLstO M.K) fList := fun W H S vs xs r ha Q q => by
  unfold fList at q
  split at q
  · rename_i x
    obtain ⟨v, rfl, hv⟩ := rpa1 ha
    split at q
    · rename_i k ys e
      obtain ⟨a, us, rfl, h1, h2⟩ := items_sq r hv e
      exact ⟨a, us, rfl, sqB_or h1, new_lst (.refl W H) r h2 q⟩
    · exact q.elim
  · exact q.elim
theorem k_listM : KC M (rLstO M.K) fListM := fun W H S vs xs r ha Q q => by
  unfold fListM at q
  split at q
  · rename_i x
    obtain ⟨v, rfl, hv⟩ := rpa1 ha
    split at q
    · rename_i k ys e
      obtain ⟨a, us, rfl, h1, h2⟩ := items_sq r hv e
      exact ⟨a, us, rfl, sqB_or h1, new_mu (.refl W H) r h2 q⟩
    · exact q.elim
  · exact q.elim
def bools : List PV → Option (List Bool)
  | [] => some []
  | .bl b :: ps => (bools ps).map (b :: ·)
  | _ :: _ => none
theorem bools_ok : ∀ {ps : List PV} {vs : List V} {bs : List Bool}, RpA M W vs ps → bools ps = some bs → vs = bs.map V.bl
  | [], _, _, h, e => by cases h; cases e; rfl
  | p :: ps, _, _, h, e => by
    cases h with
    | cons h1 h2 =>
      cases h1 <;> first | (simp only [bools] at e; cases e; done) | skip
      simp only [bools] at e
      obtain ⟨bs', h3, rfl⟩ := Option.map_eq_some_iff.mp e
      rw [bools_ok h2 h3]
      rfl
def fAll : FC := fun xs S => match xs with
  | [x] => match look S x with
    | .lst ys => match bools ys with
      | some bs => .ok (.bl (bs.all id)) S
      | none => .stuck
    | _ => .stuck
  | _ => .stuck
theorem k_all : KC M (rAll M.K) fAll := fun W H S vs xs r ha Q q => by
  unfold fAll at q
  split at q
  · rename_i x
    obtain ⟨v, rfl, hv⟩ := rpa1 ha
    split at q
    · rename_i ys e
      split at q
      · rename_i bs e2
        obtain ⟨a, us, rfl, h1, h2⟩ := look_lst r hv e
        have := bools_ok h2 e2
        subst this
        exact ⟨a, bs, rfl, h1, okG_end r (.bl _) q⟩
      · exact q.elim
    · exact q.elim
  · exact q.elim
def fAbs : FC := fun xs S => match xs with
  | [.int i] => .ok (.int (if i < 0 then -i else i)) S
  | _ => .stuck
theorem k_abs : KC M (fun xs H Q => ∃ i, xs = [.int i] ∧ Q (.int (if i < 0 then -i else i)) H) fAbs := fun W H S vs xs r ha Q q => by
  unfold fAbs at q
  split at q
  · obtain ⟨v, rfl, hv⟩ := rpa1 ha
    cases hv
    exact ⟨_, rfl, okG_end r (.int _) q⟩
  · exact q.elim
def fInt : FC := fun xs S => match xs with
  | [.int i] => .ok (.int i) S
  | [.bl b] => .ok (.int (if b then 1 else 0)) S
  | _ => .stuck
theorem k_int : KC M rInt1 fInt := fun W H S vs xs r ha Q q => by
  unfold fInt at q
  split at q
  · obtain ⟨v, rfl, hv⟩ := rpa1 ha
    cases hv
    exact .inl ⟨_, rfl, okG_end r (.int _) q⟩
  · obtain ⟨v, rfl, hv⟩ := rpa1 ha
    cases hv
    exact .inr ⟨_, rfl, okG_end r (.int _) q⟩
  · exact q.elim
def fRepr : FC := fun xs S => match xs with
  | [x] => match dat S x with
    | some d => if d.showable = true ∧ d.depth ≤ 60 ∧ d.shown.length ≤ 1000000 then .ok (.str d.shown) S else .stuck
    | none => .stuck
  | _ => .stuck
theorem k_repr : KC M (rReprD M.K) fRepr := fun W H S vs xs r ha Q q => by
  unfold fRepr at q
  split at q
  · rename_i x
    obtain ⟨v, rfl, hv⟩ := rpa1 ha
    split at q
    · rename_i d e
      obtain ⟨⟨h1, h2, h3⟩, q⟩ := ite_post q
      exact ⟨v, d, rfl, dat_ok r _ _ _ hv e, h1, h2, h3, okG_end r (.str _) q⟩
    · exact q.elim
  · exact q.elim
/-! ### isinstance with built-in classes -/
def tyP (S : Sta) (p : PV) : Option String := match look S p with
  | .non => some "NoneType"
  | .bl _ => some "bool"
  | .int _ => some "int"
  | .str _ => some "str"
  | .tup _ => some "tuple"
  | .lst _ => some "list"
  | _ => none
def isT (t : String) (k : Ty) : Bool := match k with
  | .int => t == "int" || t == "bool"
  | .bool => t == "bool"
  | .str => t == "str"
  | .list => t == "list"
  | .tuple => t == "tuple"
theorem tyx_lst {a : Addr} {vs : List V} {K : PySem.W.Frag} (h : SqL K H a vs) : TyX K H (.ref a) (.type "list") := by
  rcases h with (h | ⟨o, h⟩) | ⟨o, its, n, hk, hc, _⟩
  · exact .base (.lst h)
  · exact .base (.frz h)
  · exact .kList hk hc
theorem tyx_tup {a : Addr} {vs : List V} {K : PySem.W.Frag} (h : SqT K H a vs) : TyX K H (.ref a) (.type "tuple") := by
  rcases h with (h | ⟨o, h⟩) | ⟨o, its, n, hk, hc, _⟩
  · exact .base (.tup h)
  · exact .fTuple h
  · exact .kTuple hk hc
theorem look_mu {v : V} {p : PV} {n : Nat} (e : look S p = .mu n) : tyP S p = none := by
  unfold tyP
  rw [e]
theorem tyP_ok (r : Rel M W H S) {v : V} {p : PV} {t : String} (h : Rp M W v p) (e : tyP S p = some t) : TyX M.K H v (.type t) ∧ (t = "NoneType" ∨ t = "bool" ∨ t = "int" ∨ t = "str" ∨ t = "tuple" ∨ t = "list") := by
  cases h with
  | non => cases e; exact ⟨.base .non, by decide⟩
  | bl b => cases e; exact ⟨.base (.bl b), by decide⟩
  | int i => cases e; exact ⟨.base (.int i), by decide⟩
  | str z => cases e; exact ⟨.base (.str z), by decide⟩
  | tup hs ha => cases e; exact ⟨tyx_tup (seqT_up r.i hs), by decide⟩
  | lst hs ha => cases e; exact ⟨.base (.lst (r.i _ _ hs)), by decide⟩
  | kls hs ha => cases e; exact ⟨tyx_lst (r.i.seq hs), by decide⟩
  | obj => cases e
  | xv => cases e
  | @mu n a hm =>
    unfold tyP look at e
    dsimp only at e
    cases w : S[n]? with
    | none => rw [w] at e; cases e
    | some c =>
      rw [w] at e
      cases c with
      | lst xs =>
        cases e
        obtain ⟨_, vs, h1, h2⟩ := r.c n a _ hm w
        exact ⟨.base (.lst h1), by decide⟩
      | obj => cases e
      | dead => cases e
theorem kit_isT {t : String} (k : Ty) (h : t = "NoneType" ∨ t = "bool" ∨ t = "int" ∨ t = "str" ∨ t = "tuple" ∨ t = "list") : kitB t k.nm = some (isT t k) := by
  rcases h with h | h | h | h | h | h <;> subst h <;> cases k <;> decide +kernel
def IsiE (k : Ty) (ma : Env → Sta → Out PV) : Env → Sta → Out PV := fun ε S => (ma ε S).bind fun x S1 => (lift (tyP S1 x) S1).bind fun t S1 => .ok (.bl (isT t k)) S1
theorem re_isi (k : Ty) (ha : RE M W0 X ta ma) : RE M W0 X (tCB (rIsi M.K) (tCons ta (tCons (tC (.ty k.nm)) tNil))) (IsiE k ma) := fun W H S σ ε le r0 er Q q =>
  ha.thn (.refl W H) le r0 er q fun u x S1 W1 H1 g1 r1 p1 q1 => by
    rw [opost_bind] at q1
    obtain ⟨t, e, q2⟩ := opost_lift q1
    obtain ⟨h1, h2⟩ := tyP_ok r1 p1 e
    exact ⟨u, .ty k.nm, .type t, .type k.nm, isT t k, rfl, .ty k.nm, h1, kit_ty (kit_isT k h2), q2 _ W1 H1 g1 r1 (.bl _)⟩
def IsiTE (k l : Ty) (ma : Env → Sta → Out PV) : Env → Sta → Out PV := fun ε S => (ma ε S).bind fun x S1 => (lift (tyP S1 x) S1).bind fun t S1 => .ok (.bl (isT t k || isT t l)) S1
theorem re_isiT (n m : Ty) (ha : RE M W0 X ta ma) : RE M W0 X (tCB (rIsiT M.K) (tCons ta (tCons (tTup (tCons (tC (.ty n.nm)) (tCons (tC (.ty m.nm)) tNil))) tNil))) (IsiTE n m ma) := fun W H S σ ε le r0 er Q q =>
  ha.thn (.refl W H) le r0 er q fun u x S1 W1 H1 g1 r1 p1 q1 => by
    rw [opost_bind] at q1
    obtain ⟨t, e, q2⟩ := opost_lift q1
    refine ⟨by show 2 ≤ sizeLine; decide, fun p hp => ?_⟩
    obtain ⟨r2, g2⟩ := r1.new (o := .tup [.ty n.nm, .ty m.nm]) hp
    obtain ⟨h1, h2⟩ := tyP_ok r2 (rp_up g2.le _ _ p1) e
    refine ⟨u, p, _, .type t, [.type n.nm, .type m.nm], isT t n || isT t m, rfl, upd_same, .cons (.ty n.nm) (.cons (.ty m.nm) .nil), h1, ?_, q2 _ _ _ (g1.trans g2) r2 (.bl _)⟩
    refine kitAny_cons (kit_ty (kit_isT n h2)) (fun z => ?_) (fun z => by rw [z]; rfl)
    rw [z]
    refine kitAny_cons (kit_ty (kit_isT m h2)) (fun z' => ?_) (fun z' => by rw [z']; rfl)
    rw [z']
    exact kitAny_nil
/-! ### slices, join -/
def NoO : Env → Sta → Out (Option Int) := fun _ S => .ok none S
def PartO (me : Env → Sta → Out PV) : Env → Sta → Out (Option Int) := fun ε S => (me ε S).bind fun x S1 => match x with
  | .int i => .ok (some i) S1
  | _ => .stuck
theorem ro_none : RO M W0 X tNoPart NoO := fun W H S σ ε le r0 er Q q => q none W H (.refl W H) r0 rfl
theorem ro_part (h : RE M W0 X te me) : RO M W0 X (tPart te) (PartO me) := fun W H S σ ε le r0 er Q q =>
  h.thn (.refl W H) le r0 er q fun u x S1 W1 H1 g1 r1 p1 q1 => by
    split at q1
    · cases p1
      exact ⟨_, rfl, q1 _ W1 H1 g1 r1 rfl⟩
    · exact q1.elim
def cutP (xs : List PV) (lo hi : Option Int) : List PV := (xs.drop (HT.sIx xs.length 0 lo)).take (HT.sIx xs.length xs.length hi - HT.sIx xs.length 0 lo)
def fSl (S : Sta) (x : PV) (l u : Option Int) : Option PV := match look S x with
  | .lst xs => some (.lst (cutP xs l u))
  | .tup xs => some (.tup (cutP xs l u))
  | .str z => if z.length ≤ 100000 then some (.str (cutS z l u)) else none
  | _ => none
def SlE (ma : Env → Sta → Out PV) (ml mh : Env → Sta → Out (Option Int)) : Env → Sta → Out PV := fun ε S => (ma ε S).bind fun x S1 => (ml ε S1).bind fun l S2 => (mh ε S2).bind fun u S3 => lift (fSl S3 x l u) S3
theorem cut_relP {vs : List V} {ps : List PV} {l u : Option Int} (h : RpA M W vs ps) : RpA M W (cutV vs l u) (cutP ps l u) := by
  unfold cutV cutP
  rw [rpa_len h]
  exact rpa_take _ (rpa_drop _ h)
theorem look_tupB {v : V} {p : PV} {xs : List PV} (h : Rp M W v p) (e : look S p = .tup xs) : p = .tup xs := by
  cases h with
  | tup hs ha => cases e; rfl
  | @mu n a hm =>
    unfold look at e
    dsimp only at e
    cases q : S[n]? with
    | none => rw [q] at e; cases e
    | some c => rw [q] at e; cases c <;> cases e
  | _ => cases e
theorem re_sl {tl th : TO} {ml mh : Env → Sta → Out (Option Int)} (ha : RE M W0 X ta ma) (hl : RO M W0 X tl ml) (hh : RO M W0 X th mh) : RE M W0 X (tSl (rSlX M.K) ta tl th) (SlE ma ml mh) := fun W H S σ ε le r0 er Q q =>
  ha.thn (.refl W H) le r0 er q fun v x S1 W1 H1 g1 r1 p1 q1 => hl.thn g1 le r1 er q1 fun l l' S2 W2 H2 g2 r2 p2 q2 => hh.thn (g1.trans g2) le r2 er q2 fun u u' S3 W3 H3 g3 r3 p3 q3 => by
    cases p2; cases p3
    obtain ⟨p, e, q4⟩ := opost_lift q3
    have p1' := rp_up (g2.trans g3).le _ _ p1
    have g13 := (g1.trans g2).trans g3
    unfold fSl at e
    split at e
    · rename_i xs ex
      cases e
      obtain ⟨a, vs, rfl, h1, h2⟩ := look_lst r3 p1' ex
      exact .inl ⟨_, _, rfl, h1, new_lst g13 r3 (cut_relP h2) q4⟩
    · rename_i xs ex
      cases e
      have := look_tupB p1' ex
      subst this
      cases p1' with
      | tup hs hz =>
        refine .inr (.inl ⟨_, _, rfl, seqT_up r3.i hs, fun ⟨z1, z2⟩ => ?_, fun _ => new_tup g13 r3 (cut_relP hz) q4⟩)
        have el := rpa_len hz
        rw [el] at z1 z2
        have ec : cutP xs l u = xs := by
          unfold cutP
          rw [z1, z2]
          simp
        rw [ec] at q4
        exact q4 _ W3 H3 g13 r3 (.tup hs hz)
    · rename_i z ex
      obtain ⟨zl, rfl⟩ := ite_some e
      exact .inr (.inr ⟨z, look_str p1' ex, big_ok zl, q4 _ W3 H3 g13 r3 (.str _)⟩)
    · cases e
def strsP : List PV → Option (List Str)
  | [] => some []
  | .str b :: ps => (strsP ps).map (b :: ·)
  | _ :: _ => none
theorem strs_ok : ∀ {ps : List PV} {vs : List V} {bs : List Str}, RpA M W vs ps → strsP ps = some bs → vs = bs.map V.str
  | [], _, _, h, e => by cases h; cases e; rfl
  | p :: ps, _, _, h, e => by
    cases h with
    | cons h1 h2 =>
      cases h1 <;> first | (simp only [strsP] at e; cases e; done) | skip
      simp only [strsP] at e
      obtain ⟨bs', h3, rfl⟩ := Option.map_eq_some_iff.mp e
      rw [strs_ok h2 h3]
      rfl
def JoinE (ma mb : Env → Sta → Out PV) : Env → Sta → Out PV := fun ε S => (ma ε S).bind fun x S1 => match x with
  | .str a => (mb ε S1).bind fun y S2 => match items S2 y with
    | some (_, ys) => match strsP ys with
      | some zs => if (zs.map (·.length)).sum + zs.length * a.length ≤ 100000 then .ok (.str (Txt.join a zs)) S2 else .stuck
      | none => .stuck
    | none => .stuck
  | _ => .stuck
theorem re_join (ha : RE M W0 X ta ma) (hb : RE M W0 X tb mb) : RE M W0 X (tM1 (rJoin M.K) ta tb) (JoinE ma mb) := fun W H S σ ε le r0 er Q q =>
  ha.thn (.refl W H) le r0 er q fun v x S1 W1 H1 g1 r1 p1 q1 => by
    split at q1
    · rename_i a
      cases p1
      refine ⟨⟨a, rfl⟩, hb.thn g1 le r1 er q1 fun w y S2 W2 H2 g2 r2 p2 q2 => ?_⟩
      split at q2
      · rename_i k ys e
        split at q2
        · rename_i zs ez
          obtain ⟨zl, q3⟩ := ite_post q2
          obtain ⟨b, us, rfl, h1, h2⟩ := items_sq r2 p2 e
          have := strs_ok h2 ez
          subst this
          exact ⟨a, b, zs, rfl, rfl, sqB_or h1, Nat.le_trans zl (by decide), q3 _ W2 H2 (g1.trans g2) r2 (.str _)⟩
        · exact q2.elim
      · exact q2.elim
    · exact q1.elim
end
end Fx
namespace Fx
open PySem PySem.Spec PyProof.Rows L2 Co
/-! ### statements -/
def Out.flow {α : Type} (o : Out α) (ε : Env) (f : α → Sta → Flow) (_ : Tag f := Tag.mk) : Flow := match o with
  | .ok a S => f a S
  | .ex c xs S => .ex c xs ε S
  | .stuck => .stuck
structure Wsh where
  nx : Env → Sta → Prop
  rt : PV → Sta → Prop
  bk : Env → Sta → Prop
  ct : Env → Sta → Prop
  ex : String → List PV → Env → Sta → Prop
def FPost (f : Flow) (D : Wsh) : Prop := match f with
  | .nx ε S => D.nx ε S
  | .rt p S => D.rt p S
  | .bk ε S => D.bk ε S
  | .ct ε S => D.ct ε S
  | .ex c xs ε S => D.ex c xs ε S
  | .stuck => False
section
variable {M : Md} {W W' Wa W0 W1 : Wd} {H H' Ha H1 : Hp} {S S' : Sta} {σ : L2.St} {ε : Env} {X : WX}
variable {ta tb tc te : TE} {ma mb mc me : Env → Sta → Out PV} {tt uu : TT} {mt mu : Env → Sta → Out Bool} {ts tr : TA} {ms mr : Env → Sta → Out (List PV)}
def enG (M : Md) (W : Wd) (H : Hp) (N : L2.St → Hp → Prop) (ε' : Env) (S' : Sta) : Prop := ∀ σ' W' H', Go W H W' H' → Rel M W' H' S' → Er M W' σ' ε' → N σ' H'
def exS (M : Md) (W : Wd) (H : Hp) (X : WX) (c : String) (xs : List PV) (ε' : Env) (S' : Sta) : Prop := ∀ d σ' W' H', Go W H W' H' → Rel M W' H' S' → Er M W' σ' ε' → Xd M W' c xs d → X (.ref (M.AD c)) d σ' H'
theorem enG.up {N : L2.St → Hp → Prop} {ε' : Env} (h : enG M W H N ε' S) (g : Go W H W' H') : enG M W' H' N ε' S := fun σ' W2 H2 g2 r q => h σ' W2 H2 (g.trans g2) r q
theorem exS.up {c : String} {xs : List PV} {ε' : Env} (h : exS M W H X c xs ε' S) (g : Go W H W' H') : exS M W' H' X c xs ε' S := fun d σ' W2 H2 g2 r q => h d σ' W2 H2 (g.trans g2) r q
def wsh (M : Md) (W : Wd) (H : Hp) (D : Ends) (X : WX) : Wsh := ⟨enG M W H D.nx, okG Rp M W H D.rt, enG M W H D.bk, enG M W H D.ct, exS M W H X⟩
theorem FPost.up {f : Flow} {D : Ends} (h : FPost f (wsh M W H D X)) (g : Go W H W' H') : FPost f (wsh M W' H' D X) := by
  cases f with
  | nx => exact enG.up h g
  | rt => exact okG.up h g
  | bk => exact enG.up h g
  | ct => exact enG.up h g
  | ex => exact exS.up h g
  | stuck => exact h
def RS (M : Md) (W0 : Wd) (X : WX) (t : TS) (m : Env → Sta → Flow) : Prop :=
  ∀ (W : Wd) (H : Hp) (S : Sta) (σ : L2.St) (ε : Env), Le W0 W → Rel M W H S → Er M W σ ε → ∀ D : Ends, FPost (m ε S) (wsh M W H D X) → t D σ H
theorem RG.thnS {α β : Type} {R : Md → Wd → β → α → Prop} {t : L2.St → Hp → (β → Hp → Prop) → Prop} {m : Env → Sta → Out α} {f : α → Sta → Flow} {D : Ends} {Q : β → Hp → Prop} (h : RG R M W0 X t m) (g : Go Wa Ha W H) (le : Le W0 Wa) (r : Rel M W H S) (er : Er M Wa σ ε)
    (q : FPost ((m ε S).flow ε f) (wsh M Wa Ha D X)) (k : ∀ b a S' W' H', Go W H W' H' → Rel M W' H' S' → R M W' b a → FPost (f a S') (wsh M Wa Ha D X) → Q b H') : t σ H Q := by
  refine h W H S σ ε (le.trans g.le) r (er.up g.le) Q ?_
  cases e : m ε S with
  | ok a S' =>
    rw [e] at q
    exact fun b W' H' g' r' p => k b a S' W' H' g' r' p q
  | ex c xs S' =>
    rw [e] at q
    exact fun d W' H' g' r' xd => q d σ W' H' (g.trans g') r' (er.up (g.trans g').le) xd
  | stuck => rw [e] at q; exact q
theorem RS.end {t : TS} {m : Env → Sta → Flow} {D : Ends} (h : RS M W0 X t m) (g : Go Wa Ha W H) (le : Le W0 Wa) (r : Rel M W H S) (er : Er M Wa σ ε) (q : FPost (m ε S) (wsh M Wa Ha D X)) : t D σ H :=
  h W H S σ ε (le.trans g.le) r (er.up g.le) D (q.up g)
variable {t u : TS} {m m' mt' mu' : Env → Sta → Flow}
def NextS : Env → Sta → Flow := fun ε S => .nx ε S
def BreakS : Env → Sta → Flow := fun ε S => .bk ε S
def ContS : Env → Sta → Flow := fun ε S => .ct ε S
def RetNS : Env → Sta → Flow := fun _ S => .rt .non S
theorem rs_next : RS M W0 X tNext NextS := fun W H S σ ε le r er D q => q σ W H (.refl W H) r er
theorem rs_break : RS M W0 X tBreak BreakS := fun W H S σ ε le r er D q => q σ W H (.refl W H) r er
theorem rs_cont : RS M W0 X tCont ContS := fun W H S σ ε le r er D q => q σ W H (.refl W H) r er
theorem rs_retN : RS M W0 X tRetN RetNS := fun W H S σ ε le r er D q => q .non W H (.refl W H) r .non
def RetS (me : Env → Sta → Out PV) : Env → Sta → Flow := fun ε S => (me ε S).flow ε fun p S1 => .rt p S1
theorem rs_ret (h : RE M W0 X te me) : RS M W0 X (tRet te) (RetS me) := fun W H S σ ε le r er D q =>
  h.thnS (.refl W H) le r er q fun v p S1 W1 H1 g1 r1 p1 q1 => q1 v W1 H1 g1 r1 p1
def DropS (me : Env → Sta → Out PV) : Env → Sta → Flow := fun ε S => (me ε S).flow ε fun _ S1 => .nx ε S1
theorem rs_drop (h : RE M W0 X te me) : RS M W0 X (tDrop te) (DropS me) := fun W H S σ ε le r er D q =>
  h.thnS (.refl W H) le r er q fun v p S1 W1 H1 g1 r1 p1 q1 => q1 σ W1 H1 g1 r1 (er.up g1.le)
/-- targets; they raise nothing -/
abbrev MG := PV → Env → Sta → Out Env
def RTg (M : Md) (W0 : Wd) (X : WX) (t : TG) (g : MG) : Prop := ∀ (W : Wd) (H : Hp) (S : Sta) (σ : L2.St) (ε : Env) (v : V) (p : PV), Le W0 W → Rel M W H S → Er M W σ ε → Rp M W v p → ∀ N : L2.St → Hp → Prop, OPost (g p ε S) (enG M W H N) noX → t v σ H N
def NameG (i : Nat) : MG := fun p ε S => .ok (ε.set i (some p)) S
theorem rg_name {i : Nat} : RTg M W0 X (gName i) (NameG i) := fun W H S σ ε v p le r er rp N q => q _ W H (.refl W H) r (er.set rp)
def RTgs (M : Md) (W0 : Wd) (X : WX) (t : TGs) (g : List PV → Env → Sta → Out Env) : Prop := ∀ (W : Wd) (H : Hp) (S : Sta) (σ : L2.St) (ε : Env) (vs : List V) (ps : List PV), Le W0 W → Rel M W H S → Er M W σ ε → RpA M W vs ps → ∀ N : L2.St → Hp → Prop, OPost (g ps ε S) (enG M W H N) noX → t vs σ H N
def NilG : List PV → Env → Sta → Out Env := fun ps ε S => match ps with
  | [] => .ok ε S
  | _ => .stuck
def ConsG (g : MG) (gs : List PV → Env → Sta → Out Env) : List PV → Env → Sta → Out Env := fun ps ε S => match ps with
  | p :: ps => (g p ε S).bind fun ε1 S1 => gs ps ε1 S1
  | [] => .stuck
def TupG (n : Nat) (gs : List PV → Env → Sta → Out Env) : MG := fun p ε S => match p with
  | .tup ps => if ps.length = n then gs ps ε S else .stuck
  | _ => .stuck
theorem rgs_nil : RTgs M W0 X gNil NilG := fun W H S σ ε vs ps le r er rp N q => by
  cases rp with
  | nil => exact ⟨rfl, q σ W H (.refl W H) r er⟩
  | cons => exact q.elim
theorem rgs_cons {t : TG} {u : TGs} {g : MG} {gs : List PV → Env → Sta → Out Env} (h : RTg M W0 X t g) (k : RTgs M W0 X u gs) : RTgs M W0 X (gCons t u) (ConsG g gs) := fun W H S σ ε vs ps le r er rp N q => by
  cases rp with
  | nil => exact q.elim
  | cons h1 h2 =>
    refine ⟨_, _, rfl, h W H S σ ε _ _ le r er h1 _ ?_⟩
    unfold ConsG at q
    dsimp only at q
    rw [opost_bind] at q
    exact q.mono (fun ε1 S1 q σ1 W1 H1 g1 r1 er1 => k W1 H1 S1 σ1 ε1 _ _ (le.trans g1.le) r1 er1 (rpa_up g1.le _ _ h2) N (q.mono (fun ε2 S2 q => enG.up q g1) fun _ _ _ z => z)) fun _ _ _ z => z
theorem rg_tup {n : Nat} {u : TGs} {gs : List PV → Env → Sta → Out Env} (k : RTgs M W0 X u gs) : RTg M W0 X (gTup M.K n u) (TupG n gs) := fun W H S σ ε v p le r er rp N q => by
  unfold TupG at q
  split at q
  · rename_i ps
    obtain ⟨z, q⟩ := ite_post q
    cases rp with
    | tup hs ha => exact ⟨_, _, rfl, seqT_up r.i hs, by rw [rpa_len ha]; exact z, k W H S σ ε _ _ le r er ha N q⟩
  · exact q.elim
/-- x[i] = v on a list that may change -/
def quiet {α : Type} (o : Out α) : Out α := match o with
  | .ok a S => .ok a S
  | _ => .stuck
theorem quiet_post {α : Type} {o : Out α} {A : α → Sta → Prop} {E : String → List PV → Sta → Prop} (h : OPost (quiet o) A E) : ∃ a S, o = .ok a S ∧ A a S := by
  cases o with
  | ok a S => exact ⟨a, S, rfl, h⟩
  | ex => exact h.elim
  | stuck => exact h.elim
def putL (S : Sta) (o i : PV) (p : PV) : Option Sta := match o, i with
  | .mu n, .int k => match S[n]? with
    | some (.lst xs) => match ixN xs.length k with
      | some j => some (S.set n (.lst (xs.set j p)))
      | none => none
    | _ => none
  | _, _ => none
def SubG (mo mi : Env → Sta → Out PV) : MG := fun p ε S => (quiet (mo ε S)).bind fun o S1 => (quiet (mi ε S1)).bind fun i S2 => match putL S2 o i p with
  | some S3 => .ok ε S3
  | none => .stuck
theorem rg_sub (ha : RE M W0 X ta ma) (hb : RE M W0 X tb mb) : RTg M W0 X (gSub ta tb rSetL) (SubG ma mb) := fun W H S σ ε v p le r er rp N q => by
  unfold SubG at q
  rw [opost_bind] at q
  obtain ⟨o, S1, e1, q1⟩ := quiet_post q
  clear q
  refine ha W H S σ ε le r er _ ?_
  rw [e1]
  intro w W1 H1 g1 r1 p1
  rw [opost_bind] at q1
  obtain ⟨i, S2, e2, q⟩ := quiet_post q1
  clear q1
  refine hb W1 H1 S1 σ ε (le.trans g1.le) r1 (er.up g1.le) _ ?_
  rw [e2]
  intro w2 W2 H2 g2 r2 p2
  unfold putL at q
  cases o <;> first | (exact q.elim) | skip
  cases i <;> first | (exact q.elim) | skip
  rename_i n k
  have p1' := rp_up g2.le _ _ p1
  cases p2
  cases p1' with
  | @mu _ a hm =>
    dsimp only at q
    cases e3 : S2[n]? with
    | none => rw [e3] at q; exact q.elim
    | some c =>
      rw [e3] at q
      cases c with
      | lst xs =>
        dsimp only at q
        obtain ⟨nb, vs, h1, h2⟩ := r2.c n a _ hm e3
        cases e4 : ixN xs.length k with
        | none => rw [e4] at q; exact q.elim
        | some j =>
          rw [e4] at q
          refine ⟨a, vs, k, j, rfl, rfl, h1, by rw [rpa_len h2]; exact e4, ?_⟩
          obtain ⟨r3, g3⟩ := r2.put (o := .lst (vs.set j v)) (c := .lst (xs.set j p)) hm nb ⟨nb, _, upd_same, rpa_set (rp_up (g1.trans g2).le _ _ rp) j h2⟩
          exact q σ W2 _ ((g1.trans g2).trans g3) r3 (er.up ((g1.trans g2).trans g3).le)
      | obj => exact q.elim
      | dead => exact q.elim
def AsgS (me : Env → Sta → Out PV) (g : MG) : Env → Sta → Flow := fun ε S => (me ε S).flow ε fun p S1 => match g p ε S1 with
  | .ok ε' S2 => .nx ε' S2
  | _ => .stuck
theorem rs_asg {tg : TG} {g : MG} (h : RE M W0 X te me) (hg : RTg M W0 X tg g) : RS M W0 X (tAsg te tg) (AsgS me g) := fun W H S σ ε le r er D q =>
  h.thnS (.refl W H) le r er q fun v p S1 W1 H1 g1 r1 p1 q1 => by
    refine hg W1 H1 S1 σ ε v p (le.trans g1.le) r1 (er.up g1.le) p1 _ ?_
    split at q1
    · rename_i ε' S2 e
      rw [e]
      exact enG.up q1 g1
    · exact q1.elim
def SetS (i : Nat) (me : Env → Sta → Out PV) : Env → Sta → Flow := fun ε S => (me ε S).flow ε fun p S1 => .nx (ε.set i (some p)) S1
theorem rs_set {i : Nat} (h : RE M W0 X te me) : RS M W0 X (tAsg te (gName i)) (SetS i me) := fun W H S σ ε le r er D q =>
  h.thnS (.refl W H) le r er q fun v p S1 W1 H1 g1 r1 p1 q1 => q1 _ W1 H1 g1 r1 ((er.up g1.le).set p1)
def IfS (mc : Env → Sta → Out Bool) (m m' : Env → Sta → Flow) : Env → Sta → Flow := fun ε S => (mc ε S).flow ε fun b S1 => if b = true then m ε S1 else m' ε S1
theorem rs_if (h : RT M W0 X tt mt) (h1 : RS M W0 X t m) (h2 : RS M W0 X u m') : RS M W0 X (tIfS tt t u) (IfS mt m m') := fun W H S σ ε le r er D q =>
  h.thnS (.refl W H) le r er q fun b b' S1 W1 H1 g1 r1 p1 q1 => by
    cases p1
    cases b with
    | true => exact iteT (h1.end g1 le r1 er q1)
    | false => exact iteF (h2.end g1 le r1 er q1)
def Flow.then (f : Flow) (k : Env → Sta → Flow) (_ : Tag k := Tag.mk) : Flow := match f with
  | .nx ε S => k ε S
  | f => f
def SeqS (m m' : Env → Sta → Flow) : Env → Sta → Flow := fun ε S => (m ε S).then m'
theorem rs_seq (h1 : RS M W0 X t m) (h2 : RS M W0 X u m') : RS M W0 X (tSeq t u) (SeqS m m') := fun W H S σ ε le r er D q => by
  refine h1 W H S σ ε le r er _ ?_
  unfold SeqS at q
  cases e : m ε S with
  | nx ε' S' => rw [e] at q; exact fun σ' W' H' g' r' er' => h2 W' H' S' σ' ε' (le.trans g'.le) r' er' D (FPost.up q g')
  | rt p S' => rw [e] at q; exact q
  | bk ε' S' => rw [e] at q; exact q
  | ct ε' S' => rw [e] at q; exact q
  | ex c xs ε' S' => rw [e] at q; exact q
  | stuck => rw [e] at q; exact q
def AugS (i : Nat) (me : Env → Sta → Out PV) (f : F2) : Env → Sta → Flow := fun ε S => match ε[i]? with
  | some (some x) => (me ε S).flow ε fun y S1 => match f S1 x y with
    | some z => .nx (ε.set i (some z)) S1
    | none => .stuck
  | _ => .stuck
theorem rs_aug {i : Nat} {ti : TIp} {f : F2} (h : RE M W0 X te me) (hf : K2 M ti f) : RS M W0 X (tAug i te ti) (AugS i me f) := fun W H S σ ε le r er D q => by
  unfold AugS at q
  split at q
  · rename_i x ex
    obtain ⟨v, h1, h2⟩ := er.get i x ex
    refine ⟨v, h1, h.thnS (.refl W H) le r er q fun w y S1 W1 H1 g1 r1 p1 q1 => ?_⟩
    split at q1
    · rename_i z ez
      exact hf W1 H1 S1 v w x y z r1 (rp_up g1.le _ _ h2) p1 ez _ fun b W2 H2 g2 r2 p2 => q1 _ W2 H2 (g1.trans g2) r2 ((er.up (g1.trans g2).le).set p2)
    · exact q1.elim
  · exact q.elim
theorem k_ipI {f : Int → Int → Int} : K2 M (ipI f) (fI0 fun i j => .int (f i j)) := fun W H S u v x y p r hx hy e Q q => by
  obtain ⟨i, j, rfl, rfl, _, rfl⟩ := fI_inv hx hy e
  exact ⟨i, j, rfl, rfl, okG_end r (.int _) q⟩
/-! ### errors -/
/-- raise C(..), C's fields being names -/
def RaiseS (c : String) (names : List Str) (ms : Env → Sta → Out (List PV)) : Env → Sta → Flow := fun ε S => (ms ε S).flow ε fun xs S1 => if xs.length = names.length then .ex c xs ε S1 else .stuck
def Raise0S (c : String) : Env → Sta → Flow := fun ε S => .ex c [] ε S
theorem fite_post {c : Prop} [Decidable c] {f : Flow} {D : Wsh} (h : FPost (if c then f else .stuck) D) : c ∧ FPost f D := by
  by_cases z : c
  · rw [if_pos z] at h; exact ⟨z, h⟩
  · rw [if_neg z] at h; exact h.elim
theorem rs_raise {c : String} {names : List Str} (h : RA M W0 X ts ms) (hn : M.fl c = names) (hz : names.length ≤ 1000) (h0 : names ≠ []) : RS M W0 X (fun _ σ H => tMkO (M.AD c) (spIni (M.AD c) names) [] ts σ H fun cls d H' => X cls d σ H') (RaiseS c names ms) := fun W H S σ ε le r er D q =>
  h.thnS (.refl W H) le r er q fun vs xs S1 W1 H1 g1 r1 p1 q1 => by
    obtain ⟨hl, q2⟩ := fite_post q1
    have lw := rpa_len p1
    refine ⟨by omega, fun a ha => ⟨a, vs, by rw [List.append_nil], by omega, upd_same, fun dx hdx hne => ?_⟩⟩
    have hd1 : H1 dx = none := by rw [upd_ne hne] at hdx; exact hdx
    refine ⟨rfl, dx, (names.zip vs).reverse, upd_same, by rw [upd_ne hne, upd_same], hd1, ?_⟩
    have hH : upd (del (upd (upd (upd H1 a (exo a (M.AD c) none)) dx (exd dx (names.zip vs).reverse)) a (exo a (M.AD c) (some dx))) a) dx (.xd (names.zip vs).reverse) = upd H1 dx (.xd (names.zip vs).reverse) := by
      funext b
      by_cases z : b = dx
      · subst z; rw [upd_same, upd_same]
      · rw [upd_ne z, upd_ne z]
        by_cases y : b = a
        · subst y; rw [ha]; simp [del]
        · have : del (upd (upd (upd H1 a (exo a (M.AD c) none)) dx (exd dx (names.zip vs).reverse)) a (exo a (M.AD c) (some dx))) a b = upd (upd (upd H1 a (exo a (M.AD c) none)) dx (exd dx (names.zip vs).reverse)) a (exo a (M.AD c) (some dx)) b := by simp [del, y]
          rw [this, upd_ne y, upd_ne z, upd_ne y]
    rw [hH]
    obtain ⟨r2, g2⟩ := r1.new (o := .xd (names.zip vs).reverse) hd1
    exact q2 (some dx) σ _ _ (g1.trans g2) r2 (er.up (g1.trans g2).le) ⟨by rw [hn]; exact h0, vs, by rw [hn]; exact upd_same, by rw [hn]; omega, rpa_up g2.le _ _ p1⟩
theorem rs_raise0 {c : String} (hn : M.fl c = []) : RS M W0 X (fun _ σ H => (fun (_ : L2.St) (H : Hp) (Q : XK) => Q (.ref (M.AD c)) none H) σ H fun cls d H' => X cls d σ H') (Raise0S c) := fun W H S σ ε le r er D q =>
  q none σ W H (.refl W H) r er ⟨rfl, hn⟩
/-- try .. except C as e: sub c tells whether the handler is for errors of the class c -/
def unslot (i : Nat) : Flow → Flow
  | .nx ε S => .nx (ε.set i none) S
  | .bk ε S => .bk (ε.set i none) S
  | .ct ε S => .ct (ε.set i none) S
  | f => f
def TryAsS (i : Nat) (sub : String → Option Bool) (mb : Env → Sta → Flow) (ms : String → List PV → Nat → Env → Sta → Flow) : Env → Sta → Flow := fun ε S => match mb ε S with
  | .ex c xs ε' S' => match sub c with
    | some true => unslot i (ms c xs S'.length (ε'.set i (some (.xv S'.length))) (S' ++ [.dead]))
    | some false => .ex c xs ε' S'
    | none => .stuck
  | f => f
theorem rs_tryas {i : Nat} {cl : Value} {sub : String → Option Bool} {tb : WX → TS} {ts : Addr → Value → Option Addr → TS} {mb : Env → Sta → Flow} {ms : String → List PV → Nat → Env → Sta → Flow} (hb : ∀ Wx, RS M W0 Wx (tb Wx) mb) (hsub : ∀ c b, sub c = some b → PySem.W.exmOne M.K (.ref (M.AD c)) cl = some b)
    (hs : ∀ (a : Addr) (d : Option Addr) (c : String) (xs : List PV) (W1 : Wd) (n : Nat), Le W0 W1 → W1.ρ[n]? = some (.exc a) → Xd M W1 c xs d → RS M W1 X (ts a (.ref (M.AD c)) d) (ms c xs n)) :
    RS M W0 X (fun D σ H => tb (wAs M.K cl i ts X D) D σ H) (TryAsS i sub mb ms) := fun W H S σ ε le r er D q => by
  refine hb _ W H S σ ε le r er D ?_
  unfold TryAsS at q
  cases e : mb ε S with
  | nx ε' S' => rw [e] at q; exact q
  | rt p S' => rw [e] at q; exact q
  | bk ε' S' => rw [e] at q; exact q
  | ct ε' S' => rw [e] at q; exact q
  | stuck => rw [e] at q; exact q
  | ex c xs ε' S' =>
    rw [e] at q
    dsimp only at q
    intro d σ' W' H' g' r' er' xd
    cases e2 : sub c with
    | none => rw [e2] at q; exact q.elim
    | some b =>
      rw [e2] at q
      refine ⟨b, hsub c b e2, fun hb => ?_, fun hb => ?_⟩
      · subst hb
        intro a ha
        dsimp only at q
        obtain ⟨r2, g2⟩ := r'.caught a
        have hn : (W'.ρ ++ [Slot.exc a])[S'.length]? = some (.exc a) := by rw [← r'.len]; simp
        have er2 : Er M ⟨W'.B, W'.ρ ++ [.exc a]⟩ (σ'.set i (some (.ref a))) (ε'.set i (some (.xv S'.length))) := (er'.up g2.le).set (.xv hn)
        refine hs a d c xs ⟨W'.B, W'.ρ ++ [.exc a]⟩ S'.length (le.trans (g'.trans g2).le) hn (xd.up g2.le) _ _ _ _ _ (Le.refl _) r2 er2 _ ?_
        have gg := g'.trans g2
        cases e3 : ms c xs S'.length (ε'.set i (some (.xv S'.length))) (S' ++ [.dead]) with
        | nx ε3 S3 => rw [e3] at q; exact fun σ3 W3 H3 g3 r3 er3 => q _ W3 H3 (gg.trans g3) r3 er3.unset
        | bk ε3 S3 => rw [e3] at q; exact fun σ3 W3 H3 g3 r3 er3 => q _ W3 H3 (gg.trans g3) r3 er3.unset
        | ct ε3 S3 => rw [e3] at q; exact fun σ3 W3 H3 g3 r3 er3 => q _ W3 H3 (gg.trans g3) r3 er3.unset
        | rt p S3 => rw [e3] at q; exact okG.up q gg
        | ex c3 xs3 ε3 S3 => rw [e3] at q; exact exS.up q gg
        | stuck => rw [e3] at q; exact q
      · subst hb
        exact q d σ' W' H' g' r' er' xd
/-- try .. except C: -/
def TryS (sub : String → Option Bool) (mb : Env → Sta → Flow) (ms : String → List PV → Env → Sta → Flow) : Env → Sta → Flow := fun ε S => match mb ε S with
  | .ex c xs ε' S' => match sub c with
    | some true => ms c xs ε' S'
    | some false => .ex c xs ε' S'
    | none => .stuck
  | f => f
theorem rs_try {cl : Value} {sub : String → Option Bool} {tb : WX → TS} {ts : Addr → Value → Option Addr → TS} {mb : Env → Sta → Flow} {ms : String → List PV → Env → Sta → Flow} (hb : ∀ Wx, RS M W0 Wx (tb Wx) mb) (hsub : ∀ c b, sub c = some b → PySem.W.exmOne M.K (.ref (M.AD c)) cl = some b)
    (hs : ∀ (a : Addr) (d : Option Addr) (c : String) (xs : List PV), RS M W0 X (ts a (.ref (M.AD c)) d) (ms c xs)) :
    RS M W0 X (fun D σ H => tb (wOnly M.K cl ts X D) D σ H) (TryS sub mb ms) := fun W H S σ ε le r er D q => by
  refine hb _ W H S σ ε le r er D ?_
  unfold TryS at q
  cases e : mb ε S with
  | nx ε' S' => rw [e] at q; exact q
  | rt p S' => rw [e] at q; exact q
  | bk ε' S' => rw [e] at q; exact q
  | ct ε' S' => rw [e] at q; exact q
  | stuck => rw [e] at q; exact q
  | ex c xs ε' S' =>
    rw [e] at q
    dsimp only at q
    intro d σ' W' H' g' r' er' xd
    cases e2 : sub c with
    | none => rw [e2] at q; exact q.elim
    | some b =>
      rw [e2] at q
      refine ⟨b, hsub c b e2, fun hb => ?_, fun hb => ?_⟩
      · subst hb
        exact fun a ha => hs a d c xs W' H' S' σ' ε' (le.trans g'.le) r' er' D (FPost.up q g')
      · subst hb
        exact q d σ' W' H' g' r' er' xd
/-- a field of the error that was caught: the class it must be of, the number of the field -/
def XfE (c0 : String) (k : Nat) (c : String) (xs : List PV) (n i : Nat) : Env → Sta → Out PV := fun ε S => match ε[i]? with
  | some (some (.xv n')) => if n' = n ∧ c = c0 then (match xs[k]? with
    | some p => .ok p S
    | none => .stuck) else .stuck
  | _ => .stuck
theorem lookup_zip_rev {ns : List Str} {vs : List V} (hl : vs.length = ns.length) (hd : ns.Nodup) {k : Nat} {f : Str} {v : V} (h1 : ns[k]? = some f) (h2 : vs[k]? = some v) : (ns.zip vs).reverse.lookup f = some v := by
  have key : ∀ (l : List (Str × V)), (l.map Prod.fst).Nodup → (f, v) ∈ l → l.lookup f = some v := by
    intro l
    induction l with
    | nil => intro _ h; cases h
    | cons x l ih =>
      intro nd hm
      obtain ⟨y, w⟩ := x
      rw [List.map_cons, List.nodup_cons] at nd
      rcases List.mem_cons.mp hm with e | hm2
      · cases e; simp [List.lookup]
      · have ne : f ≠ y := by intro z; subst z; have hq := List.mem_map_of_mem (f := Prod.fst) hm2; exact nd.1 hq
        have nb : (f == y) = false := by simpa using ne
        rw [List.lookup_cons, nb]
        exact ih nd.2 hm2
  refine key _ ?_ ?_
  · rw [List.map_reverse, List.map_fst_zip (by omega)]
    exact List.pairwise_reverse.mpr (hd.imp Ne.symm)
  · rw [List.mem_reverse]
    refine List.mem_of_getElem? (i := k) ?_
    rw [List.getElem?_zip_eq_some]
    exact ⟨h1, h2⟩
theorem re_xf {a : Addr} {d : Option Addr} {c c0 : String} {xs : List PV} {W1 : Wd} {n i k : Nat} {f : Str} (hn : W1.ρ[n]? = some (.exc a)) (hx : Xd M W1 c xs d) (hf : (M.fl c0)[k]? = some f) (hd : (M.fl c0).Nodup) : RE M W1 X (tXf a (.ref (M.AD c)) d (M.AD c0) f (tVar i)) (XfE c0 k c xs n i) := fun W H S σ ε le r er Q q => by
  unfold XfE at q
  split at q
  · rename_i n' e
    obtain ⟨⟨rfl, rfl⟩, q2⟩ := ite_post q
    clear q
    obtain ⟨v, h1, h2⟩ := er.get i _ e
    cases h2 with
    | xv hv =>
      rw [pre_get le.ρ hn] at hv
      cases hv
      refine ⟨_, h1, rfl, rfl, ?_⟩
      cases d with
      | none =>
        obtain ⟨_, h0⟩ := hx
        rw [h0] at hf; cases hf
      | some dx =>
        obtain ⟨_, vs, b1, b2, b3⟩ := hx
        cases ep : xs[k]? with
        | none => rw [ep] at q2; exact q2.elim
        | some p =>
          rw [ep] at q2
          obtain ⟨w, c1, c2⟩ := rpa_get b3 ep
          exact ⟨dx, _, w, rfl, r.i _ _ (le.b _ _ b1), lookup_zip_rev b2 hd hf c1, okG_end r (rp_up le _ _ c2) q2⟩
  · exact q.elim
end
end Fx
namespace Fx
open PySem PySem.Spec PyProof.Rows L2 Co
/-! ### equal values -/
mutual
def beq : PV → PV → Bool
  | .non, .non => true
  | .bl a, .bl b => a == b
  | .int a, .int b => decide (a = b)
  | .str a, .str b => decide (a = b)
  | .tup xs, .tup ys => beqs xs ys
  | .lst xs, .lst ys => beqs xs ys
  | .kls xs, .kls ys => beqs xs ys
  | .obj c ns xs, .obj c' ns' xs' => decide (c = c') && decide (ns = ns') && beqs xs xs'
  | .mu n, .mu m => decide (n = m)
  | .xv n, .xv m => decide (n = m)
  | _, _ => false
def beqs : List PV → List PV → Bool
  | [], [] => true
  | p :: ps, q :: qs => beq p q && beqs ps qs
  | _, _ => false
end
mutual
theorem beq_eq : ∀ (p q : PV), beq p q = true → p = q
  | .non, q, h => by cases q <;> first | rfl | (simp [beq] at h; done)
  | .bl a, q, h => by cases q <;> first | (simp [beq] at h; done) | (simp [beq] at h; rw [h])
  | .int a, q, h => by cases q <;> first | (simp [beq] at h; done) | (simp [beq] at h; rw [h])
  | .str a, q, h => by cases q <;> first | (simp [beq] at h; done) | (simp [beq] at h; rw [h])
  | .tup xs, q, h => by cases q <;> first | (simp [beq] at h; done) | (simp only [beq] at h; rw [beqs_eq xs _ h])
  | .lst xs, q, h => by cases q <;> first | (simp [beq] at h; done) | (simp only [beq] at h; rw [beqs_eq xs _ h])
  | .kls xs, q, h => by cases q <;> first | (simp [beq] at h; done) | (simp only [beq] at h; rw [beqs_eq xs _ h])
  | .obj c ns xs, q, h => by
    cases q <;> first | (simp [beq] at h; done) | skip
    simp only [beq, Bool.and_eq_true, decide_eq_true_eq] at h
    rw [h.1.1, h.1.2, beqs_eq xs _ h.2]
  | .mu n, q, h => by cases q <;> first | (simp [beq] at h; done) | (simp [beq] at h; rw [h])
  | .xv n, q, h => by cases q <;> first | (simp [beq] at h; done) | (simp [beq] at h; rw [h])
theorem beqs_eq : ∀ (ps qs : List PV), beqs ps qs = true → ps = qs
  | [], qs, h => by cases qs <;> first | rfl | (simp [beqs] at h; done)
  | p :: ps, qs, h => by
    cases qs with
    | nil => simp [beqs] at h
    | cons q qs =>
      simp only [beqs, Bool.and_eq_true] at h
      rw [beq_eq p q h.1, beqs_eq ps qs h.2]
end
mutual
theorem beq_rfl : ∀ (p : PV), beq p p = true
  | .non => by simp [beq]
  | .bl a => by simp [beq]
  | .int a => by simp [beq]
  | .str a => by simp [beq]
  | .tup xs => by simp only [beq]; exact beqs_rfl xs
  | .lst xs => by simp only [beq]; exact beqs_rfl xs
  | .kls xs => by simp only [beq]; exact beqs_rfl xs
  | .obj c ns xs => by simp only [beq, beqs_rfl xs]; simp
  | .mu n => by simp [beq]
  | .xv n => by simp [beq]
theorem beqs_rfl : ∀ (ps : List PV), beqs ps ps = true
  | [] => by simp [beqs]
  | p :: ps => by simp only [beqs, beq_rfl p, beqs_rfl ps, Bool.and_self]
end
/-! ### what a loop walks over: the items, and the lists that must stay as they are meanwhile -/
structure IT where
  xs : List PV
  pins : List (Nat × List PV)
def Pinned (S : Sta) (pins : List (Nat × List PV)) : Prop := ∀ q, q ∈ pins → S[q.1]? = some (.lst q.2)
def pinsOk (S : Sta) (pins : List (Nat × List PV)) : Bool := pins.all fun q => match S[q.1]? with
  | some (.lst xs) => beqs xs q.2
  | _ => false
theorem pinned_of {S : Sta} {pins : List (Nat × List PV)} (h : pinsOk S pins = true) : Pinned S pins := fun q hq => by
  have := List.all_eq_true.mp h q hq
  split at this
  · rename_i xs e
    rw [e, beqs_eq _ _ this]
  · cases this
theorem pinsOk_nil {S : Sta} : pinsOk S [] = true := rfl
section
variable {M : Md} {W W' Wa W0 W1 : Wd} {H H' Ha H1 : Hp} {S S' : Sta} {σ : L2.St} {ε : Env} {X : WX}
variable {ta tb tc te : TE} {ma mb mc me : Env → Sta → Out PV} {tt uu : TT} {mt mu : Env → Sta → Out Bool} {ts tr : TA} {ms mr : Env → Sta → Out (List PV)}
def Walk (M : Md) (W : Wd) (J : L2.It) (it : IT) : Prop := ∀ (W' : Wd) (H' : Hp) (S' : Sta) (i : Nat), Le W W' → Rel M W' H' S' → Pinned S' it.pins →
  (∀ p, it.xs[i]? = some p → J.go i H' ∧ ∀ x H'', J.yld i H' x H'' → ∃ W'', Go W' H' W'' H'' ∧ Rel M W'' H'' S' ∧ Rp M W'' x p) ∧ (i = it.xs.length → J.stop i H')
theorem Walk.up {J : L2.It} {it : IT} (h : Walk M W J it) (e : Le W W') : Walk M W' J it := fun W2 H2 S2 i l r p => h W2 H2 S2 i (e.trans l) r p
abbrev RI (M : Md) (W0 : Wd) (X : WX) (wi : TI) (mi : Env → Sta → Out IT) : Prop := RG (fun M W J it => Walk M W J it) M W0 X wi mi
def Holds (M : Md) (k : Bool) (a : Addr) (it : IT) (W : Wd) : Prop := ∀ (W' : Wd) (H' : Hp) (S' : Sta), Le W W' → Rel M W' H' S' → Pinned S' it.pins → ∃ vs, SqB M.K k H' a vs ∧ RpA M W' vs it.xs
theorem Holds.up {k : Bool} {a : Addr} {it : IT} (h : Holds M k a it W) (e : Le W W') : Holds M k a it W' := fun W2 H2 S2 l r p => h W2 H2 S2 (e.trans l) r p
def seqIt (S : Sta) : PV → Option (Bool × IT)
  | .lst xs => some (true, ⟨xs, []⟩)
  | .kls xs => some (true, ⟨xs, []⟩)
  | .tup xs => some (false, ⟨xs, []⟩)
  | .mu n => match S[n]? with
    | some (.lst xs) => some (true, ⟨xs, [(n, xs)]⟩)
    | _ => none
  | _ => none
theorem holds_of {v : V} {p : PV} {k : Bool} {it : IT} (r : Rel M W H S) (h : Rp M W v p) (e : seqIt S p = some (k, it)) : ∃ a, v = .ref a ∧ Holds M k a it W := by
  cases h with
  | lst hs ha => cases e; exact ⟨_, rfl, fun W2 H2 S2 l r2 _ => ⟨_, .inl (.inl (r2.i _ _ (l.b _ _ hs))), rpa_up l _ _ ha⟩⟩
  | kls hs ha => cases e; exact ⟨_, rfl, fun W2 H2 S2 l r2 _ => ⟨_, r2.i.seq (l.b.seq hs), rpa_up l _ _ ha⟩⟩
  | tup hs ha => cases e; exact ⟨_, rfl, fun W2 H2 S2 l r2 _ => ⟨_, seqT_up (l.b.trans r2.i) hs, rpa_up l _ _ ha⟩⟩
  | @mu n a hm =>
    simp only [seqIt] at e
    split at e
    · rename_i xs q
      cases e
      refine ⟨a, rfl, fun W2 H2 S2 l r2 pn => ?_⟩
      have h1 := pn (n, xs) (by simp)
      obtain ⟨_, vs, h2, h3⟩ := r2.c n a _ (pre_get l.ρ hm) h1
      exact ⟨vs, .inl (.inl h2), h3⟩
    · cases e
  | _ => cases e
theorem walk_seq {a : Addr} {it : IT} : ∀ {k : Bool}, Holds M k a it W → Walk M W (if k = true then Itl M.K a else Itt M.K a) it
  | true, h => fun W2 H2 S2 i l r pn => by
    obtain ⟨vs, h1, h2⟩ := h W2 H2 S2 l r pn
    refine ⟨fun p hp => ?_, fun hi => ⟨vs, h1, by rw [rpa_len h2, hi]; exact Nat.le_refl _⟩⟩
    obtain ⟨w, c1, c2⟩ := rpa_get h2 hp
    refine ⟨⟨vs, w, h1, c1⟩, ?_⟩
    rintro x H3 ⟨rfl, hx⟩
    have := hx vs h1
    rw [c1] at this
    cases this
    exact ⟨W2, .refl _ _, r, c2⟩
  | false, h => fun W2 H2 S2 i l r pn => by
    obtain ⟨vs, h1, h2⟩ := h W2 H2 S2 l r pn
    refine ⟨fun p hp => ?_, fun hi => ⟨vs, h1, by rw [rpa_len h2, hi]; exact Nat.le_refl _⟩⟩
    obtain ⟨w, c1, c2⟩ := rpa_get h2 hp
    refine ⟨⟨vs, w, h1, c1⟩, ?_⟩
    rintro x H3 ⟨rfl, hx⟩
    have := hx vs h1
    rw [c1] at this
    cases this
    exact ⟨W2, .refl _ _, r, c2⟩
theorem nopin (r : Rel M W H S) {v : V} {p : PV} {k : Bool} {it : IT} (e : seqIt S p = some (k, it)) : Pinned S it.pins := by
  cases p <;> first | (cases e; done) | (cases e; exact fun q h => by cases h) | skip
  simp only [seqIt] at e
  split at e
  · rename_i xs q
    cases e
    intro q2 h
    cases List.mem_singleton.mp h
    exact q
  · cases e
def SeqI (me : Env → Sta → Out PV) : Env → Sta → Out IT := fun ε S => (me ε S).bind fun p S1 => (lift (seqIt S1 p) S1).bind fun x S1 => .ok x.2 S1
theorem ri_seq (h : RE M W0 X te me) : RI M W0 X (iSeq M.K te) (SeqI me) := fun W H S σ ε le r0 er Q q =>
  h.thn (.refl W H) le r0 er q fun v p S1 W1 H1 g1 r1 p1 q1 => by
    rw [opost_bind] at q1
    obtain ⟨⟨k, it⟩, e, q2⟩ := opost_lift q1
    obtain ⟨a, rfl, hh⟩ := holds_of r1 p1 e
    obtain ⟨vs, h1, h2⟩ := hh W1 H1 S1 (Le.refl _) r1 (nopin (v := .non) r1 e)
    have wk := walk_seq hh
    cases k with
    | true => exact ⟨a, vs, rfl, .inl ⟨h1, q2 _ W1 H1 g1 r1 wk⟩⟩
    | false => exact ⟨a, vs, rfl, .inr ⟨h1, q2 _ W1 H1 g1 r1 wk⟩⟩
/-- range -/
def intsP (lo : Int) (n : Nat) : List PV := (List.range n).map fun (i : Nat) => .int (lo + (i : Int))
theorem walk_rng {lo : Int} {n : Nat} : Walk M W (Itr lo n) ⟨intsP lo n, []⟩ := fun W2 H2 S2 i l r pn => by
  refine ⟨fun p hp => ?_, fun hi => ?_⟩
  · simp only [intsP, List.getElem?_map] at hp
    obtain ⟨j, h1, rfl⟩ := Option.map_eq_some_iff.mp hp
    obtain ⟨hl, h2⟩ := List.getElem?_eq_some_iff.mp h1
    simp at hl h2
    subst h2
    refine ⟨hl, ?_⟩
    rintro x H3 ⟨rfl, rfl⟩
    exact ⟨W2, .refl _ _, r, .int _⟩
  · simp [intsP] at hi
    show n ≤ i
    omega
def Rng1I (ms : Env → Sta → Out (List PV)) : Env → Sta → Out IT := fun ε S => (ms ε S).bind fun xs S1 => match xs with
  | [.int n] => if -4611686018427387904 ≤ n ∧ n < 4611686018427387904 then .ok ⟨intsP 0 n.toNat, []⟩ S1 else .stuck
  | _ => .stuck
theorem ri_rng1 (h : RA M W0 X ts ms) : RI M W0 X (iRng1 ts) (Rng1I ms) := fun W H S σ ε le r0 er Q q =>
  h.thn (.refl W H) le r0 er q fun vs xs S1 W1 H1 g1 r1 p1 q1 => by
    split at q1
    · rename_i n
      obtain ⟨z, q2⟩ := ite_post q1
      obtain ⟨v, rfl, hv⟩ := rpa1 p1
      cases hv
      have e : (2 : Int) ^ 62 = 4611686018427387904 := by decide
      exact ⟨n, rfl, by rw [e]; exact z.1, by rw [e]; exact z.2, q2 _ W1 H1 g1 r1 walk_rng⟩
    · exact q1.elim
theorem rpa2 {vs : List V} {a b : PV} (h : RpA M W vs [a, b]) : ∃ x y, vs = [x, y] ∧ Rp M W x a ∧ Rp M W y b := by
  cases h with | cons h1 h => cases h with | cons h2 h => cases h; exact ⟨_, _, rfl, h1, h2⟩
def Rng2I (ms : Env → Sta → Out (List PV)) : Env → Sta → Out IT := fun ε S => (ms ε S).bind fun xs S1 => match xs with
  | [.int i, .int j] => if -4611686018427387904 ≤ i ∧ i < 4611686018427387904 ∧ -4611686018427387904 ≤ j ∧ j < 4611686018427387904 then .ok ⟨intsP i (j - i).toNat, []⟩ S1 else .stuck
  | _ => .stuck
theorem ri_rng2 (h : RA M W0 X ts ms) : RI M W0 X (iRng2 ts) (Rng2I ms) := fun W H S σ ε le r0 er Q q =>
  h.thn (.refl W H) le r0 er q fun vs xs S1 W1 H1 g1 r1 p1 q1 => by
    split at q1
    · rename_i n m
      obtain ⟨z, q2⟩ := ite_post q1
      obtain ⟨v, w, rfl, hv, hw⟩ := rpa2 p1
      cases hv
      cases hw
      have e : (2 : Int) ^ 62 = 4611686018427387904 := by decide
      exact ⟨n, m, rfl, by rw [e]; exact z, q2 _ W1 H1 g1 r1 walk_rng⟩
    · exact q1.elim
/-- a text -/
def StrI (me : Env → Sta → Out PV) : Env → Sta → Out IT := fun ε S => (me ε S).bind fun p S1 => match p with
  | .str z => .ok ⟨z.cps.toList.map fun c => .str ⟨#[c]⟩, []⟩ S1
  | _ => .stuck
theorem ri_str (h : RE M W0 X te me) : RI M W0 X (iStr te) (StrI me) := fun W H S σ ε le r0 er Q q =>
  h.thn (.refl W H) le r0 er q fun v p S1 W1 H1 g1 r1 p1 q1 => by
    split at q1
    · rename_i z
      cases p1
      refine ⟨z, rfl, q1 _ W1 H1 g1 r1 fun W2 H2 S2 i l r pn => ⟨fun p hp => ?_, fun hi => ?_⟩⟩
      · simp only [List.getElem?_map] at hp
        obtain ⟨c, h1, rfl⟩ := Option.map_eq_some_iff.mp hp
        have h2 : z.cps[i]? = some c := by simpa using h1
        have hl : i < z.cps.size := (Array.getElem?_eq_some_iff.mp h2).1
        refine ⟨hl, ?_⟩
        rintro x H3 ⟨rfl, c', hc, rfl⟩
        rw [h2] at hc
        cases hc
        exact ⟨W2, .refl _ _, r, .str _⟩
      · simp at hi
        show z.cps.size ≤ i
        omega
    · exact q1.elim
/-- zip -/
def zipIt (a b : IT) : IT := ⟨(a.xs.zip b.xs).map fun q => .tup [q.1, q.2], a.pins ++ b.pins⟩
theorem walk_zip {k m : Bool} {a b : Addr} {i1 i2 : IT} (h1 : Holds M k a i1 W) (h2 : Holds M m b i2 W) : Walk M W (ItzG M.K k m a b) (zipIt i1 i2) := fun W2 H2 S2 i l r pn => by
  obtain ⟨us, a1, a2⟩ := h1 W2 H2 S2 l r fun q hq => pn q (List.mem_append_left _ hq)
  obtain ⟨ws, b1, b2⟩ := h2 W2 H2 S2 l r fun q hq => pn q (List.mem_append_right _ hq)
  have la := rpa_len a2
  have lb := rpa_len b2
  refine ⟨fun p hp => ?_, fun hi => ?_⟩
  · simp only [zipIt, List.getElem?_map] at hp
    obtain ⟨⟨x, y⟩, e1, rfl⟩ := Option.map_eq_some_iff.mp hp
    rw [List.getElem?_zip_eq_some] at e1
    obtain ⟨u, c1, c2⟩ := rpa_get a2 e1.1
    obtain ⟨w, d1, d2⟩ := rpa_get b2 e1.2
    refine ⟨⟨us, ws, u, w, a1, b1, c1, d1⟩, ?_⟩
    rintro v H3 ⟨T, x', y', rfl, hT, rfl, f1, f2⟩
    have z1 := f1 us a1
    have z2 := f2 ws b1
    rw [c1] at z1
    rw [d1] at z2
    cases z1
    cases z2
    obtain ⟨r3, g3⟩ := r.new (o := .tup [u, w]) hT
    exact ⟨_, g3, r3, .tup (.inl (.inl upd_same)) (.cons (rp_up g3.le _ _ c2) (.cons (rp_up g3.le _ _ d2) .nil))⟩
  · simp [zipIt] at hi
    exact ⟨us, ws, a1, b1, by omega, by omega, by omega⟩
def ZipI (ms : Env → Sta → Out (List PV)) : Env → Sta → Out IT := fun ε S => (ms ε S).bind fun xs S1 => match xs with
  | [x, y] => match seqIt S1 x, seqIt S1 y with
    | some (_, i1), some (_, i2) => .ok (zipIt i1 i2) S1
    | _, _ => .stuck
  | _ => .stuck
theorem ri_zip (h : RA M W0 X ts ms) : RI M W0 X (iZipG M.K ts) (ZipI ms) := fun W H S σ ε le r0 er Q q =>
  h.thn (.refl W H) le r0 er q fun vs xs S1 W1 H1 g1 r1 p1 q1 => by
    split at q1
    · rename_i x y
      obtain ⟨v, w, rfl, hv, hw⟩ := rpa2 p1
      split at q1
      · rename_i k i1 m i2 e1 e2
        obtain ⟨a, rfl, ha⟩ := holds_of r1 hv e1
        obtain ⟨b, rfl, hb⟩ := holds_of r1 hw e2
        obtain ⟨us, a1, a2⟩ := ha W1 H1 S1 (Le.refl _) r1 (nopin (v := .non) r1 e1)
        obtain ⟨ws, b1, b2⟩ := hb W1 H1 S1 (Le.refl _) r1 (nopin (v := .non) r1 e2)
        exact ⟨a, b, us, ws, k, m, rfl, a1, b1, q1 _ W1 H1 g1 r1 (walk_zip ha hb)⟩
      · exact q1.elim
    · exact q1.elim
/-- reversed -/
def RevI (me : Env → Sta → Out PV) : Env → Sta → Out IT := fun ε S => (me ε S).bind fun p S1 => (lift (seqIt S1 p) S1).bind fun x S1 => .ok ⟨x.2.xs.reverse, x.2.pins⟩ S1
theorem ri_rev (h : RE M W0 X te me) : RI M W0 X (RT.iRevA M.K te) (RevI me) := fun W H S σ ε le r0 er Q q =>
  h.thn (.refl W H) le r0 er q fun v p S1 W1 H1 g1 r1 p1 q1 => by
    rw [opost_bind] at q1
    obtain ⟨⟨k, it⟩, e, q2⟩ := opost_lift q1
    obtain ⟨a, rfl, hh⟩ := holds_of r1 p1 e
    obtain ⟨vs, h1, h2⟩ := hh W1 H1 S1 (Le.refl _) r1 (nopin (v := .non) r1 e)
    have lv := rpa_len h2
    have get : ∀ {n i : Nat} {p : PV} {us : List V} {W2 : Wd}, n = it.xs.length → RpA M W2 us it.xs → it.xs.reverse[i]? = some p → i < n ∧ ∃ w, us[n - 1 - i]? = some w ∧ Rp M W2 w p := fun {n i p us W2} hn ha hp => by
      have hi := (List.getElem?_eq_some_iff.mp hp).1
      rw [List.length_reverse] at hi
      rw [List.getElem?_reverse hi] at hp
      subst hn
      exact ⟨hi, rpa_get ha hp⟩
    cases k with
    | true =>
      refine ⟨a, vs, rfl, .inl ⟨h1, q2 _ W1 H1 g1 r1 fun W2 H2 S2 i l r pn => ?_⟩⟩
      obtain ⟨us, a1, a2⟩ := hh W2 H2 S2 l r pn
      refine ⟨fun p hp => ?_, fun hi => by show vs.length ≤ i; rw [hi, List.length_reverse, lv]; exact Nat.le_refl _⟩
      obtain ⟨hi, w, c1, c2⟩ := get lv a2 hp
      refine ⟨⟨hi, us, w, a1, c1⟩, ?_⟩
      rintro x H3 ⟨rfl, hx⟩
      have := hx us a1
      rw [c1] at this
      cases this
      exact ⟨W2, .refl _ _, r, c2⟩
    | false =>
      refine ⟨a, vs, rfl, .inr ⟨h1, q2 _ W1 H1 g1 r1 fun W2 H2 S2 i l r pn => ?_⟩⟩
      obtain ⟨us, a1, a2⟩ := hh W2 H2 S2 l r pn
      refine ⟨fun p hp => ?_, fun hi => by show vs.length ≤ i; rw [hi, List.length_reverse, lv]; exact Nat.le_refl _⟩
      obtain ⟨hi, w, c1, c2⟩ := get lv a2 hp
      refine ⟨⟨hi, us, w, a1, c1⟩, ?_⟩
      rintro x H3 ⟨rfl, hx⟩
      have := hx us a1
      rw [c1] at this
      cases this
      exact ⟨W2, .refl _ _, r, c2⟩
/-! ### for -/
def loop (g : MG) (mb : Env → Sta → Flow) (pins : List (Nat × List PV)) : List PV → Env → Sta → Flow
  | [], ε, S => if pinsOk S pins = true then .nx ε S else .stuck
  | x :: xs, ε, S => if pinsOk S pins = true then (match g x ε S with
      | .ok ε1 S1 => (match mb ε1 S1 with
        | .nx ε2 S2 => loop g mb pins xs ε2 S2
        | .ct ε2 S2 => loop g mb pins xs ε2 S2
        | .bk ε2 S2 => .nx ε2 S2
        | f => f)
      | _ => .stuck) else .stuck
def ForS (mi : Env → Sta → Out IT) (g : MG) (mb : Env → Sta → Flow) : Env → Sta → Flow := fun ε S => (mi ε S).flow ε fun it S1 => loop g mb it.pins it.xs ε S1
theorem rs_for {wi : TI} {mi : Env → Sta → Out IT} {tg : TG} {g : MG} {tb : TS} {mb : Env → Sta → Flow} (hi : RI M W0 X wi mi) (hg : RTg M W0 X tg g) (hb : RS M W0 X tb mb) : RS M W0 X (tFor wi tg tb) (ForS mi g mb) := fun W H S σ ε le r er D q =>
  hi.thnS (.refl W H) le r er q fun J it S1 W1 H1 g1 r1 wk q1 => by
    refine ⟨fun i m σ' H' => m = it.xs.length - i ∧ i ≤ it.xs.length ∧ ∃ W' S' ε', Go W H W' H' ∧ Le W1 W' ∧ Rel M W' H' S' ∧ Er M W' σ' ε' ∧ FPost (loop g mb it.pins (it.xs.drop i) ε' S') (wsh M W H D X), ⟨_, rfl, Nat.zero_le _, W1, S1, ε, g1, Le.refl _, r1, er.up g1.le, q1⟩, ?_⟩
    rintro i m σ' H' ⟨rfl, hil, W', S', ε', g', le', r', er', q'⟩
    by_cases hlt : i < it.xs.length
    · have hx : it.xs[i]? = some it.xs[i] := List.getElem?_eq_getElem hlt
      rw [List.drop_eq_getElem_cons hlt] at q'
      simp only [loop] at q'
      obtain ⟨pk, q2⟩ := fite_post q'
      obtain ⟨wgo, _⟩ := wk W' H' S' i le' r' (pinned_of pk)
      obtain ⟨hgo, hyl⟩ := wgo _ hx
      refine .inr ⟨hgo, fun σ2 H2 => i + 1 ≤ it.xs.length ∧ ∃ W' S' ε', Go W H W' H2 ∧ Le W1 W' ∧ Rel M W' H2 S' ∧ Er M W' σ2 ε' ∧ FPost (loop g mb it.pins (it.xs.drop (i + 1)) ε' S') (wsh M W H D X), fun σ2 H2 p => ⟨it.xs.length - (i + 1), by omega, rfl, p⟩, fun v H2 hy => ?_⟩
      obtain ⟨W2, g2, r2, p2⟩ := hyl v H2 hy
      have g02 := g'.trans g2
      refine hg W2 H2 S' σ' ε' v _ (le.trans g02.le) r2 (er'.up g2.le) p2 _ ?_
      cases e : g it.xs[i] ε' S' with
      | ok ε1 S3 =>
        rw [e] at q2
        intro σ3 W3 H3 g3 r3 er3
        have g03 := g02.trans g3
        refine hb W3 H3 S3 σ3 ε1 (le.trans g03.le) r3 er3 _ ?_
        dsimp only at q2
        have lew : ∀ {W4 : Wd} {H4 : Hp}, Go W3 H3 W4 H4 → Le W1 W4 := fun g4 => le'.trans ((g2.trans g3).trans g4).le
        cases e2 : mb ε1 S3 with
        | nx ε2 S4 => rw [e2] at q2; exact fun σ4 W4 H4 g4 r4 er4 => ⟨hlt, W4, S4, ε2, g03.trans g4, lew g4, r4, er4, q2⟩
        | ct ε2 S4 => rw [e2] at q2; exact fun σ4 W4 H4 g4 r4 er4 => ⟨hlt, W4, S4, ε2, g03.trans g4, lew g4, r4, er4, q2⟩
        | bk ε2 S4 => rw [e2] at q2; exact enG.up q2 g03
        | rt p S4 => rw [e2] at q2; exact okG.up q2 g03
        | ex c xs ε2 S4 => rw [e2] at q2; exact exS.up q2 g03
        | stuck => rw [e2] at q2; exact q2
      | ex c xs S3 => rw [e] at q2; exact q2.elim
      | stuck => rw [e] at q2; exact q2.elim
    · have hie : i = it.xs.length := by omega
      rw [hie, List.drop_length] at q'
      simp only [loop] at q'
      obtain ⟨pk, q2⟩ := fite_post q'
      obtain ⟨_, wst⟩ := wk W' H' S' i le' r' (pinned_of pk)
      exact .inl ⟨wst hie, q2 σ' W' H' g' r' er'⟩
/-! ### while -/
def iterW (mc : Env → Sta → Out Bool) (mb : Env → Sta → Flow) : Nat → Env → Sta → Flow
  | 0, _, _ => .stuck
  | n + 1, ε, S => (mc ε S).flow ε fun b S1 => if b = true then (match mb ε S1 with
      | .nx ε2 S2 => iterW mc mb n ε2 S2
      | .ct ε2 S2 => iterW mc mb n ε2 S2
      | .bk ε2 S2 => .nx ε2 S2
      | f => f) else .nx ε S1
theorem rs_while {tb : TS} {mb : Env → Sta → Flow} (n : Nat) (hc : RT M W0 X tt mt) (hb : RS M W0 X tb mb) : RS M W0 X (tWhile tt tb) (iterW mt mb n) := fun W H S σ ε le r er D q => by
  refine ⟨fun m σ' H' => ∃ W' S' ε', Le W W' ∧ Rel M W' H' S' ∧ Er M W' σ' ε' ∧ FPost (iterW mt mb m ε' S') (wsh M W' H' D X), ⟨n, W, S, ε, .refl W, r, er, q⟩, ?_⟩
  rintro m σ' H' ⟨W', S', ε', l', r', er', q'⟩
  cases m with
  | zero => exact q'.elim
  | succ m =>
    simp only [iterW] at q'
    refine hc.thnS (Wa := W') (Ha := H') (.refl W' H') (le.trans l') r' er' q' fun b b' S1 W1 H1 g1 r1 p1 q1 => ?_
    cases p1
    cases b with
    | true =>
      refine iteT ⟨fun σ2 H2 => ∃ W' S' ε', Le W W' ∧ Rel M W' H2 S' ∧ Er M W' σ2 ε' ∧ FPost (iterW mt mb m ε' S') (wsh M W' H2 D X), fun σ2 H2 p => ⟨m, Nat.lt_succ_self m, p⟩, ?_⟩
      refine hb W1 H1 S1 σ' ε' (le.trans (l'.trans g1.le)) r1 (er'.up g1.le) _ ?_
      rw [if_pos rfl] at q1
      have q2 := q1
      cases e2 : mb ε' S1 with
      | nx ε2 S4 => rw [e2] at q2; exact fun σ4 W4 H4 g4 r4 er4 => ⟨W4, S4, ε2, l'.trans (g1.trans g4).le, r4, er4, FPost.up q2 (g1.trans g4)⟩
      | ct ε2 S4 => rw [e2] at q2; exact fun σ4 W4 H4 g4 r4 er4 => ⟨W4, S4, ε2, l'.trans (g1.trans g4).le, r4, er4, FPost.up q2 (g1.trans g4)⟩
      | bk ε2 S4 => rw [e2] at q2; exact enG.up q2 g1
      | rt p S4 => rw [e2] at q2; exact okG.up q2 g1
      | ex c xs ε2 S4 => rw [e2] at q2; exact exS.up q2 g1
      | stuck => rw [e2] at q2; exact q2
    | false => exact iteF (q1 σ' W1 H1 g1 r1 (er'.up g1.le))
theorem iterW_mono {mb : Env → Sta → Flow} : ∀ (n k : Nat) (ε : Env) (S : Sta), iterW mt mb n ε S ≠ .stuck → iterW mt mb (n + k) ε S = iterW mt mb n ε S
  | 0, _, _, _, h => absurd rfl h
  | n + 1, k, ε, S, h => by
    rw [Nat.add_right_comm]
    simp only [iterW] at h ⊢
    cases e : mt ε S with
    | ok b S1 =>
      rw [e] at h
      simp only [Out.flow] at h ⊢
      cases b with
      | true =>
        simp only [if_true] at h ⊢
        cases e2 : mb ε S1 with
        | nx ε2 S2 => rw [e2] at h; exact iterW_mono n k ε2 S2 h
        | ct ε2 S2 => rw [e2] at h; exact iterW_mono n k ε2 S2 h
        | bk ε2 S2 => rfl
        | rt p S2 => rfl
        | ex c xs ε2 S2 => rfl
        | stuck => rfl
      | false => rfl
    | ex c xs S1 => rfl
    | stuck => rfl
/-! ### comprehensions -/
def wipeP (ε : Env) : List Nat → Env
  | [] => ε
  | i :: vs => (wipeP ε vs).set i none
theorem Er.wipe (h : Er M W σ ε) : ∀ vs : List Nat, Er M W (wipe σ vs) (wipeP ε vs)
  | [] => h
  | i :: vs => (Er.wipe h vs).unset
theorem wipe_get (σ : L2.St) (j : Nat) : ∀ vs : List Nat, (wipe σ vs)[j]? = if j ∈ vs then (σ[j]?).map (fun _ => none) else σ[j]?
  | [] => rfl
  | i :: vs => by
    show ((wipe σ vs).set i none)[j]? = _
    by_cases z : i = j
    · subst z
      have hl : (wipe σ vs).length = σ.length := by
        clear i
        induction vs with
        | nil => rfl
        | cons k vs ih => show ((wipe σ vs).set k none).length = _; rw [List.length_set, ih]
      rw [List.getElem?_set, if_pos rfl, hl]
      have hm : i ∈ i :: vs := by simp
      rw [if_pos hm]
      by_cases q : i < σ.length
      · rw [if_pos q, List.getElem?_eq_getElem q]; rfl
      · rw [if_neg q, List.getElem?_eq_none (by omega)]; rfl
    · rw [List.getElem?_set_ne z, wipe_get σ j vs]
      by_cases q : j ∈ vs
      · rw [if_pos q, if_pos (List.mem_cons_of_mem _ q)]
      · rw [if_neg q, if_neg (fun hq => by rcases List.mem_cons.mp hq with e | e; exact z e.symm; exact q e)]
theorem wipe_set {σ' : L2.St} {vs : List Nat} {j : Nat} {x : Option V} (hj : j ∈ vs) (h : wipe σ' vs = wipe σ vs) : wipe (σ'.set j x) vs = wipe σ vs := by
  rw [← h]
  apply List.ext_getElem?
  intro i
  rw [wipe_get, wipe_get]
  by_cases z : i ∈ vs
  · rw [if_pos z, if_pos z]
    by_cases e : j = i
    · subst e
      rw [List.getElem?_set, if_pos rfl]
      by_cases q : j < σ'.length
      · rw [if_pos q, List.getElem?_eq_getElem q]; rfl
      · rw [if_neg q, List.getElem?_eq_none (by omega)]
    · rw [List.getElem?_set_ne e]
  · have e : j ≠ i := fun e => z (e ▸ hj)
    rw [if_neg z, if_neg z, List.getElem?_set_ne e]
theorem wipe_wipe {vs : List Nat} : wipe (wipe σ vs) vs = wipe σ vs := by
  apply List.ext_getElem?
  intro i
  rw [wipe_get, wipe_get]
  by_cases z : i ∈ vs
  · rw [if_pos z, if_pos z]; cases σ[i]? <;> rfl
  · rw [if_neg z, if_neg z]
def RTn (M : Md) (W0 : Wd) (vs : List Nat) (t : TG) (g : MG) : Prop := ∀ (W : Wd) (H : Hp) (S : Sta) (σ0 σ : L2.St) (ε : Env) (v : V) (p : PV), Le W0 W → Rel M W H S → Er M W σ ε → Rp M W v p → wipe σ vs = wipe σ0 vs → ∀ N : L2.St → Hp → Prop, OPost (g p ε S) (enG M W H fun σ' H' => wipe σ' vs = wipe σ0 vs → N σ' H') noX → t v σ H N
def RTns (M : Md) (W0 : Wd) (ix : List Nat) (t : TGs) (g : List PV → Env → Sta → Out Env) : Prop := ∀ (W : Wd) (H : Hp) (S : Sta) (σ0 σ : L2.St) (ε : Env) (vs : List V) (ps : List PV), Le W0 W → Rel M W H S → Er M W σ ε → RpA M W vs ps → wipe σ ix = wipe σ0 ix → ∀ N : L2.St → Hp → Prop, OPost (g ps ε S) (enG M W H fun σ' H' => wipe σ' ix = wipe σ0 ix → N σ' H') noX → t vs σ H N
theorem rn_name {vs : List Nat} {i : Nat} (hi : i ∈ vs) : RTn M W0 vs (gName i) (NameG i) := fun W H S σ0 σ ε v p le r er rp hw N q => q _ W H (.refl W H) r (er.set rp) (wipe_set hi hw)
theorem rns_nil {ix : List Nat} : RTns M W0 ix gNil NilG := fun W H S σ0 σ ε vs ps le r er rp hw N q => by
  cases rp with
  | nil => exact ⟨rfl, q σ W H (.refl W H) r er hw⟩
  | cons => exact q.elim
theorem rns_cons {ix : List Nat} {t : TG} {u : TGs} {g : MG} {gs : List PV → Env → Sta → Out Env} (h : RTn M W0 ix t g) (k : RTns M W0 ix u gs) : RTns M W0 ix (gCons t u) (ConsG g gs) := fun W H S σ0 σ ε vs ps le r er rp hw N q => by
  cases rp with
  | nil => exact q.elim
  | cons h1 h2 =>
    refine ⟨_, _, rfl, h W H S σ0 σ ε _ _ le r er h1 hw _ ?_⟩
    unfold ConsG at q
    dsimp only at q
    rw [opost_bind] at q
    exact q.mono (fun ε1 S1 q σ1 W1 H1 g1 r1 er1 hw1 => k W1 H1 S1 σ0 σ1 ε1 _ _ (le.trans g1.le) r1 er1 (rpa_up g1.le _ _ h2) hw1 N (q.mono (fun ε2 S2 q => enG.up q g1) fun _ _ _ z => z)) fun _ _ _ z => z
theorem rn_tup {ix : List Nat} {n : Nat} {u : TGs} {gs : List PV → Env → Sta → Out Env} (k : RTns M W0 ix u gs) : RTn M W0 ix (gTup M.K n u) (TupG n gs) := fun W H S σ0 σ ε v p le r er rp hw N q => by
  unfold TupG at q
  split at q
  · rename_i ps
    obtain ⟨z, q⟩ := ite_post q
    cases rp with
    | tup hs ha => exact ⟨_, _, rfl, seqT_up r.i hs, by rw [rpa_len ha]; exact z, k W H S σ0 σ ε _ _ le r er ha hw N q⟩
  · exact q.elim
def YesT : Env → Sta → Out Bool := fun _ S => .ok true S
theorem rt_yes : RT M W0 X tYes YesT := fun W H S σ ε le r er Q q => q true W H (.refl W H) r rfl
def lcLoop (g : MG) (mc : Env → Sta → Out Bool) (me : Env → Sta → Out PV) (pins : List (Nat × List PV)) (ε : Env) : List PV → List PV → Sta → Out (List PV)
  | [], acc, S => if pinsOk S pins = true then .ok acc S else .stuck
  | x :: xs, acc, S => if pinsOk S pins = true then (quiet (g x ε S)).bind fun ε1 S1 => (mc ε1 S1).bind fun b S2 => if b = true then (me ε1 S2).bind fun y S3 => (if acc.length < 100000 then lcLoop g mc me pins ε xs (acc ++ [y]) S3 else .stuck) else lcLoop g mc me pins ε xs acc S2 else .stuck
def LcA (mi : Env → Sta → Out IT) (g : MG) (mc : Env → Sta → Out Bool) (me : Env → Sta → Out PV) (vs : List Nat) : Env → Sta → Out (List PV) := fun ε S => (mi ε S).bind fun it S1 => lcLoop g mc me it.pins (wipeP ε vs) it.xs [] S1
def LcE (mi : Env → Sta → Out IT) (g : MG) (mc : Env → Sta → Out Bool) (me : Env → Sta → Out PV) (vs : List Nat) : Env → Sta → Out PV := fun ε S => (LcA mi g mc me vs ε S).bind fun acc S2 => .ok (.lst acc) S2
def LcM (mi : Env → Sta → Out IT) (g : MG) (mc : Env → Sta → Out Bool) (me : Env → Sta → Out PV) (vs : List Nat) : Env → Sta → Out PV := fun ε S => (LcA mi g mc me vs ε S).bind fun acc S2 => newL acc S2
structure LcI (M : Md) (W : Wd) (H : Hp) (W1 : Wd) (D : Addr) (S' : Sta) (acc : List PV) (W' : Wd) (H' : Hp) : Prop where
  g : Go W H W' H'
  l : Le W1 W'
  r : Rel M W' H' S'
  nb : W'.B D = none
  nr : Slot.own D ∉ W'.ρ
  at' : ∃ vs, H' D = some (.lst vs) ∧ RpA M W' vs acc
theorem LcI.step {D : Addr} {acc : List PV} {W2 : Wd} {H2 : Hp} (i : LcI M W H W1 D S acc W' H') (g : Go W' H' W2 H2) (r : Rel M W2 H2 S') : LcI M W H W1 D S' acc W2 H2 := by
  obtain ⟨vs, h1, h2⟩ := i.at'
  obtain ⟨x1, x2, x3⟩ := g.p D i.nb i.nr (by rw [h1]; intro z; cases z)
  exact ⟨i.g.trans g, i.l.trans g.le, r, x1, x2, vs, x3.trans h1, rpa_up g.le _ _ h2⟩
theorem re_lcA {wi : TI} {mi : Env → Sta → Out IT} {tg : TG} {g : MG} {vs : List Nat} {Xi : WX} {Q : VK} (hi : RI M W0 X wi mi) (hg : RTn M W0 vs tg g) (hc : RT M W0 Xi tt mt) (he : RE M W0 Xi te me) (hX : ∀ cls d σ σ' H, X cls d σ H → Xi cls d σ' H) (le : Le W0 W) (r : Rel M W H S) (er : Er M W σ ε)
    (q : OPost (LcA mi g mt me vs ε S) (fun acc S2 => ∀ (D : Addr) (W1 W' : Wd) (H' : Hp), H D = none → LcI M W H W1 D S2 acc W' H' → Q (.ref D) H') (exE M W H (atσ X σ))) : tLc wi tg tt te vs σ H Q := by
  unfold LcA at q
  refine hi.thn (.refl W H) le r er q fun J it S1 W1 H1 g1 r1 wk q1 => ?_
  intro D hD
  have hHD : H D = none ∨ H D ≠ none := by cases H D <;> simp
  have nbD := r1.none_b hD
  have nrD := r1.none_ρ hD
  have hD0 : H D = none := by
    cases e : H D with
    | none => rfl
    | some o =>
      exfalso
      by_cases hb : W.B D = none
      · by_cases hr : Slot.own D ∈ W.ρ
        · exact nrD (g1.ρ.subset hr)
        · have := (g1.p D hb hr (by rw [e]; intro z; cases z)).2.2
          rw [hD, e] at this; cases this
      · cases eb : W.B D with
        | none => exact hb eb
        | some o' => have := g1.b D o' eb; rw [nbD] at this; cases this
  obtain ⟨r1', gg⟩ := r1.priv (p := D) (o := .lst []) nbD nrD
  have i0 : LcI M W H W1 D S1 [] W1 (upd H1 D (.lst [])) := ⟨gg W H hD0 g1, Le.refl _, r1', nbD, nrD, [], upd_same, .nil⟩
  refine ⟨fun i m H' => m = it.xs.length - i ∧ i ≤ it.xs.length ∧ ∃ W' S' acc, LcI M W H W1 D S' acc W' H' ∧ OPost (lcLoop g mt me it.pins (wipeP ε vs) (it.xs.drop i) acc S') (fun acc S2 => ∀ (D : Addr) (W1 W' : Wd) (H' : Hp), H D = none → LcI M W H W1 D S2 acc W' H' → Q (.ref D) H') (exE M W H (atσ X σ)), ⟨_, rfl, Nat.zero_le _, W1, S1, [], i0, q1⟩, ?_⟩
  rintro i m H' ⟨rfl, hil, W', S', acc, hI, q'⟩
  by_cases hlt : i < it.xs.length
  · have hx : it.xs[i]? = some it.xs[i] := List.getElem?_eq_getElem hlt
    rw [List.drop_eq_getElem_cons hlt] at q'
    simp only [lcLoop] at q'
    obtain ⟨pk, q2⟩ := ite_post q'
    obtain ⟨wgo, _⟩ := wk W' H' S' i hI.l hI.r (pinned_of pk)
    obtain ⟨hgo, hyl⟩ := wgo _ hx
    refine .inr ⟨hgo, fun H2 => i + 1 ≤ it.xs.length ∧ ∃ W' S' acc, LcI M W H W1 D S' acc W' H2 ∧ OPost (lcLoop g mt me it.pins (wipeP ε vs) (it.xs.drop (i + 1)) acc S') (fun acc S2 => ∀ (D : Addr) (W1 W' : Wd) (H' : Hp), H D = none → LcI M W H W1 D S2 acc W' H' → Q (.ref D) H') (exE M W H (atσ X σ)), fun H2 p => ⟨it.xs.length - (i + 1), by omega, rfl, p⟩, fun v H2 hy => ?_⟩
    obtain ⟨W2, g2, r2, p2⟩ := hyl v H2 hy
    have I2 := hI.step g2 r2
    rw [opost_bind] at q2
    obtain ⟨ε1, S3, e, q3⟩ := quiet_post q2
    refine hg W2 H2 S' σ (wipe σ vs) (wipeP ε vs) v _ (le.trans I2.g.le) r2 ((er.up I2.g.le).wipe vs) p2 wipe_wipe _ ?_
    rw [e]
    intro σ3 W3 H3 g3 r3 er3 hw3
    have I3 := I2.step g3 r3
    refine ⟨hw3, ?_⟩
    rw [opost_bind] at q3
    refine hc W3 H3 S3 σ3 ε1 (le.trans I3.g.le) r3 er3 _ (q3.mono (fun b S4 q4 b' W4 H4 g4 r4 p4 => ?_) fun c xs S4 z d W4 H4 g4 r4 xd => hX _ _ _ _ _ (z d W4 H4 (I3.g.trans g4) r4 xd))
    cases p4
    have I4 := I3.step g4 r4
    cases b with
    | true =>
      refine iteT ?_
      rw [if_pos rfl] at q4
      have q5 := q4
      rw [opost_bind] at q5
      refine he W4 H4 S4 σ3 ε1 (le.trans I4.g.le) r4 (er3.up g4.le) _ (q5.mono (fun y S5 q6 w W5 H5 g5 r5 p5 => ?_) fun c xs S5 z d W5 H5 g5 r5 xd => hX _ _ _ _ _ (z d W5 H5 (I4.g.trans g5) r5 xd))
      have I5 := I4.step g5 r5
      obtain ⟨hz, q7⟩ := ite_post q6
      obtain ⟨us, b1, b2⟩ := I5.at'
      obtain ⟨r6, gp⟩ := r5.priv (p := D) (o := .lst (us ++ [w])) I5.nb I5.nr
      exact ⟨us, b1, Nat.lt_of_lt_of_le (by rw [rpa_len b2]; exact hz) (by decide), hlt, W5, S5, acc ++ [y], ⟨gp W H hD0 I5.g, I5.l, r6, I5.nb, I5.nr, _, upd_same, rpa_app b2 (.cons p5 .nil)⟩, q7⟩
    | false => exact iteF ⟨hlt, W4, S4, acc, I4, q4⟩
  · have hie : i = it.xs.length := by omega
    rw [hie, List.drop_length] at q'
    simp only [lcLoop] at q'
    obtain ⟨pk, q2⟩ := ite_post q'
    obtain ⟨_, wst⟩ := wk W' H' S' i hI.l hI.r (pinned_of pk)
    exact .inl ⟨wst hie, q2 D W1 W' H' hD0 hI⟩
theorem re_lc {wi : TI} {mi : Env → Sta → Out IT} {tg : TG} {g : MG} {vs : List Nat} {Xi : WX} (hi : RI M W0 X wi mi) (hg : RTn M W0 vs tg g) (hc : RT M W0 Xi tt mt) (he : RE M W0 Xi te me) (hX : ∀ cls d σ σ' H, X cls d σ H → Xi cls d σ' H) : RE M W0 X (tLc wi tg tt te vs) (LcE mi g mt me vs) := fun W H S σ ε le r er Q q => by
  unfold LcE at q
  rw [opost_bind] at q
  refine re_lcA hi hg hc he hX le r er (q.mono (fun acc S2 q D W1 W' H' hD I => ?_) fun _ _ _ z => z)
  obtain ⟨us, b1, b2⟩ := I.at'
  obtain ⟨r2, g2⟩ := I.r.adopt b1 I.nb I.nr
  have gg := g2 W H hD I.g
  have lw : Le W' ⟨upd W'.B D (.lst us), W'.ρ⟩ := ⟨fun a u z => by show upd W'.B D (.lst us) a = some u; rw [upd_ne (ne_of_none z I.nb)]; exact z, List.prefix_refl _⟩
  exact q _ _ H' gg r2 (.lst upd_same (rpa_up lw _ _ b2))
theorem re_lcM {wi : TI} {mi : Env → Sta → Out IT} {tg : TG} {g : MG} {vs : List Nat} {Xi : WX} (hi : RI M W0 X wi mi) (hg : RTn M W0 vs tg g) (hc : RT M W0 Xi tt mt) (he : RE M W0 Xi te me) (hX : ∀ cls d σ σ' H, X cls d σ H → Xi cls d σ' H) : RE M W0 X (tLc wi tg tt te vs) (LcM mi g mt me vs) := fun W H S σ ε le r er Q q => by
  unfold LcM at q
  rw [opost_bind] at q
  refine re_lcA hi hg hc he hX le r er (q.mono (fun acc S2 q D W1 W' H' hD I => ?_) fun _ _ _ z => z)
  obtain ⟨us, b1, b2⟩ := I.at'
  have lw : Le W' ⟨W'.B, W'.ρ ++ [.own D]⟩ := ⟨Same.refl _, List.prefix_append _ _⟩
  obtain ⟨r2, g2⟩ := I.r.adoptC (c := .lst acc) b1 I.nr ⟨I.nb, us, b1, rpa_up lw _ _ b2⟩
  refine q _ _ H' (g2 W H hD I.g) r2 (.mu ?_)
  rw [← I.r.len]
  simp
end
end Fx
namespace Fx
open PySem PySem.Spec PyProof.Rows L2 Co
section
variable {M : Md} {W W' Wa W0 W1 : Wd} {H H' Ha H1 : Hp} {S S' : Sta} {σ : L2.St} {ε : Env} {X : WX}
variable {ta tb tc te : TE} {ma mb mc me : Env → Sta → Out PV} {tt uu : TT} {mt mu : Env → Sta → Out Bool} {ts tr : TA} {ms mr : Env → Sta → Out (List PV)}
/-! ### more operators -/
def scalP : PV → PV → Option Bool
  | .int i, .int j => some (decide (i = j))
  | .str i, .str j => some (decide (i = j))
  | .bl i, .bl j => some (decide (i = j))
  | _, _ => none
def fEqA : F2 := fun S x y => match scalP x y with
  | some b => some (.bl b)
  | none => fEq S x y
def fNeA : F2 := fun S x y => match scalP x y with
  | some b => some (.bl (!b))
  | none => fNe S x y
theorem scalP_ok {u v : V} {x y : PV} {b : Bool} (hx : Rp M W u x) (hy : Rp M W v y) (e : scalP x y = some b) : ∀ H : Hp, scal u v = true ∧ decide (u = v) = b := by
  cases hx <;> first | (cases e; done) | skip
  · cases hy <;> first | (cases e; done) | skip
    simp only [scalP, Option.some.injEq] at e
    subst e
    exact fun _ => ⟨rfl, by simp⟩
  · cases hy <;> first | (cases e; done) | skip
    simp only [scalP, Option.some.injEq] at e
    subst e
    exact fun _ => ⟨rfl, by simp⟩
  · cases hy <;> first | (cases e; done) | skip
    simp only [scalP, Option.some.injEq] at e
    subst e
    exact fun _ => ⟨rfl, by simp⟩
theorem k_eqA : K2 M (rEqA M.K) fEqA := fun W H S u v x y p r hx hy e Q q => by
  unfold fEqA at e
  split at e
  · rename_i b eb
    cases e
    obtain ⟨h1, h2⟩ := scalP_ok hx hy eb H
    exact .inr ⟨h1, by rw [h2]; exact okG_end r (.bl _) q⟩
  · exact .inl (k_eqD W H S u v x y p r hx hy e Q q)
theorem k_neA : K2 M (rNeA M.K) fNeA := fun W H S u v x y p r hx hy e Q q => by
  unfold fNeA at e
  split at e
  · rename_i b eb
    cases e
    obtain ⟨h1, h2⟩ := scalP_ok hx hy eb H
    exact .inr ⟨h1, by rw [h2]; exact okG_end r (.bl _) q⟩
  · exact .inl (k_neD W H S u v x y p r hx hy e Q q)
abbrev fPow : F2 := fI (fun i j => 0 ≤ j ∧ j ≤ 1000000 ∧ i.natAbs < 18446744073709551616) fun i j => .int (i ^ j.toNat)
theorem k_pow : K2 M (rI CPow fun i j => .int (i ^ j.toNat)) fPow := k_I (fun _ _ h => by
  have e : (2 : Nat) ^ 64 = 18446744073709551616 := by decide
  unfold CPow
  rw [e]
  exact h) fun _ _ _ => .int _
def fInS : F2 := fun S x y => match x, y with
  | .str c, .str z => match c.cps.toList with
    | [n] => some (.bl (decide (n ∈ z.cps.toList)))
    | _ => none
  | _, _ => none
theorem k_inS : K2 M rInS fInS := fun W H S u v x y p r hx hy e Q q => by
  unfold fInS at e
  split at e
  · rename_i c z
    cases hx; cases hy
    split at e
    · rename_i n en
      cases e
      have : c = ⟨#[n]⟩ := by
        cases c with
        | mk cps =>
          congr 1
          apply Array.ext'
          simpa using en
      subst this
      exact ⟨n, z, rfl, rfl, okG_end r (.bl _) q⟩
    · cases e
  · cases e
def fIsB : F2 := fun S x y => match x, y with
  | .bl a, .bl b => some (.bl (decide (a = b)))
  | _, _ => none
theorem k_isB : K2 M rIsB fIsB := fun W H S u v x y p r hx hy e Q q => by
  unfold fIsB at e
  split at e
  · cases e
    cases hx; cases hy
    exact ⟨_, _, rfl, rfl, okG_end r (.bl _) q⟩
  · cases e
def NegE (me : Env → Sta → Out PV) : Env → Sta → Out PV := fun ε S => (me ε S).bind fun x S1 => match x with
  | .int i => .ok (.int (-i)) S1
  | _ => .stuck
theorem re_neg (h : RE M W0 X te me) : RE M W0 X (tUn (rU fun i => V.int (-i)) te) (NegE me) := fun W H S σ ε le r0 er Q q =>
  h.thn (.refl W H) le r0 er q fun v p S1 W1 H1 g1 r1 p1 q1 => by
    split at q1
    · cases p1
      exact ⟨_, rfl, q1 _ W1 H1 g1 r1 (.int _)⟩
    · exact q1.elim
theorem rpa_intsP {ns : List Int} : RpA M W (ns.map V.int) (ns.map .int) := by
  induction ns with
  | nil => exact .nil
  | cons n ns ih => exact .cons (.int n) ih
/-- list(range(n)) -/
def LrgE (me : Env → Sta → Out PV) : Env → Sta → Out PV := fun ε S => (me ε S).bind fun x S1 => match x with
  | .int n => if -1000 ≤ n ∧ n ≤ 90000 then .ok (.lst (intsP 0 n.toNat)) S1 else .stuck
  | _ => .stuck
theorem re_lrg (h : RE M W0 X te me) : RE M W0 X (tLstRg (tRg1 te)) (LrgE me) := fun W H S σ ε le r0 er Q q =>
  h.thn (.refl W H) le r0 er q fun v p S1 W1 H1 g1 r1 p1 q1 => by
    split at q1
    · rename_i n
      obtain ⟨z, q2⟩ := ite_post q1
      cases p1
      refine ⟨n, rfl, ⟨by omega, by omega, by omega, by omega, by omega⟩, new_lst g1 r1 (xs := intsP 0 n.toNat) ?_ q2⟩
      have hv : rgV 0 n = ((List.range n.toNat).map fun (i : Nat) => (i : Int)).map V.int := by simp [rgV]
      have hd : intsP 0 n.toNat = ((List.range n.toNat).map fun (i : Nat) => (i : Int)).map PV.int := by simp [intsP]
      rw [hv, hd]
      exact rpa_intsP
    · exact q1.elim
/-- tuple(reversed(l)) -/
def TrvE (me : Env → Sta → Out PV) : Env → Sta → Out PV := fun ε S => (me ε S).bind fun x S1 => match look S1 x with
  | .lst xs => .ok (.tup xs.reverse) S1
  | _ => .stuck
theorem rpa_rev {vs : List V} {ps : List PV} (h : RpA M W vs ps) : RpA M W vs.reverse ps.reverse := by
  induction vs generalizing ps with
  | nil => cases h; exact .nil
  | cons v vs ih => cases h with | cons h1 h2 => rw [List.reverse_cons, List.reverse_cons]; exact rpa_app (ih h2) (.cons h1 .nil)
theorem re_trv (h : RE M W0 X te me) : RE M W0 X (RT.tTupRev M.K te) (TrvE me) := fun W H S σ ε le r0 er Q q =>
  h.thn (.refl W H) le r0 er q fun v p S1 W1 H1 g1 r1 p1 q1 => by
    split at q1
    · rename_i xs e
      obtain ⟨a, vs, rfl, h1, h2⟩ := look_lst r1 p1 e
      exact ⟨a, vs, rfl, h1, new_tup g1 r1 (rpa_rev h2) q1⟩
    · exact q1.elim
/-- p.append(e), p a list that may change -/
def AppE (mo me : Env → Sta → Out PV) : Env → Sta → Out PV := fun ε S => (mo ε S).bind fun o S1 => match o with
  | .mu n => match S1[n]? with
    | some (.lst _) => (me ε S1).bind fun p S2 => match S2[n]? with
      | some (.lst xs) => if xs.length < 100000 then .ok .non (S2.set n (.lst (xs ++ [p]))) else .stuck
      | _ => .stuck
    | _ => .stuck
  | _ => .stuck
theorem re_app (ho : RE M W0 X ta ma) (h : RE M W0 X te me) : RE M W0 X (tBM M.K "list" rAppend ta (tCons te tNil)) (AppE ma me) := fun W H S σ ε le r0 er Q q =>
  ho.thn (.refl W H) le r0 er q fun v o S1 W1 H1 g1 r1 p1 q1 => by
    split at q1
    · rename_i n
      cases p1 with
      | @mu _ a hm =>
        split at q1
        · rename_i ys ey
          obtain ⟨_, us, b1, _⟩ := r1.c n a _ hm ey
          refine ⟨.inl ⟨rfl, us, SqL.of b1⟩, ?_⟩
          refine h.thn g1 le r1 er q1 fun w p S2 W2 H2 g2 r2 p2 q2 => ?_
          split at q2
          · rename_i xs ex
            obtain ⟨z, q3⟩ := ite_post q2
            have hm2 := pre_get g2.ρ hm
            obtain ⟨nb, vs, c1, c2⟩ := r2.c n a _ hm2 ex
            obtain ⟨r3, g3⟩ := r2.put (o := .lst (vs ++ [w])) (c := .lst (xs ++ [p])) hm2 nb ⟨nb, _, upd_same, rpa_app c2 (.cons p2 .nil)⟩
            exact ⟨a, vs, w, rfl, rfl, c1, Nat.lt_of_lt_of_le (by rw [rpa_len c2]; exact z) (by decide), q3 _ W2 _ ((g1.trans g2).trans g3) r3 .non⟩
          · exact q2.elim
        · exact q1.elim
    · exact q1.elim
/-! ### leaving a scope: what was made within it never changes again, and its cells go -/
mutual
def clean (k : Nat) : PV → Bool
  | .tup xs => cleans k xs
  | .lst xs => cleans k xs
  | .kls xs => cleans k xs
  | .obj _ _ xs => cleans k xs
  | .mu n => decide (n < k)
  | .xv n => decide (n < k)
  | _ => true
def cleans (k : Nat) : List PV → Bool
  | [] => true
  | p :: ps => clean k p && cleans k ps
end
mutual
def frz (k : Nat) (S : Sta) : PV → Option PV
  | .tup xs => (frzs k S xs).map .tup
  | .lst xs => (frzs k S xs).map .lst
  | .kls xs => (frzs k S xs).map .kls
  | .obj c ns xs => (frzs k S xs).map (.obj c ns)
  | .mu n => if n < k then some (.mu n) else match S[n]? with
    | some (.lst xs) => if cleans k xs = true then some (.lst xs) else none
    | some (.obj c ns xs) => if cleans k xs = true then some (.obj c ns xs) else none
    | _ => none
  | .xv n => if n < k then some (.xv n) else none
  | p => some p
def frzs (k : Nat) (S : Sta) : List PV → Option (List PV)
  | [] => some []
  | p :: ps => match frz k S p, frzs k S ps with
    | some q, some qs => some (q :: qs)
    | _, _ => none
end
def frzC (k : Nat) (S : Sta) : Cell → Option Cell
  | .lst xs => (frzs k S xs).map .lst
  | .obj c ns xs => (frzs k S xs).map (.obj c ns)
  | .dead => some .dead
def frzCs (k : Nat) (S : Sta) : List Cell → Option (List Cell)
  | [] => some []
  | c :: cs => match frzC k S c, frzCs k S cs with
    | some q, some qs => some (q :: qs)
    | _, _ => none
/-- values and state, when the cells from k on go -/
def leave (k : Nat) (ps : List PV) (S : Sta) : Option (List PV × Sta) := if S.length ≤ k then some (ps, S) else match frzs k S ps, frzCs k S (S.take k) with
  | some qs, some T => some (qs, T)
  | _, _ => none
/-- the cells that stay as they are -/
def still (k : Nat) (S : Sta) (n : Nat) : Prop := k ≤ n ∧ match S[n]? with
  | some (.lst xs) => cleans k xs = true
  | some (.obj _ _ xs) => cleans k xs = true
  | _ => False
open Classical in
noncomputable def shut (W : Wd) (H : Hp) (S : Sta) (k : Nat) : Wd := ⟨fun a => if ∃ n, W.ρ[n]? = some (.own a) ∧ still k S n then H a else W.B a, W.ρ.take k⟩
theorem shut_b (r : Rel M W H S) (k : Nat) : Same W.B (shut W H S k).B := fun a o q => by
  unfold shut
  dsimp only
  split
  · exact r.i a o q
  · exact q
theorem take_get {α : Type} {xs : List α} {k n : Nat} {a : α} (h : xs[n]? = some a) (hk : n < k) : (xs.take k)[n]? = some a := by
  rw [List.getElem?_take, if_pos hk]; exact h
theorem get_take {α : Type} {xs : List α} {k n : Nat} {a : α} (h : (xs.take k)[n]? = some a) : n < k ∧ xs[n]? = some a := by
  rw [List.getElem?_take] at h
  by_cases z : n < k
  · rw [if_pos z] at h; exact ⟨z, h⟩
  · rw [if_neg z] at h; cases h
mutual
theorem clean_rp (r : Rel M W H S) (k : Nat) : ∀ (p : PV) (v : V), Rp M W v p → clean k p = true → Rp M (shut W H S k) v p
  | .non, _, h, _ => by cases h; exact .non
  | .bl b, _, h, _ => by cases h; exact .bl b
  | .int i, _, h, _ => by cases h; exact .int i
  | .str z, _, h, _ => by cases h; exact .str z
  | .tup xs, _, h, c => by
    cases h with
    | tup hs ha => exact .tup (seqT_up (shut_b r k) hs) (cleans_rp r k xs _ ha (by simpa only [clean] using c))
  | .lst xs, _, h, c => by
    cases h with
    | lst hs ha => exact .lst (shut_b r k _ _ hs) (cleans_rp r k xs _ ha (by simpa only [clean] using c))
  | .kls xs, _, h, c => by
    cases h with
    | kls hs ha => exact .kls ((shut_b r k).seq hs) (cleans_rp r k xs _ ha (by simpa only [clean] using c))
  | .obj _ _ xs, _, h, c => by
    cases h with
    | obj h1 h3 ha => exact .obj (h1.up (shut_b r k)) h3 (cleans_rp r k xs _ ha (by simpa only [clean] using c))
  | .mu n, _, h, c => by
    cases h with
    | mu h => exact .mu (take_get h (by simpa only [clean, decide_eq_true_eq] using c))
  | .xv n, _, h, c => by
    cases h with
    | xv h => exact .xv (take_get h (by simpa only [clean, decide_eq_true_eq] using c))
theorem cleans_rp (r : Rel M W H S) (k : Nat) : ∀ (ps : List PV) (vs : List V), RpA M W vs ps → cleans k ps = true → RpA M (shut W H S k) vs ps
  | [], _, h, _ => by cases h; exact .nil
  | p :: ps, _, h, c => by
    cases h with
    | cons h1 h2 =>
      simp only [cleans, Bool.and_eq_true] at c
      exact .cons (clean_rp r k p _ h1 c.1) (cleans_rp r k ps _ h2 c.2)
end
theorem shut_at (r : Rel M W H S) {k n : Nat} {a : Addr} (h : W.ρ[n]? = some (.own a)) (st : still k S n) : (shut W H S k).B a = H a := by
  unfold shut
  dsimp only
  rw [if_pos ⟨n, h, st⟩]
mutual
theorem frz_rp (r : Rel M W H S) (k : Nat) : ∀ (p q : PV) (v : V), Rp M W v p → frz k S p = some q → Rp M (shut W H S k) v q
  | .non, _, _, h, e => by simp only [frz, Option.some.injEq] at e; subst e; cases h; exact .non
  | .bl b, _, _, h, e => by simp only [frz, Option.some.injEq] at e; subst e; cases h; exact .bl b
  | .int i, _, _, h, e => by simp only [frz, Option.some.injEq] at e; subst e; cases h; exact .int i
  | .str z, _, _, h, e => by simp only [frz, Option.some.injEq] at e; subst e; cases h; exact .str z
  | .tup xs, _, _, h, e => by
    simp only [frz] at e
    obtain ⟨ys, e1, rfl⟩ := Option.map_eq_some_iff.mp e
    cases h with
    | tup hs ha => exact .tup (seqT_up (shut_b r k) hs) (frzs_rp r k xs ys _ ha e1)
  | .lst xs, _, _, h, e => by
    simp only [frz] at e
    obtain ⟨ys, e1, rfl⟩ := Option.map_eq_some_iff.mp e
    cases h with
    | lst hs ha => exact .lst (shut_b r k _ _ hs) (frzs_rp r k xs ys _ ha e1)
  | .kls xs, _, _, h, e => by
    simp only [frz] at e
    obtain ⟨ys, e1, rfl⟩ := Option.map_eq_some_iff.mp e
    cases h with
    | kls hs ha => exact .kls ((shut_b r k).seq hs) (frzs_rp r k xs ys _ ha e1)
  | .obj c ns xs, _, _, h, e => by
    simp only [frz] at e
    obtain ⟨ys, e1, rfl⟩ := Option.map_eq_some_iff.mp e
    cases h with
    | obj h1 h3 ha =>
      have hr := frzs_rp r k xs ys _ ha e1
      exact .obj (h1.up (shut_b r k)) (by rw [h3, ← rpa_len ha, rpa_len hr]) hr
  | .mu n, q, v, h, e => by
    simp only [frz] at e
    cases h with
    | @mu _ a h =>
      by_cases z : n < k
      · rw [if_pos z] at e
        cases e
        exact .mu (take_get h z)
      · rw [if_neg z] at e
        split at e
        · rename_i xs es
          obtain ⟨hc, rfl⟩ := ite_some e
          obtain ⟨nb, vs, h1, h2⟩ := r.c n a _ h es
          have st : still k S n := ⟨by omega, by rw [es]; exact hc⟩
          exact .lst ((shut_at r h st).trans h1) (cleans_rp r k xs vs h2 hc)
        · rename_i c ns xs es
          obtain ⟨hc, rfl⟩ := ite_some e
          obtain ⟨nb, er, l, dx, vs, h1, h2, h3⟩ := r.c n a _ h es
          have st : still k S n := ⟨by omega, by rw [es]; exact hc⟩
          exact .obj (.inl ⟨er, dx, (shut_at r h st).trans h1, shut_b r k _ _ h2⟩) l (cleans_rp r k xs vs h3 hc)
        · cases e
  | .xv n, q, v, h, e => by
    simp only [frz] at e
    obtain ⟨z, rfl⟩ := ite_some e
    cases h with
    | xv h => exact .xv (take_get h z)
theorem frzs_rp (r : Rel M W H S) (k : Nat) : ∀ (ps qs : List PV) (vs : List V), RpA M W vs ps → frzs k S ps = some qs → RpA M (shut W H S k) vs qs
  | [], _, _, h, e => by simp only [frzs, Option.some.injEq] at e; subst e; cases h; exact .nil
  | p :: ps, qs, _, h, e => by
    cases h with
    | cons h1 h2 =>
      simp only [frzs] at e
      split at e
      · rename_i q qs' e1 e2
        cases e
        exact .cons (frz_rp r k p q _ h1 e1) (frzs_rp r k ps qs' _ h2 e2)
      · cases e
end
theorem frzCs_get {k : Nat} : ∀ {cs T : List Cell} {n : Nat} {c : Cell}, frzCs k S cs = some T → T[n]? = some c → ∃ c0, cs[n]? = some c0 ∧ frzC k S c0 = some c
  | [], T, n, c, e, h => by simp only [frzCs, Option.some.injEq] at e; subst e; simp at h
  | c1 :: cs, T, n, c, e, h => by
    simp only [frzCs] at e
    split at e
    · rename_i q qs e1 e2
      cases e
      cases n with
      | zero => simp at h; subst h; exact ⟨c1, by simp, e1⟩
      | succ n => simp at h; obtain ⟨c0, a, b⟩ := frzCs_get e2 h; exact ⟨c0, by simpa using a, b⟩
    · cases e
theorem frzCs_len {k : Nat} : ∀ {cs T : List Cell}, frzCs k S cs = some T → T.length = cs.length
  | [], T, e => by simp only [frzCs, Option.some.injEq] at e; subst e; rfl
  | c1 :: cs, T, e => by
    simp only [frzCs] at e
    split at e
    · rename_i q qs e1 e2
      cases e
      simp [frzCs_len e2]
    · cases e
theorem shut_rel (r : Rel M W H S) {k : Nat} {T : Sta} (hk : k ≤ S.length) (e : frzCs k S (S.take k) = some T) : Rel M (shut W H S k) H T := by
  have notstill : ∀ {n : Nat} {a : Addr}, n < k → W.ρ[n]? = some (.own a) → (shut W H S k).B a = W.B a := fun {n a} hn h => by
    unfold shut
    dsimp only
    rw [if_neg]
    rintro ⟨m, h1, h2⟩
    have := r.nd n m a h h1
    have := h2.1
    omega
  refine ⟨fun a o q => ?_, ?_, fun n m a h1 h2 => ?_, fun a h => ?_, fun n a c h1 h2 => ?_⟩
  · unfold shut at q
    dsimp only at q
    split at q
    · exact q
    · exact r.i a o q
  · rw [frzCs_len e, List.length_take]
    show (W.ρ.take k).length = _
    rw [List.length_take, r.len]
  · exact r.nd n m a (get_take h1).2 (get_take h2).2
  · exact r.al a (List.mem_of_mem_take h)
  · obtain ⟨hn, h1'⟩ := get_take h1
    obtain ⟨c0, f1, f2⟩ := frzCs_get e h2
    obtain ⟨_, f1'⟩ := get_take f1
    have base := r.c n a c0 h1' f1'
    cases c0 with
    | lst xs =>
      simp only [frzC] at f2
      obtain ⟨ys, e1, rfl⟩ := Option.map_eq_some_iff.mp f2
      obtain ⟨nb, vs, b1, b2⟩ := base
      exact ⟨(notstill hn h1').trans nb, vs, b1, frzs_rp r k xs ys vs b2 e1⟩
    | obj c1 ns xs =>
      simp only [frzC] at f2
      obtain ⟨ys, e1, rfl⟩ := Option.map_eq_some_iff.mp f2
      obtain ⟨nb, er, l, dx, vs, b1, b2, b3⟩ := base
      have hr := frzs_rp r k xs ys vs b3 e1
      exact ⟨(notstill hn h1').trans nb, er, by rw [l, ← rpa_len b3, rpa_len hr], dx, vs, b1, shut_b r k _ _ b2, hr⟩
    | dead =>
      simp only [frzC, Option.some.injEq] at f2
      subst f2
      exact trivial
theorem shut_go (r : Rel M W H S) {k : Nat} (hk : Wa.ρ.length = k) (g : Go Wa Ha W H) : Go Wa Ha (shut W H S k) H := by
  refine ⟨g.b.trans (shut_b r k), ?_, fun a q1 q2 q3 => ?_⟩
  · obtain ⟨t, ht⟩ := g.ρ
    show Wa.ρ <+: W.ρ.take k
    rw [← ht, ← hk, List.take_left']
    · exact List.prefix_refl _
    · rfl
  · obtain ⟨x1, x2, x3⟩ := g.p a q1 q2 q3
    refine ⟨?_, fun h => x2 (List.mem_of_mem_take h), x3⟩
    unfold shut
    dsimp only
    rw [if_neg]
    · exact x1
    · rintro ⟨n, h1, _⟩
      exact x2 (List.mem_of_getElem? h1)
theorem leave_rp {k : Nat} {ps qs : List PV} {T : Sta} {vs : List V} (r : Rel M W H S) (hk : Wa.ρ.length = k) (g : Go Wa Ha W H) (h : RpA M W vs ps) (e : leave k ps S = some (qs, T)) : ∃ W', Go Wa Ha W' H ∧ Rel M W' H T ∧ RpA M W' vs qs ∧ Le W ⟨W'.B, W.ρ⟩ ∧ (∀ (n : Nat) (x : Slot), n < k → W.ρ[n]? = some x → W'.ρ[n]? = some x) := by
  unfold leave at e
  by_cases z : S.length ≤ k
  · rw [if_pos z] at e
    cases e
    exact ⟨W, g, r, h, Le.refl _, fun _ _ _ q => q⟩
  · rw [if_neg z] at e
    split at e
    · rename_i q' T' e1 e2
      cases e
      exact ⟨shut W H S k, shut_go r hk g, shut_rel r (by omega) e2, frzs_rp r k ps _ vs h e1, ⟨shut_b r k, List.prefix_refl _⟩, fun n x hn q => take_get q hn⟩
    · cases e
end
end Fx
namespace Fx
open PySem PySem.Spec PyProof.Rows L2 Co
section
variable {M : Md} {W W' Wa W0 W1 : Wd} {H H' Ha H1 : Hp} {S S' : Sta} {σ : L2.St} {ε : Env} {X : WX}
variable {ta tb tc te : TE} {ma mb mc me : Env → Sta → Out PV} {tt uu : TT} {mt mu : Env → Sta → Out Bool} {ts tr : TA} {ms mr : Env → Sta → Out (List PV)}
/-! ### a scope within a def: a loop's turn -/
def frzO (k : Nat) (S : Sta) : Option PV → Option PV
  | some p => frz k S p
  | none => none
def leaveE (k : Nat) (ε : Env) (S : Sta) : Option (Env × Sta) := if S.length ≤ k then some (ε, S) else match frzCs k S (S.take k) with
  | some T => some (ε.map (frzO k S), T)
  | none => none
theorem Er.shut (r : Rel M W H S) (k : Nat) (h : Er M W σ ε) : Er M (shut W H S k) σ (ε.map (frzO k S)) := ⟨by rw [h.len, List.length_map], fun i p q => by
  rw [List.getElem?_map] at q
  obtain ⟨x, h1, h2⟩ := Option.map_eq_some_iff.mp q
  cases x with
  | none => cases h2
  | some p0 =>
    obtain ⟨v, a, b⟩ := h.get i p0 h1
    exact ⟨v, a, frz_rp r k p0 p v b h2⟩⟩
theorem leaveE_ok {k : Nat} {ε' : Env} {T : Sta} (r : Rel M W H S) (hk : Wa.ρ.length = k) (g : Go Wa Ha W H) (er : Er M W σ ε) (e : leaveE k ε S = some (ε', T)) : ∃ W', Go Wa Ha W' H ∧ Rel M W' H T ∧ Er M W' σ ε' := by
  unfold leaveE at e
  by_cases z : S.length ≤ k
  · rw [if_pos z] at e
    cases e
    exact ⟨W, g, r, er⟩
  · rw [if_neg z] at e
    split at e
    · rename_i T' e2
      cases e
      exact ⟨Fx.shut W H S k, shut_go r hk g, shut_rel r (by omega) e2, er.shut r k⟩
    · cases e
def scopeS (m : Env → Sta → Flow) : Env → Sta → Flow := fun ε S => match m ε S with
  | .nx ε' S' => match leaveE S.length ε' S' with
    | some x => .nx x.1 x.2
    | none => .stuck
  | .ct ε' S' => match leaveE S.length ε' S' with
    | some x => .ct x.1 x.2
    | none => .stuck
  | .bk ε' S' => match leaveE S.length ε' S' with
    | some x => .bk x.1 x.2
    | none => .stuck
  | f => f
theorem RS.scope {t : TS} {m : Env → Sta → Flow} (h : RS M W0 X t m) : RS M W0 X t (scopeS m) := fun W H S σ ε le r er D q => by
  refine h W H S σ ε le r er D ?_
  unfold scopeS at q
  have key : ∀ {N : L2.St → Hp → Prop} {ε' : Env} {S' : Sta} {x : Env × Sta}, leaveE S.length ε' S' = some x → enG M W H N x.1 x.2 → enG M W H N ε' S' := fun {N ε' S' x} e q σ' W' H' g' r' er' => by
    obtain ⟨W2, g2, r2, er2⟩ := leaveE_ok r' r.len g' er' e
    exact q σ' W2 H' g2 r2 er2
  cases e : m ε S with
  | nx ε' S' =>
    rw [e] at q
    dsimp only at q
    split at q
    · rename_i x ex; exact key ex q
    · exact q.elim
  | ct ε' S' =>
    rw [e] at q
    dsimp only at q
    split at q
    · rename_i x ex; exact key ex q
    · exact q.elim
  | bk ε' S' =>
    rw [e] at q
    dsimp only at q
    split at q
    · rename_i x ex; exact key ex q
    · exact q.elim
  | rt p S' => rw [e] at q; exact q
  | ex c xs ε' S' => rw [e] at q; exact q
  | stuck => rw [e] at q; exact q
/-! ### defs -/
def envOf (len : Nat) (ps : List PV) : Env := ps.map some ++ List.replicate (len - ps.length) none
def give (k : Nat) (p : PV) (S : Sta) : Out PV := match leave k [p] S with
  | some ([q], T) => .ok q T
  | _ => .stuck
def giveX (k : Nat) (c : String) (xs : List PV) (S : Sta) : Out PV := match leave k xs S with
  | some (ys, T) => .ex c ys T
  | none => .stuck
/-- a def of n parameters and len slots: what it makes never changes any more (keep: it may) -/
def defM (keep : Bool) (n len : Nat) (body : Env → Sta → Flow) : FC := fun ps S => if ps.length = n then match body (envOf len ps) S with
  | .rt p S' => if keep = true then .ok p S' else give S.length p S'
  | .nx _ S' => if keep = true then .ok .non S' else give S.length .non S'
  | .ex c xs _ S' => giveX S.length c xs S'
  | _ => .stuck
  else .stuck
def calmF (f : FC) : FC := fun ps S => calm (f ps S)
theorem le_bot (W : Wd) : Le ⟨fun _ => none, []⟩ W := ⟨(fun _ _ h => nomatch h), List.nil_prefix⟩
theorem spM_len {f : FC} {n : Nat} (hf : ∀ xs S, f xs S ≠ .stuck → xs.length = n) {vs : List V} {H : Hp} {Q : VK} {E : XK} (h : spM M f vs H Q E) : vs.length = n := by
  obtain ⟨W, S, xs, r, ra, q⟩ := h
  rw [rpa_len ra]
  refine hf xs S fun z => ?_
  rw [z] at q
  exact q
theorem defM_len {keep : Bool} {n len : Nat} {body : Env → Sta → Flow} : ∀ xs S, defM keep n len body xs S ≠ .stuck → xs.length = n := fun xs S h => by
  unfold defM at h
  by_cases z : xs.length = n
  · exact z
  · rw [if_neg z] at h; exact absurd rfl h
theorem calmF_len {f : FC} {n : Nat} (hf : ∀ xs S, f xs S ≠ .stuck → xs.length = n) : ∀ xs S, calmF f xs S ≠ .stuck → xs.length = n := fun xs S h => hf xs S fun z => h (by unfold calmF; rw [z]; rfl)
theorem rpa_one {v : V} {p : PV} (h : Rp M W v p) : RpA M W [v] [p] := .cons h .nil
theorem give_ok {p : PV} {Q : VK} {E : String → List PV → Sta → Prop} (r0 : Rel M W H S) (q : OPost (give S.length p S') (okG Rp M W H Q) E) : okG Rp M W H Q p S' := fun v W' H' g r' rp => by
  unfold give at q
  split at q
  · rename_i q' T e
    obtain ⟨W2, g2, r2, ra, _, _⟩ := leave_rp r' r0.len g (rpa_one rp) e
    cases ra with
    | cons h _ => exact q v W2 H' g2 r2 h
  · exact q.elim
theorem def_ok {N : List Str} {keep : Bool} {n len : Nat} {body : Env → Sta → Flow} {t : TS} {vs : List V} {Q : VK} {E : XK} (hlen : N.length = len) (h : RS M ⟨fun _ => none, []⟩ (fun cls d _ H => E cls d H) t body) (sp : spM M (defM keep n len body) vs H Q E) : t { nx := fun _ H' => Q .non H', rt := Q } (L2.start N vs) H := by
  obtain ⟨W, S, xs, r, ra, q⟩ := sp
  have er : Er M W (L2.start N vs) (envOf len xs) := by
    unfold L2.start envOf
    rw [rpa_len ra, hlen]
    exact er_start M W _ ra
  refine h W H S _ _ (le_bot W) r er _ ?_
  unfold defM at q
  obtain ⟨_, q⟩ := ite_post q
  cases e : body (envOf len xs) S with
  | rt p S' =>
    rw [e] at q
    dsimp only at q
    cases keep with
    | true => exact q
    | false => exact give_ok r q
  | nx ε' S' =>
    rw [e] at q
    dsimp only at q
    refine fun σ' W' H' g r' er' => ?_
    cases keep with
    | true => exact q .non W' H' g r' .non
    | false => exact give_ok r q .non W' H' g r' .non
  | ex c ys ε' S' =>
    rw [e] at q
    dsimp only at q
    refine fun d σ' W' H' g r' er' xd => ?_
    unfold giveX at q
    split at q
    · rename_i zs T ez
      cases d with
      | none =>
        obtain ⟨rfl, h0⟩ := xd
        obtain ⟨W2, g2, r2, ra2, le2, _⟩ := leave_rp r' r.len g .nil ez
        cases ra2
        exact q none W2 H' g2 r2 ⟨rfl, h0⟩
      | some dx =>
        obtain ⟨h0, us, b1, b2, b3⟩ := xd
        obtain ⟨W2, g2, r2, ra2, le2, _⟩ := leave_rp r' r.len g b3 ez
        exact q (some dx) W2 H' g2 r2 ⟨h0, us, le2.b _ _ b1, b2, ra2⟩
    · exact q.elim
  | bk => rw [e] at q; exact q.elim
  | ct => rw [e] at q; exact q.elim
  | stuck => rw [e] at q; exact q.elim
/-- a def that lets no error out -/
theorem def_ok0 {N : List Str} {keep : Bool} {n len : Nat} {body : Env → Sta → Flow} {t : TS} {vs : List V} {Q : VK} {E : XK} (hlen : N.length = len) (h : RS M ⟨fun _ => none, []⟩ (fun _ _ _ _ => False) t body) (sp : spM M (calmF (defM keep n len body)) vs H Q E) : t { nx := fun _ H' => Q .non H', rt := Q } (L2.start N vs) H := by
  obtain ⟨W, S, xs, r, ra, q⟩ := sp
  refine def_ok (keep := keep) (n := n) (E := fun _ _ _ => False) hlen h ⟨W, S, xs, r, ra, ?_⟩
  exact (calm_post q).mono (fun _ _ z => z) fun _ _ _ z => z.elim
theorem calm_any {o : Out PV} {A : PV → Sta → Prop} {E E' : String → List PV → Sta → Prop} (h : OPost (calm o) A E) : OPost (calm o) A E' := by
  cases o with
  | ok a S => exact h
  | ex => exact h.elim
  | stuck => exact h.elim
theorem re_call0 {f : FC} {dvs : List V} {dps : List PV} {E : XK} (h : RA M W0 X ts ms) (hd : ∀ W, RpA M W dvs dps) : RE M W0 X (tCall (spM M (calmF f)) dvs E ts) (CallE (calmF f) dps ms) := fun W H S σ ε le r0 er Q q =>
  h.thn (.refl W H) le r0 er q fun vs xs S1 W1 H1 g1 r1 p1 q1 => ⟨W1, S1, xs ++ dps, r1, rpa_app p1 (hd _), OPost.mono (calm_any (E' := exE M W1 H1 E) q1) (fun a S' q => okG.up q g1) fun c ys S' z => z⟩
theorem sub_one {K : PySem.W.Frag} {AD : String → Addr} {C : String} {cl : Value} (h : PySem.W.exmOne K (.ref (AD C)) cl = some true) : ∀ c b, (if c = C then some true else none) = some b → PySem.W.exmOne K (.ref (AD c)) cl = some b := fun c b e => by
  obtain ⟨rfl, rfl⟩ := ite_some e
  exact h
def isC (C : String) : String → Option Bool := fun c => if c = C then some true else none
end
end Fx
namespace Fx
open PySem PySem.Spec PyProof.Rows L2 Co
section
variable {M : Md} {W W' Wa W0 W1 : Wd} {H H' Ha H1 : Hp} {S S' : Sta} {σ : L2.St} {ε : Env} {X : WX}
variable {ta tb tc te : TE} {ma mb mc me : Env → Sta → Out PV} {tt uu : TT} {mt mu : Env → Sta → Out Bool} {ts tr : TA} {ms mr : Env → Sta → Out (List PV)}
/-! ### enumerate over zip -/
def enumIt (it : IT) : IT := ⟨it.xs.zipIdx.map fun q => .tup [.int (q.2 : Int), q.1], it.pins⟩
theorem walk_enumZ {k m : Bool} {a b : Addr} {i1 i2 : IT} (h1 : Holds M k a i1 W) (h2 : Holds M m b i2 W) : Walk M W (ItEZ M.K k m a b) (enumIt (zipIt i1 i2)) := fun W2 H2 S2 i l r pn => by
  obtain ⟨us, a1, a2⟩ := h1 W2 H2 S2 l r fun q hq => pn q (List.mem_append_left _ hq)
  obtain ⟨ws, b1, b2⟩ := h2 W2 H2 S2 l r fun q hq => pn q (List.mem_append_right _ hq)
  have la := rpa_len a2
  have lb := rpa_len b2
  refine ⟨fun p hp => ?_, fun hi => ?_⟩
  · simp only [enumIt, zipIt, List.getElem?_map, List.getElem?_zipIdx] at hp
    obtain ⟨q, e0, rfl⟩ := Option.map_eq_some_iff.mp hp
    obtain ⟨q', e1', rfl⟩ := Option.map_eq_some_iff.mp e0
    obtain ⟨⟨x, y⟩, e1, rfl⟩ := Option.map_eq_some_iff.mp e1'
    rw [List.getElem?_zip_eq_some] at e1
    obtain ⟨u, c1, c2⟩ := rpa_get a2 e1.1
    obtain ⟨w, d1, d2⟩ := rpa_get b2 e1.2
    refine ⟨⟨us, ws, u, w, a1, b1, c1, d1⟩, ?_⟩
    rintro v H3 ⟨T, U, x', y', rfl, hT, hU, rfl, f1, f2⟩
    have z1 := f1 us a1
    have z2 := f2 ws b1
    rw [c1] at z1
    rw [d1] at z2
    cases z1
    cases z2
    obtain ⟨r3, g3⟩ := r.new (o := .tup [u, w]) hT
    obtain ⟨r4, g4⟩ := r3.new (o := .tup [.int (i : Nat), .ref T]) hU
    have p3 : Rp M ⟨upd W2.B T (.tup [u, w]), W2.ρ⟩ (.ref T) (.tup [x, y]) := .tup (.inl (.inl upd_same)) (.cons (rp_up g3.le _ _ c2) (.cons (rp_up g3.le _ _ d2) .nil))
    refine ⟨_, g3.trans g4, r4, .tup (.inl (.inl upd_same)) (.cons ?_ (.cons (rp_up g4.le _ _ p3) .nil))⟩
    rw [Nat.zero_add]
    exact .int _
  · simp [enumIt, zipIt] at hi
    exact ⟨us, ws, a1, b1, by omega, by omega, by omega⟩
def EnumZI (ms : Env → Sta → Out (List PV)) : Env → Sta → Out IT := fun ε S => (ms ε S).bind fun xs S1 => match xs with
  | [x, y] => match seqIt S1 x, seqIt S1 y with
    | some (_, i1), some (_, i2) => .ok (enumIt (zipIt i1 i2)) S1
    | _, _ => .stuck
  | _ => .stuck
theorem ri_enumZ (h : RA M W0 X ts ms) : RI M W0 X (iEZ M.K ts) (EnumZI ms) := fun W H S σ ε le r0 er Q q =>
  h.thn (.refl W H) le r0 er q fun vs xs S1 W1 H1 g1 r1 p1 q1 => by
    split at q1
    · rename_i x y
      obtain ⟨v, w, rfl, hv, hw⟩ := rpa2 p1
      split at q1
      · rename_i k i1 m i2 e1 e2
        obtain ⟨a, rfl, ha⟩ := holds_of r1 hv e1
        obtain ⟨b, rfl, hb⟩ := holds_of r1 hw e2
        obtain ⟨us, a1, a2⟩ := ha W1 H1 S1 (Le.refl _) r1 (nopin (v := .non) r1 e1)
        obtain ⟨ws, b1, b2⟩ := hb W1 H1 S1 (Le.refl _) r1 (nopin (v := .non) r1 e2)
        exact ⟨a, b, us, ws, k, m, rfl, a1, b1, q1 _ W1 H1 g1 r1 (walk_enumZ ha hb)⟩
      · exact q1.elim
    · exact q1.elim
/-! ### instances -/
def zlook (f : Str) : List Str → List PV → Option PV
  | n :: ns, x :: xs => if f = n then some x else zlook f ns xs
  | _, _ => none
theorem zlook_ok {f : Str} {p : PV} : ∀ {ns : List Str} {vs : List V} {xs : List PV}, RpA M W vs xs → zlook f ns xs = some p → ∃ v, (ns.zip vs).lookup f = some v ∧ Rp M W v p
  | [], _, xs, _, e => by cases xs <;> cases e
  | n :: ns, vs, xs, h, e => by
    cases h with
    | nil => cases e
    | @cons v vs x xs h1 h2 =>
      unfold zlook at e
      by_cases z : f = n
      · rw [if_pos z] at e
        cases e
        subst z
        exact ⟨v, by simp [List.lookup], h1⟩
      · rw [if_neg z] at e
        obtain ⟨w, a, b⟩ := zlook_ok h2 e
        refine ⟨w, ?_, b⟩
        have nb : (f == n) = false := by simpa using z
        rw [List.zip_cons_cons, List.lookup_cons, nb]
        exact a
def zput (f : Str) (p : PV) : List Str → List PV → List Str × List PV
  | n :: ns, x :: xs => if n = f then (n :: ns, p :: xs) else (n :: (zput f p ns xs).1, x :: (zput f p ns xs).2)
  | _, _ => ([f], [p])
theorem zput_ok {f : Str} {p : PV} {v : V} (hp : Rp M W v p) : ∀ {ns : List Str} {vs : List V} {xs : List PV}, ns.length = xs.length → RpA M W vs xs →
    ∃ ws, putF f v (ns.zip vs) = (zput f p ns xs).1.zip ws ∧ RpA M W ws (zput f p ns xs).2 ∧ (zput f p ns xs).1.length = (zput f p ns xs).2.length
  | [], _, xs, hl, h => by
    cases xs with
    | nil => cases h; exact ⟨[v], rfl, .cons hp .nil, rfl⟩
    | cons => cases hl
  | n :: ns, vs, xs, hl, h => by
    cases h with
    | nil => cases hl
    | @cons v' vs x xs h1 h2 =>
      unfold zput
      by_cases z : n = f
      · rw [if_pos z]
        refine ⟨v :: vs, ?_, .cons hp h2, hl⟩
        subst z
        simp [putF]
      · rw [if_neg z]
        obtain ⟨ws, a, b, c⟩ := zput_ok (f := f) hp (ns := ns) (by simpa using hl) h2
        refine ⟨v' :: ws, ?_, .cons h1 b, by simp [c]⟩
        rw [List.zip_cons_cons, List.zip_cons_cons]
        unfold putF
        rw [if_neg z, a]
def objOf (S : Sta) : PV → Option (String × List Str × List PV)
  | .obj c ns xs => some (c, ns, xs)
  | .mu n => match S[n]? with
    | some (.obj c ns xs) => some (c, ns, xs)
    | _ => none
  | _ => none
theorem objOf_ok (r : Rel M W H S) {v : V} {p : PV} {c : String} {ns : List Str} {xs : List PV} (h : Rp M W v p) (he : M.er c = false) (e : objOf S p = some (c, ns, xs)) : ∃ a dx vs, v = .ref a ∧ H a = some (.ins (M.AD c) dx (ns.zip vs)) ∧ ns.length = xs.length ∧ RpA M W vs xs := by
  cases h <;> first | (cases e; done) | skip
  · rename_i h1 h3 h4
    cases e
    rcases h1 with ⟨_, dx, h1, _⟩ | ⟨h0, _⟩
    · exact ⟨_, _, _, rfl, r.i _ _ h1, h3, h4⟩
    · rw [he] at h0; cases h0
  · rename_i n a hm
    unfold objOf at e
    dsimp only at e
    split at e
    · rename_i c' ns' xs' es
      cases e
      obtain ⟨_, _, l, dx, vs, h1, _, h3⟩ := r.c n a _ hm es
      exact ⟨a, dx, vs, rfl, h1, l, h3⟩
    · cases e
/-- e.f, e being an instance of one of the classes cs -/
def FldE (cs : List String) (f : Str) (me : Env → Sta → Out PV) : Env → Sta → Out PV := fun ε S => (me ε S).bind fun p S1 => match objOf S1 p with
  | some (c, ns, xs) => if c ∈ cs then lift (zlook f ns xs) S1 else .stuck
  | none => .stuck
def Flds (M : Md) (cs : List String) (f : Str) : Prop := ∀ c ∈ cs, M.er c = false ∧ Cls M.K (M.AD c) ∧ NoAttr M.K (M.AD c) f
theorem re_fld {cs : List String} {f : Str} (h : RE M W0 X te me) (hc : Flds M cs f) : RE M W0 X (tFld M.K te f) (FldE cs f me) := fun W H S σ ε le r0 er Q q =>
  h.thn (.refl W H) le r0 er q fun v p S1 W1 H1 g1 r1 p1 q1 => by
    split at q1
    · rename_i c ns xs e
      obtain ⟨hm, q2⟩ := ite_post q1
      obtain ⟨a, dx, vs, rfl, h1, h2, h3⟩ := objOf_ok r1 p1 (hc c hm).1 e
      obtain ⟨x, ex, q3⟩ := opost_lift q2
      obtain ⟨w, b1, b2⟩ := zlook_ok h3 ex
      exact ⟨a, _, dx, _, w, rfl, h1, (hc c hm).2.1, (hc c hm).2.2, b1, q3 w W1 H1 g1 r1 b2⟩
    · exact q1.elim
/-- e.f = value -/
def putO (S : Sta) (cs : List String) (f : Str) (o p : PV) : Option Sta := match o with
  | .mu n => match S[n]? with
    | some (.obj c ns xs) => if c ∈ cs ∧ ns.length < 900 then some (S.set n (.obj c (zput f p ns xs).1 (zput f p ns xs).2)) else none
    | _ => none
  | _ => none
def SetFS (cs : List String) (f : Str) (mo me : Env → Sta → Out PV) : Env → Sta → Flow := fun ε S => (me ε S).flow ε fun p S1 => (mo ε S1).flow ε fun o S2 => match putO S2 cs f o p with
  | some S3 => .nx ε S3
  | none => .stuck
theorem rs_fld {cs : List String} {f : Str} (ho : RE M W0 X ta ma) (h : RE M W0 X te me) (hc : Flds M cs f) : RS M W0 X (sFld M.K ta te f) (SetFS cs f ma me) := fun W H S σ ε le r er D q =>
  h.thnS (.refl W H) le r er q fun v p S1 W1 H1 g1 r1 p1 q1 => ho.thnS g1 le r1 er q1 fun u o S2 W2 H2 g2 r2 p2 q2 => by
    split at q2
    · rename_i S3 e
      unfold putO at e
      split at e
      · rename_i n
        split at e
        · rename_i c ns xs es
          obtain ⟨⟨hm, hl⟩, e⟩ := ite_some e
          subst e
          cases p2 with
          | @mu _ a hm2 =>
            obtain ⟨nb, ec, l, dx, vs, h1, h2, h3⟩ := r2.c n a _ hm2 es
            obtain ⟨ws, b1, b2, b3⟩ := zput_ok (f := f) (rp_up g2.le _ _ p1) l h3
            have hz : (ns.zip vs).length < 1000 := by
              rw [List.length_zip]
              have := Nat.min_le_left ns.length vs.length
              omega
            refine ⟨a, _, dx, _, rfl, h1, (hc c hm).2.1, (hc c hm).2.2, hz, ?_⟩
            rw [b1]
            obtain ⟨r3, g3⟩ := r2.put (o := .ins (M.AD c) dx ((zput f p ns xs).1.zip ws)) (c := .obj c (zput f p ns xs).1 (zput f p ns xs).2) hm2 nb ⟨nb, ec, b3, dx, ws, upd_same, h2, b2⟩
            exact q2 σ W2 _ ((g1.trans g2).trans g3) r3 (er.up ((g1.trans g2).trans g3).le)
        · cases e
      · cases e
    · exact q2.elim
/-- C(..): made and filled, it changes no more -/
def mkO (c : String) (f : FC) (xs : List PV) (S : Sta) : Out PV := match f (.mu S.length :: xs) (S ++ [.obj c [] []]) with
  | .ok .non S2 => give S.length (.mu S.length) S2
  | .ex d ys S2 => giveX S.length d ys S2
  | _ => .stuck
def MakeE (c : String) (f : FC) (dps : List PV) (ms : Env → Sta → Out (List PV)) : Env → Sta → Out PV := fun ε S => (ms ε S).bind fun xs S1 => mkO c f (xs ++ dps) S1
theorem mkO_ok {c : String} {f : FC} {xs : List PV} {vs : List V} {Q : VK} {E : XK} (he : M.er c = false) (r : Rel M W H S) (ra : RpA M W vs xs) (q : OPost (mkO c f xs S) (okG Rp M W H Q) (exE M W H E)) :
    ∀ x dx, H x = none → H dx = none → dx ≠ x → spM M f (.ref x :: vs) (upd (upd H dx (.own x)) x (.ins (M.AD c) dx [])) (fun v H2 => v = .non ∧ Q (.ref x) H2) E := fun x dx hx hdx hne => by
  obtain ⟨r1, g1⟩ := r.new (o := .own x) hdx
  have hx1 : upd H dx (.own x) x = none := by rw [upd_ne (Ne.symm hne)]; exact hx
  obtain ⟨r2, g2⟩ := r1.cell (p := x) (o := .ins (M.AD c) dx []) (c := .obj c [] []) hx1 ⟨r1.none_b hx1, he, rfl, dx, [], upd_same, upd_same, .nil⟩
  have g := g1.trans g2
  have hn : (W.ρ ++ [Slot.own x])[S.length]? = some (.own x) := by rw [← r.len]; simp
  refine ⟨_, _, .mu S.length :: xs, r2, .cons (.mu hn) (rpa_up g.le _ _ ra), ?_⟩
  unfold mkO at q
  cases e : f (.mu S.length :: xs) (S ++ [.obj c [] []]) with
  | ok p S2 =>
    rw [e] at q
    intro v W' H' g' r' rp
    have gg := g.trans g'
    cases p <;> first | exact q.elim | skip
    cases rp
    exact ⟨rfl, give_ok r q (.ref x) W' H' gg r' (.mu (pre_get g'.ρ hn))⟩
  | ex d ys S2 =>
    rw [e] at q
    intro dd W' H' g' r' xd
    have gg := g.trans g'
    dsimp only at q
    unfold giveX at q
    split at q
    · rename_i zs T ez
      cases dd with
      | none =>
        obtain ⟨rfl, h0⟩ := xd
        obtain ⟨W3, g3, r3, ra3, le3, _⟩ := leave_rp r' r.len gg .nil ez
        cases ra3
        exact q none W3 H' g3 r3 ⟨rfl, h0⟩
      | some dx' =>
        obtain ⟨h0, us, b1, b2, b3⟩ := xd
        obtain ⟨W3, g3, r3, ra3, le3, _⟩ := leave_rp r' r.len gg b3 ez
        exact q (some dx') W3 H' g3 r3 ⟨h0, us, le3.b _ _ b1, b2, ra3⟩
    · exact q.elim
  | stuck => rw [e] at q; exact q.elim
theorem re_make {c : String} {f : FC} {dvs : List V} {dps : List PV} {E : XK} (he : M.er c = false) (h : RA M W0 (fun cls d _ H => E cls d H) ts ms) (hd : ∀ W, RpA M W dvs dps) : RE M W0 (fun cls d _ H => E cls d H) (tMake (M.AD c) (spM M f) dvs E ts) (MakeE c f dps ms) := fun W H S σ ε le r0 er Q q =>
  h.thn (.refl W H) le r0 er q fun vs xs S1 W1 H1 g1 r1 p1 q1 => mkO_ok he r1 (rpa_app p1 (hd _)) (q1.mono (fun a S' q => okG.up q g1) fun c ys S' z => exE.up z g1)
theorem re_make0 {c : String} {f : FC} {dvs : List V} {dps : List PV} {E : XK} (he : M.er c = false) (h : RA M W0 X ts ms) (hd : ∀ W, RpA M W dvs dps) : RE M W0 X (tMake (M.AD c) (spM M (calmF f)) dvs E ts) (MakeE c (calmF f) dps ms) := fun W H S σ ε le r0 er Q q =>
  h.thn (.refl W H) le r0 er q fun vs xs S1 W1 H1 g1 r1 p1 q1 => mkO_ok (E := E) he r1 (rpa_app p1 (hd _)) (by
    have key : ∀ {o : Out PV}, OPost (match calm o with
        | .ok .non S2 => give S1.length (.mu S1.length) S2
        | .ex d ys S2 => giveX S1.length d ys S2
        | _ => .stuck) (okG Rp M W H Q) (exE M W H (atσ X σ)) → OPost (match calm o with
        | .ok .non S2 => give S1.length (.mu S1.length) S2
        | .ex d ys S2 => giveX S1.length d ys S2
        | _ => .stuck) (okG Rp M W1 H1 Q) (exE M W1 H1 E) := fun {o} z => by
      cases o with
      | ok p S2 =>
        cases p <;> first | exact z.elim | skip
        unfold calm at z ⊢
        dsimp only at z ⊢
        unfold give at z ⊢
        split at z
        · exact okG.up z g1
        · exact z.elim
      | ex => exact z.elim
      | stuck => exact z.elim
    exact key q1)
/-- the same in a try -/
def tMakeS (C : Addr) (sp : Sp) (E : L2.St → XK) (t : TA) : TE := fun σ H Q => t σ H fun vs H1 => ∀ x dx, H1 x = none → H1 dx = none → dx ≠ x → sp (.ref x :: vs) (upd (upd H1 dx (.own x)) x (.ins C dx [])) (fun v H2 => v = .non ∧ Q (.ref x) H2) (E σ)
theorem re_makeS {c : String} {f : FC} (he : M.er c = false) (h : RA M W0 X ts ms) : RE M W0 X (tMakeS (M.AD c) (spM M f) (atσ X) ts) (MakeE c f [] ms) := fun W H S σ ε le r0 er Q q =>
  h.thn (.refl W H) le r0 er q fun vs xs S1 W1 H1 g1 r1 p1 q1 => mkO_ok he r1 p1 (by
    rw [List.append_nil] at q1
    exact q1.mono (fun a S' q => okG.up q g1) fun c ys S' z => exE.up z g1)
end
section
variable {X : Cx} {CX : CXT} {k : Nat} {f C : Addr} {fd : FuncData} {ps : List Str} {sp : Sp} {E : L2.St → XK} {x m : Str} {p pos apos : Pos} {e o : Expr} {es : List Expr} {ta : TE} {t : TA}
theorem pe_makeS (M : Mk X.K C f) (F : FnOk X.prog X.w X.K X.mg X.base CX k f fd ps sp) (hr : Room (k + 1) X.A) (hg : Gl X x) (hm : X.mg x = some (.ref C)) (hb : Binds X.K fd ps []) (hx : ∀ σ, PassesAt CX X σ (E σ))
    (ha : PA X (e :: es) t) (hdb : (x == ("__debug__" : Str)) = false := by decide) (he : starEach (e :: es) X.env = (false, eval e X.env) :: starEach es X.env := by rfl) (hpl : (backTo pos (starEach es X.env)).any (·.1) = false := by rfl) :
    PE X (.Call (.Name x p) (e :: es) [] pos) (tMakeS C sp E t) := by
  refine ⟨fun pins s σ H Q I h => ?_⟩
  refine wpAny_Call_Name_kw (ld_glob I hg hm (?_ : wpAny _ _ _ _ _ _) hdb)
  refine PySem.W.callWith_K (h₀ := X.base) I.ok.mod.kin M.kp (thn (ha.run pos pins s σ H _ I h) fun us s1 ⟨vs, H1, I1, r, q⟩ => ⟨I1.kIn, (?_ : wpAny _ _ _ _ _ _)⟩) he hpl
  have hq := q (s1.heap.objs.size + 1) s1.heap.objs.size (I1.hok.fresh (Nat.le_succ _)) (I1.hok.fresh (Nat.le_refl _)) (Nat.ne_of_lt (Nat.lt_succ_self _))
  have I2 := Inv.made (C := C) I1
  have r2 : Vals (V.ref (s1.heap.objs.size + 1) :: vs) (Value.ref (s1.heap.objs.size + 1) :: us) := .cons rfl r
  have hl : (Value.ref (s1.heap.objs.size + 1) :: us).length = ps.length := by
    have e := r2.length
    rw [F.len _ _ _ _ hq] at e
    exact e.symm
  have hbd := hb _ (Value.ref (s1.heap.objs.size + 1) :: us) I2.kIn (by rw [List.append_nil]; exact hl)
  rw [List.append_nil] at hbd
  refine wpAny_call (make_map (f := f) I1.kIn M.makes M.init (beq_iff_eq.mp M.fn) (codeAny_mono (F.run _ X.stack _ _ ⟨Value.ref (s1.heap.objs.size + 1) :: us, []⟩ (Value.ref (s1.heap.objs.size + 1) :: us) _ _ (E σ) (hr.make C us [])
    (I2.env0.make C us []) hbd r2 hq) fun r s' hq' => (?_ : _)))
  cases r with
  | error e => exact hx σ pins _ _ e s' I2 hq'
  | ok fl =>
    cases fl with
    | ret u =>
      obtain ⟨v, H', I3, rv, ev, q3⟩ := I2.after hq'
      subst ev
      exact ⟨rv, ⟨V.ref (s1.heap.objs.size + 1), H', I3, rfl, q3⟩⟩
    | next => exact False.elim hq'
    | brk => exact False.elim hq'
    | cont => exact False.elim hq'
end
end Fx
namespace Fx
open PySem PySem.Spec PyProof.Rows L2 Co
/-! ### isinstance of the error that was caught -/
def rIsX (K : PySem.W.Frag) (a : Addr) (cls : Value) (d : Option Addr) : List V → Hp → VK → Prop := fun xs H Q => ∃ (D : Addr) (c : V) (cv : Value) (b : Bool), xs = [.ref a, c] ∧ cls = .ref D ∧ ExcC K D ∧ (∀ dd, d = some dd → ∃ fs, H dd = some (.xd fs)) ∧ (∀ u, RelV c u → u = cv) ∧
  PySem.W.kitOne K (.ref D) cv = some b ∧ Q (.bl b) H
theorem call_isX {X : Cx} {a : Addr} {cls : Value} {d : Option Addr} {oe : Obj} {pn : List (Addr × Obj)} (hz : Zc cls d oe) (hf : ∃ vs, oe.data = .fields vs) : CallR (X.suite a ((a, oe) :: pn)) (.builtin "isinstance") (rIsX X.K a cls d) := by
  intro pins s σ H xs us Q I r h
  obtain ⟨D, c, cv, b, rfl, rfl, C, hdd, hcv, e, q⟩ := h
  cases r with
  | cons rx rr =>
    cases rr with
    | cons rt rr =>
      cases rr
      cases rx
      have ec := hcv _ rt
      subst ec
      obtain ⟨hget, _⟩ := I.pin (a, oe) (List.mem_append.mpr (.inl List.mem_cons_self))
      obtain ⟨vs, hv⟩ := hf
      obtain ⟨od, J⟩ : ∃ od, PySem.W.InstAt s.heap a oe D od := by
        have hno : PySem.W.notCls oe = true := by unfold PySem.W.notCls; rw [hv]
        cases d with
        | none => exact ⟨none, hget, hz.1, hno, by rw [hz.2]; trivial⟩
        | some dd =>
          obtain ⟨fs, hx⟩ := hdd dd rfl
          have hx' : ObjOk X.prog X.w H s.heap dd (.xd fs) := I.hok dd _ hx
          obtain ⟨mA, hns, _⟩ := hx'
          obtain ⟨od, ho, _⟩ := lookIn_ns hns
          exact ⟨some od, hget, hz.1, hno, by rw [hz.2]; exact ho⟩
      exact PySem.W.kia_one (PySem.W.kitx_exc (show (PySem.W.clsIn X.K D).isSome = true by
        have h5 := C.hd
        unfold PySem.W.hasDictIn at h5
        cases h6 : PySem.W.clsIn X.K D with
        | none => rw [h6] at h5; exact h5
        | some => rfl) C.hg C.hk C.hs C.ha C.hn C.ht C.hm) I.kIn J e (fun z => nomatch z) fun tk => ⟨.bl b, H, I.kept (t' := tk) fun _ _ z => z, rfl, q⟩
theorem kit_own {K : PySem.W.Frag} {t : Value} {C : Addr} (h2 : PySem.W.isClsIn K C = true) (h3 : PySem.W.typeIn K (.ref C) = some (.type "type")) (h4 : PySem.W.subIn K t (.ref C) = some true) : PySem.W.kitOne K t (.ref C) = some true := by
  have h5 : (PySem.W.clsIn K C).isSome = true := h2
  have a2 : ((PySem.W.clsIn K C).isSome && PySem.W.typeIn K (.ref C) == some (.type "type")) = true := by rw [h5, h3]; rfl
  unfold PySem.W.kitOne
  split
  · rfl
  · show (if ((PySem.W.clsIn K C).isSome && PySem.W.typeIn K (.ref C) == some (.type "type")) = true then PySem.W.subIn K t (.ref C) else none) = some true
    rw [a2]
    exact h4
theorem kit_bas {K : PySem.W.Frag} {D : Addr} {T : String} {b : Bool} (hm : PySem.W.kitMeta T = true) (h4 : PySem.W.subIn K (.ref D) (.type T) = some b) : PySem.W.kitOne K (.ref D) (.type T) = some b := by
  unfold PySem.W.kitOne
  rw [if_neg (show ¬ ((Value.ref D == Value.type T) = true) by intro h; cases h)]
  show (if PySem.W.kitMeta T = true then PySem.W.subIn K (.ref D) (.type T) else none) = some b
  rw [if_pos hm]
  exact h4
section
variable {M : Md} {W W' Wa W0 W1 : Wd} {H H' Ha H1 : Hp} {S S' : Sta} {σ : L2.St} {ε : Env} {X : WX}
variable {ta tb tc te : TE} {ma mb mc me : Env → Sta → Out PV} {tt uu : TT} {mt mu : Env → Sta → Out Bool} {ts tr : TA} {ms mr : Env → Sta → Out (List PV)}
def XiE (tab : String → Option Bool) (c : String) (n i : Nat) : Env → Sta → Out PV := fun ε S => match ε[i]? with
  | some (some (.xv n')) => if n' = n then (lift (tab c) S).bind fun b S => .ok (.bl b) S else .stuck
  | _ => .stuck
theorem re_xi {a : Addr} {d : Option Addr} {c : String} {xs : List PV} {W1 : Wd} {n i : Nat} {tab : String → Option Bool} {cv : V} {cu : Value} (hn : W1.ρ[n]? = some (.exc a)) (hx : Xd M W1 c xs d) (hu : ∀ u, RelV cv u → u = cu)
    (ht : ∀ c b, tab c = some b → ExcC M.K (M.AD c) ∧ PySem.W.kitOne M.K (.ref (M.AD c)) cu = some b) : RE M W1 X (tCB (rIsX M.K a (.ref (M.AD c)) d) (tCons (tVar i) (tCons (tC cv) tNil))) (XiE tab c n i) := fun W H S σ ε le r er Q q => by
  unfold XiE at q
  split at q
  · rename_i n' e
    obtain ⟨rfl, q2⟩ := ite_post q
    rw [opost_bind] at q2
    obtain ⟨b, eb, q3⟩ := opost_lift q2
    obtain ⟨v, h1, h2⟩ := er.get i _ e
    cases h2 with
    | xv hv =>
      rw [pre_get le.ρ hn] at hv
      cases hv
      refine ⟨_, h1, _, cv, cu, b, rfl, rfl, (ht c b eb).1, fun dd ed => ?_, hu, (ht c b eb).2, q3 _ W H (.refl W H) r (.bl b)⟩
      subst ed
      obtain ⟨_, vs, b1, _⟩ := hx
      exact ⟨_, r.i _ _ (le.b _ _ b1)⟩
  · exact q.elim
/-! ### a list so many times -/
def rep (n : Nat) (xs : List PV) : List PV := (List.replicate n xs).flatten
def lstOf (S : Sta) : PV → Option (List PV)
  | .lst xs => some xs
  | .mu n => match S[n]? with
    | some (.lst xs) => some xs
    | _ => none
  | _ => none
theorem lstOf_ok (r : Rel M W H S) {v : V} {p : PV} {xs : List PV} (h : Rp M W v p) (e : lstOf S p = some xs) : ∃ a vs, v = .ref a ∧ H a = some (.lst vs) ∧ RpA M W vs xs := by
  cases h <;> first | (cases e; done) | skip
  · rename_i h1 h2
    cases e
    exact ⟨_, _, rfl, r.i _ _ h1, h2⟩
  · rename_i n a hm
    unfold lstOf at e
    dsimp only at e
    split at e
    · rename_i ys es
      cases e
      obtain ⟨_, vs, h1, h3⟩ := r.c n a _ hm es
      exact ⟨a, vs, rfl, h1, h3⟩
    · cases e
theorem rpa_rep {vs : List V} {xs : List PV} (h : RpA M W vs xs) (n : Nat) : RpA M W (List.replicate n vs).flatten (rep n xs) := by
  induction n with
  | zero => exact .nil
  | succ n ih =>
    unfold rep at ih ⊢
    rw [List.replicate_succ, List.flatten_cons, List.replicate_succ, List.flatten_cons]
    exact rpa_app h ih
def fRep : F2 := fun S x y => match lstOf S x, y with
  | some xs, .int k => if -100000 ≤ k ∧ k ≤ 100000 ∧ xs.length * k.toNat ≤ 100000 then some (.lst (rep k.toNat xs)) else none
  | _, _ => none
theorem k_rep : K2 M rRep fRep := fun W H S u v x y p r hx hy e Q q => by
  unfold fRep at e
  split at e
  · rename_i xs k e1
    obtain ⟨⟨h1, h2, h3⟩, rfl⟩ := ite_some e
    obtain ⟨a, vs, rfl, ha, ra⟩ := lstOf_ok r hx e1
    cases hy
    have e2 : (2 : Int) ^ 63 = 9223372036854775808 := by decide
    exact ⟨a, k, vs, rfl, rfl, ha, by rw [e2]; omega, by rw [e2]; omega, big_ok (by rw [rpa_len ra]; exact h3), new_lst (.refl W H) r (rpa_rep ra _) q⟩
  · cases e
end
def isX (C : String) (b : Bool) : String → Option Bool := fun c => if c = C then some b else none
theorem isx_ok {K : PySem.W.Frag} {AD : String → Addr} {C : String} {cu : Value} {b : Bool} (h1 : ExcC K (AD C)) (h2 : PySem.W.kitOne K (.ref (AD C)) cu = some b) : ∀ c b', isX C b c = some b' → ExcC K (AD c) ∧ PySem.W.kitOne K (.ref (AD c)) cu = some b' := fun c b' e => by
  unfold isX at e
  obtain ⟨rfl, rfl⟩ := ite_some e
  exact ⟨h1, h2⟩
theorem flds_nil {M : Md} {f : Str} : Flds M [] f := fun c h => by cases h
theorem flds_cons {M : Md} {c : String} {cs : List String} {f : Str} (h0 : M.er c = false) (h1 : Cls M.K (M.AD c)) (h2 : NoAttr M.K (M.AD c) f) (h : Flds M cs f) : Flds M (c :: cs) f := fun d hd => by
  rcases List.mem_cons.mp hd with rfl | hd
  · exact ⟨h0, h1, h2⟩
  · exact h d hd
/-- the second field and those behind it -/
theorem ini_put {H : Hp} {a C dx : Addr} {fs gs : List (Str × V)} (ne : dx ≠ a) : upd (upd (upd H dx (exd dx fs)) a (exo a C (some dx))) dx (exd dx gs) = upd (upd H dx (exd dx gs)) a (exo a C (some dx)) := by
  funext b
  by_cases z : b = dx
  · subst z; rw [upd_same, upd_ne ne, upd_same]
  · rw [upd_ne z]
    by_cases y : b = a
    · subst y; rw [upd_same, upd_same]
    · rw [upd_ne y, upd_ne y, upd_ne z, upd_ne z]
end Fx
namespace Fx
open PySem PySem.Spec PyProof.Rows L2 Co
/-! ### own errors held as values -/
def tMkV (C : Addr) (sp : Sp) (t : TA) : TE := fun σ H Q => t σ H fun vs H1 => vs.length ≤ 1000 ∧ ∀ a, H1 a = none → sp (.ref a :: vs) (upd H1 a (exo a C none)) (fun v H2 => v = .non ∧ Q (.ref a) H2) (fun _ _ _ => False)
def tMkV0 (C : Addr) : TE := fun _ H Q => ∀ a, H a = none → Q (.ref a) (upd H a (exo a C none))
def tXv (K : PySem.W.Frag) (te : TE) (f : Str) : TE := fun σ H Q => te σ H fun x H1 => ∃ (a C dx : Addr) (fs : List (Str × V)) (v : V), x = .ref a ∧ H1 a = some (exo a C (some dx)) ∧ H1 dx = some (exd dx fs) ∧ XfC K C ∧ PySem.W.findIn K (.ref C) f = some none ∧ fs.lookup f = some v ∧ Q v H1
def rIsV (K : PySem.W.Frag) : List V → Hp → VK → Prop := fun xs H Q => ∃ (a D : Addr) (d : Option Addr) (c : V) (cv : Value) (b : Bool), xs = [.ref a, c] ∧ H a = some (exo a D d) ∧ (∀ dd, d = some dd → ∃ fs, H dd = some (exd dd fs)) ∧ ExcC K D ∧ (∀ u, RelV c u → u = cv) ∧
  PySem.W.kitOne K (.ref D) cv = some b ∧ Q (.bl b) H
section
variable {X : Cx} {CX : CXT} {k : Nat} {fI C : Addr} {fd : FuncData} {ps : List Str} {sp : Sp} {x : Str} {p pos : Pos} {e : Expr} {es : List Expr} {ta te : TE} {t : TA}
theorem pe_oexv (T : OexC X.K C) (iC : PySem.W.findIn X.K (.ref C) "__init__" = some (some (.ref fI))) (tI : PySem.W.typeIn X.K (.ref fI) = some (.type "function"))
    (F1 : FnOk X.prog X.w X.K X.mg X.base CX k fI fd ps sp) (hr : Room (k + 1) X.A) (hb : Binds X.K fd ps []) (hx : Passes CX X (fun _ _ _ => False)) (hg : Gl X x) (hm : X.mg x = some (.ref C)) (ha : PA X (e :: es) t)
    (hdb : (x == ("__debug__" : Str)) = false := by decide) (he : starEach (e :: es) X.env = (false, eval e X.env) :: starEach es X.env := by rfl) (hpl : (backTo pos (starEach es X.env)).any (·.1) = false := by rfl) :
    PE X (.Call (.Name x p) (e :: es) [] pos) (tMkV C sp t) := by
  refine ⟨fun pins s σ H Q I h => ?_⟩
  obtain ⟨nm, q, N, bs, bm, sn, sub, ab, col, dd, k0, k1, k2, k3, k5, hC, hbm⟩ := T.cls
  refine wpAny_Call_Name_kw (ld_glob I hg hm (?_ : wpAny _ _ _ _ _ _) hdb)
  refine PySem.W.callWith_K (h₀ := X.base) I.ok.mod.kin T.kC (thn (ha.run pos pins s σ H _ I h) fun us s1 ⟨vs, H1, I1, r1, hz, q1⟩ => ⟨I1.kIn, (?_ : wpAny _ _ _ _ _ _)⟩) he hpl
  show wpAny _ _ (call (.ref C) us) _ _ _
  obtain ⟨hp, gs, dr, tk, oss⟩ := s1
  have lsz : hp.objs.size ≤ hp.objs.size + 1 := Nat.le_succ _
  have hq := q1 (hp.objs.size + 1) (I1.hok.fresh lsz)
  have kk : ∀ b o, hp.get? b = some o → ((hp.push (PySem.W.kdv_tup us)).push (PySem.HandSPX.excO C hp.objs.size)).get? b = some o := fun b o e => Heap.get?_push_of_some _ (Heap.get?_push_of_some _ e)
  have hgt : ((hp.push (PySem.W.kdv_tup us)).push (PySem.HandSPX.excO C hp.objs.size)).get? (hp.objs.size + 1) = some (PySem.HandSPX.excO C hp.objs.size) := by heap_get
  have I2 : Inv X pins σ (upd H1 (hp.objs.size + 1) (exo (hp.objs.size + 1) C none)) ⟨(hp.push (PySem.W.kdv_tup us)).push (PySem.HandSPX.excO C hp.objs.size), gs, dr, tk, oss⟩ :=
    I1.laid (t' := tk) (a := hp.objs.size + 1) (o := exo (hp.objs.size + 1) C none) (h' := (hp.push (PySem.W.kdv_tup us)).push (PySem.HandSPX.excO C hp.objs.size)) kk lsz (exo_ok hgt)
  have r2 : Vals (V.ref (hp.objs.size + 1) :: vs) (Value.ref (hp.objs.size + 1) :: us) := .cons rfl r1
  have hl : (Value.ref (hp.objs.size + 1) :: us).length = ps.length := by
    have e := r2.length
    rw [F1.len _ _ _ _ hq] at e
    exact e.symm
  have lus : us.length ≤ sizeLine := by
    rw [← Paired.length r1, sizeLine_eq]
    omega
  have hbd := hb _ (Value.ref (hp.objs.size + 1) :: us) I2.kIn (by rw [List.append_nil]; exact hl)
  rw [List.append_nil] at hbd
  refine wpAny_call (PySem.HandSPX.call_own F.excBase_ValueError (fun Y => PySem.HandSPX.refsVE_contains Y bm hbm) (I1.kIn _ _ hC) (PySem.W.looks_findIn I1.kIn iC) (fun self => PySem.W.bind_fn I1.kIn self tI) lus
    (codeAny_mono (F1.run _ X.stack _ _ ⟨Value.ref (hp.objs.size + 1) :: us, []⟩ (Value.ref (hp.objs.size + 1) :: us) _ _ (fun _ _ _ => False) (hr.make C us []) (I2.env0.make C us []) hbd r2 hq) fun r s' hq' => (?_ : _)))
  cases r with
  | error er => exact hx pins σ _ _ er s' I2 hq'
  | ok fl =>
    cases fl with
    | ret u =>
      obtain ⟨v, H', I3, rv, ev, q3⟩ := I2.after hq'
      subst ev
      exact ⟨rv, ⟨V.ref (hp.objs.size + 1), H', I3, rfl, q3⟩⟩
    | next => exact False.elim hq'
    | brk => exact False.elim hq'
    | cont => exact False.elim hq'
theorem pe_oex0 {bmB : List Value} {B newId initId : String} (F : ExcBaseFacts B newId initId bmB) (q : PySem.W.excIn X.K C bmB newId = true) (gC : X.mg x = some (.ref C)) (kC : PySem.W.keepIn X.K (.ref C) = true)
    (hg : Gl X x) (hdb : (x == ("__debug__" : Str)) = false := by decide) : PE X (.Call (.Name x p) [] [] pos) (tMkV0 C) := by
  refine ⟨fun pins s σ H Q I h => ?_⟩
  refine wpAny_Call_Name_kw (ld_glob I hg gC (PySem.W.callWith_K0 I.kIn kC ?_) hdb)
  obtain ⟨bm, N, nm, qn, bs, hdct, sn, sub, ab, col, dd, k0, k1, k2, k3, k5, mN, hC, hN, hni, T⟩ := exc_obj I.kIn q
  refine wpAny_call_exc_subT F T hC hN hni (fun h' a hm => ?_) (Nat.zero_le _)
  have hn : H a = none := I.hok.gone hm.new
  obtain ⟨t0, ht, _, _⟩ := hm.there
  exact ⟨.ref a, upd H a (exo a C none), I.laidN hm.keeps hm.new hn (exo_ok ht), rfl, h a hn⟩
theorem pe_xv {f : Str} (he : PE X e te) (hb : attributeBase e f X.env (eval e X.env) = eval e X.env) : PE X (.Attribute e f pos) (tXv X.K te f) := by
  refine ⟨fun pins s σ H Q I h => ?_⟩
  refine attr_of hb (thn (he.run pins s σ H _ I h) fun u s1 hh => ?_)
  obtain ⟨y, H1, I1, rx, a, D, dd, fs, v, ex, ea, ed, T, hno, l, q⟩ := hh
  subst ex
  obtain rfl : u = Value.ref a := rx
  obtain ⟨t0, hoe⟩ := exo_at I1.hok ea
  obtain ⟨mA, hns, hr⟩ := exd_at I1.hok ed
  obtain ⟨od, ho, hl⟩ := lookIn_ns hns
  obtain ⟨u, hu, ru⟩ := RelO.some_of (v := v) (o := mA f) (by rw [← l]; exact hr f)
  have J : PySem.W.InstAt s1.heap a _ D (some od) := ⟨hoe, rfl, rfl, ho⟩
  exact HandSPX.exc_get I1.kIn J T.ga T.gg T.exC (PySem.W.findObj_own T.hdC hno rfl (by rw [hl, hu])) (handed_of ru) ⟨v, H1, I1.tok _, ru, q⟩
theorem call_isV : CallR X (.builtin "isinstance") (rIsV X.K) := by
  intro pins s σ H xs us Q I r h
  obtain ⟨a, D, d, c, cv, b, rfl, ha, hdd, C, hcv, e, q⟩ := h
  cases r with
  | cons rx rr =>
    cases rr with
    | cons rt rr =>
      cases rr
      cases rx
      have ec := hcv _ rt
      subst ec
      obtain ⟨t0, hoe⟩ := exo_at I.hok ha
      obtain ⟨od, J⟩ : ∃ od, PySem.W.InstAt s.heap a { cls := .ref D, dict := d, data := .fields #[.ref t0, .none, .none, .none, .bool false, .none] } D od := by
        cases d with
        | none => exact ⟨none, hoe, rfl, rfl, trivial⟩
        | some dd =>
          obtain ⟨fs, hx⟩ := hdd dd rfl
          obtain ⟨mA, hns, _⟩ := exd_at I.hok hx
          obtain ⟨od, ho, _⟩ := lookIn_ns hns
          exact ⟨some od, hoe, rfl, rfl, ho⟩
      exact PySem.W.kia_one (PySem.W.kitx_exc (show (PySem.W.clsIn X.K D).isSome = true by
        have h5 := C.hd
        unfold PySem.W.hasDictIn at h5
        cases h6 : PySem.W.clsIn X.K D with
        | none => rw [h6] at h5; exact h5
        | some => rfl) C.hg C.hk C.hs C.ha C.hn C.ht C.hm) I.kIn J e (fun z => nomatch z) fun tk => ⟨.bl b, H, I.kept (t' := tk) fun _ _ z => z, rfl, q⟩
end
section
variable {M : Md} {W W' Wa W0 W1 : Wd} {H H' Ha H1 : Hp} {S S' : Sta} {σ : L2.St} {ε : Env} {X : WX}
variable {ta tb tc te : TE} {ma mb mc me : Env → Sta → Out PV} {ts tr : TA} {ms mr : Env → Sta → Out (List PV)}
def NewXE (c : String) (names : List Str) (ms : Env → Sta → Out (List PV)) : Env → Sta → Out PV := fun ε S => (ms ε S).bind fun xs S1 => if xs.length = names.length then .ok (.obj c names xs) S1 else .stuck
def NewX0E (c : String) : Env → Sta → Out PV := fun _ S => .ok (.obj c [] []) S
theorem re_newx0 {c : String} (hn : M.fl c = []) (he : M.er c = true) : RE M W0 X (tMkV0 (M.AD c)) (NewX0E c) := fun W H S σ ε le r er Q q a ha => by
  obtain ⟨r2, g2⟩ := r.new (o := exo a (M.AD c) none) ha
  exact q _ _ _ g2 r2 (.obj (vs := []) (.inr ⟨he, hn.symm, .inl ⟨rfl, upd_same⟩⟩) rfl .nil)
theorem re_newx {c : String} {names : List Str} (h : RA M W0 X ts ms) (hn : M.fl c = names) (he : M.er c = true) (hz : names.length ≤ 1000) (h0 : names ≠ []) : RE M W0 X (tMkV (M.AD c) (spIni (M.AD c) names) ts) (NewXE c names ms) := fun W H S σ ε le r0 er Q q =>
  h.thn (.refl W H) le r0 er q fun vs xs S1 W1 H1 g1 r1 p1 q1 => by
    obtain ⟨hl, q2⟩ := ite_post q1
    have lw := rpa_len p1
    refine ⟨by omega, fun a ha => ⟨a, vs, rfl, by omega, upd_same, fun dx hdx hne => ⟨rfl, ?_⟩⟩⟩
    have hd1 : H1 dx = none := by rw [upd_ne hne] at hdx; exact hdx
    have hH : upd (upd (upd H1 a (exo a (M.AD c) none)) dx (exd dx (names.zip vs).reverse)) a (exo a (M.AD c) (some dx)) = upd (upd H1 dx (exd dx (names.zip vs).reverse)) a (exo a (M.AD c) (some dx)) := by
      funext b
      by_cases y : b = a
      · subst y; rw [upd_same, upd_same]
      · rw [upd_ne y, upd_ne y]
        by_cases z : b = dx
        · subst z; rw [upd_same, upd_same]
        · rw [upd_ne z, upd_ne y, upd_ne z]
    rw [hH]
    obtain ⟨r2, g2⟩ := r1.new (o := exd dx (names.zip vs).reverse) hd1
    have ha2 : upd H1 dx (exd dx (names.zip vs).reverse) a = none := by rw [upd_ne (Ne.symm hne)]; exact ha
    obtain ⟨r3, g3⟩ := r2.new (o := exo a (M.AD c) (some dx)) ha2
    refine q2 _ _ _ ((g1.trans g2).trans g3) r3 (.obj (vs := vs) (.inr ⟨he, hn.symm, .inr ⟨dx, h0, upd_same, ?_⟩⟩) hl.symm (rpa_up (g2.trans g3).le _ _ p1))
    show upd (upd W1.B dx (exd dx (names.zip vs).reverse)) a (exo a (M.AD c) (some dx)) dx = _
    rw [upd_ne hne, upd_same]
/-- e.f, e being an error of one of the classes cs -/
def XvE (cs : List String) (f : Str) (me : Env → Sta → Out PV) : Env → Sta → Out PV := fun ε S => (me ε S).bind fun p S1 => match p with
  | .obj c ns xs => if c ∈ cs then lift (zlook f ns xs) S1 else .stuck
  | _ => .stuck
def Xlds (M : Md) (cs : List String) (f : Str) : Prop := ∀ c ∈ cs, M.er c = true ∧ (M.fl c).Nodup ∧ XfC M.K (M.AD c) ∧ PySem.W.findIn M.K (.ref (M.AD c)) f = some none
theorem xlds_nil {f : Str} : Xlds M [] f := fun c h => by cases h
theorem xlds_cons {c : String} {cs : List String} {f : Str} (h0 : M.er c = true) (hn : (M.fl c).Nodup) (h1 : XfC M.K (M.AD c)) (h2 : PySem.W.findIn M.K (.ref (M.AD c)) f = some none) (h : Xlds M cs f) : Xlds M (c :: cs) f := fun d hd => by
  rcases List.mem_cons.mp hd with rfl | hd
  · exact ⟨h0, hn, h1, h2⟩
  · exact h d hd
theorem zlook_ix {f : Str} {p : PV} : ∀ {ns : List Str} {xs : List PV}, zlook f ns xs = some p → ∃ k : Nat, ns[k]? = some f ∧ xs[k]? = some p
  | [], xs, e => by cases xs <;> cases e
  | _ :: _, [], e => by cases e
  | n :: ns, x :: xs, e => by
    unfold zlook at e
    by_cases z : f = n
    · rw [if_pos z] at e
      cases e
      exact ⟨0, by simp [z], rfl⟩
    · rw [if_neg z] at e
      obtain ⟨k, a, b⟩ := zlook_ix e
      exact ⟨k + 1, by simpa using a, by simpa using b⟩
theorem re_xv {cs : List String} {f : Str} (h : RE M W0 X te me) (hc : Xlds M cs f) : RE M W0 X (tXv M.K te f) (XvE cs f me) := fun W H S σ ε le r0 er Q q =>
  h.thn (.refl W H) le r0 er q fun v p S1 W1 H1 g1 r1 p1 q1 => by
    split at q1
    · rename_i c ns xs
      obtain ⟨hm, q2⟩ := ite_post q1
      obtain ⟨x, ex, q3⟩ := opost_lift q2
      obtain ⟨he, hnd, T, hno⟩ := hc c hm
      obtain ⟨k, e1, e2⟩ := zlook_ix ex
      cases p1 with
      | obj hb hl ha =>
        rcases hb with ⟨h0, _⟩ | ⟨_, hf, ⟨h1, _⟩ | ⟨dx, h1, h2, h3⟩⟩
        · rw [he] at h0; cases h0
        · rw [h1] at e1; simp at e1
        · obtain ⟨w, c1, c2⟩ := rpa_get ha e2
          exact ⟨_, _, dx, _, w, rfl, r1.i _ _ h2, r1.i _ _ h3, T, hno, lookup_zip_rev (by rw [rpa_len ha, hl]) (by rw [hf]; exact hnd) e1 c1, q3 w W1 H1 g1 r1 c2⟩
    · exact q1.elim
/-- isinstance(e, C), e being such an error -/
def IsvE (tab : String → Option Bool) (me : Env → Sta → Out PV) : Env → Sta → Out PV := fun ε S => (me ε S).bind fun p S1 => match p with
  | .obj c _ _ => (lift (tab c) S1).bind fun b S1 => .ok (.bl b) S1
  | _ => .stuck
theorem re_isv {tab : String → Option Bool} {cv : V} {cu : Value} (h : RE M W0 X te me) (hu : ∀ u, RelV cv u → u = cu) (ht : ∀ c b, tab c = some b → M.er c = true ∧ ExcC M.K (M.AD c) ∧ PySem.W.kitOne M.K (.ref (M.AD c)) cu = some b) :
    RE M W0 X (tCB (rIsV M.K) (tCons te (tCons (tC cv) tNil))) (IsvE tab me) := fun W H S σ ε le r0 er Q q =>
  h.thn (.refl W H) le r0 er q fun v p S1 W1 H1 g1 r1 p1 q1 => by
    split at q1
    · rename_i c ns xs
      rw [opost_bind] at q1
      obtain ⟨b, eb, q2⟩ := opost_lift q1
      obtain ⟨he, hx, hk⟩ := ht c b eb
      cases p1 with
      | obj hb hl ha =>
        rcases hb with ⟨h0, _⟩ | ⟨_, hf, ⟨h1, h2⟩ | ⟨dx, h1, h2, h3⟩⟩
        · rw [he] at h0; cases h0
        · exact ⟨_, _, none, cv, cu, b, rfl, r1.i _ _ h2, fun dd e => (by cases e), hx, hu, hk, q2 _ W1 H1 g1 r1 (.bl b)⟩
        · exact ⟨_, _, some dx, cv, cu, b, rfl, r1.i _ _ h2, fun dd e => (by cases e; exact ⟨_, r1.i _ _ h3⟩), hx, hu, hk, q2 _ W1 H1 g1 r1 (.bl b)⟩
    · exact q1.elim
end
end Fx
namespace Fx
open PySem PySem.Spec PyProof.Rows L2 Co
theorem all_nil {α : Type} {P : α → Prop} : ∀ c ∈ ([] : List α), P c := fun c h => by cases h
theorem all_cons {α : Type} {P : α → Prop} {x : α} {xs : List α} (h : P x) (k : ∀ c ∈ xs, P c) : ∀ c ∈ x :: xs, P c := fun c hc => by
  rcases List.mem_cons.mp hc with rfl | hc
  · exact h
  · exact k c hc
/-- the classes over an error class that stands straight under F, F under ValueError -/
def MroIs (K : PySem.W.Frag) (d F : Addr) : Prop := (PySem.W.clsIn K d).map (fun c => c.mro) = some [.ref d, .ref F, .type "ValueError", .type "Exception", .type "BaseException", .type "object"]
section
variable {K : PySem.W.Frag} {d F c : Addr}
theorem mro_in (h : MroIs K d F) (b : Value) : PySem.W.subIn K (.ref d) b = some ([Value.ref d, .ref F, .type "ValueError", .type "Exception", .type "BaseException", .type "object"].contains b) := by
  unfold MroIs at h
  obtain ⟨cd, h1, h2⟩ := Option.map_eq_some_iff.mp h
  show PySem.W.mroIn K d b = _
  unfold PySem.W.mroIn
  rw [h1, Option.bind_some, h2]
  rfl
theorem MroIs.obj (h : MroIs K d F) : PySem.W.mroIn K d (.type "object") = some true := by
  have := mro_in h (.type "object")
  have e : ([Value.ref d, .ref F, .type "ValueError", .type "Exception", .type "BaseException", .type "object"].contains (.type "object")) = true := rfl
  rw [e] at this
  exact this
theorem ref_beq {a b : Addr} : (Value.ref a == Value.ref b) = decide (a = b) := by
  by_cases h : a = b
  · subst h; simp
  · simp [h]
theorem mro_ref : [Value.ref d, .ref F, .type "ValueError", .type "Exception", .type "BaseException", .type "object"].contains (Value.ref c) = (decide (c = d) || (decide (c = F) || false)) := by
  rw [List.contains_cons, List.contains_cons, ref_beq, ref_beq]
  rfl
theorem kit_mro (h : MroIs K d F) (h2 : PySem.W.isClsIn K c = true) (h3 : PySem.W.typeIn K (.ref c) = some (.type "type")) (hF : c ≠ F) : PySem.W.kitOne K (.ref d) (.ref c) = some (decide (d = c)) := by
  unfold PySem.W.kitOne
  by_cases e : d = c
  · subst e; simp
  · rw [if_neg (show ¬ ((Value.ref d == Value.ref c) = true) by rw [ref_beq]; simpa using e)]
    have h5 : (PySem.W.clsIn K c).isSome = true := h2
    have a2 : ((PySem.W.clsIn K c).isSome && PySem.W.typeIn K (.ref c) == some (.type "type")) = true := by rw [h5, h3]; rfl
    show (if ((PySem.W.clsIn K c).isSome && PySem.W.typeIn K (.ref c) == some (.type "type")) = true then PySem.W.subIn K (.ref d) (.ref c) else none) = _
    rw [if_pos a2, mro_in h, mro_ref]
    congr 1
    have e' : ¬ c = d := fun z => e z.symm
    simp only [e, e', hF, decide_false, Bool.or_false]
end
section
variable {K : PySem.W.Frag} {AD : String → Addr} {F : String} {L : List String}
theorem nodup_inj {α β : Type} {f : α → β} : ∀ {xs : List α}, (xs.map f).Nodup → ∀ a ∈ xs, ∀ b ∈ xs, f a = f b → a = b
  | [], _, _, h, _, _, _ => by cases h
  | x :: xs, nd, a, ha, b, hb, e => by
    rw [List.map_cons, List.nodup_cons] at nd
    rcases List.mem_cons.mp ha with q1 | q1
    · rcases List.mem_cons.mp hb with q2 | q2
      · rw [q1, q2]
      · have hm : f b ∈ xs.map f := List.mem_map_of_mem q2
        rw [← e, q1] at hm
        exact absurd hm nd.1
    · rcases List.mem_cons.mp hb with q2 | q2
      · have hm : f a ∈ xs.map f := List.mem_map_of_mem q1
        rw [e, q2] at hm
        exact absurd hm nd.1
      · exact nodup_inj nd.2 a q1 b q2 e
theorem kk_of (h : ∀ c ∈ L, PySem.W.isClsIn K (AD c) = true ∧ PySem.W.typeIn K (.ref (AD c)) = some (.type "type") ∧ MroIs K (AD c) (AD F)) (nd : ((F :: L).map AD).Nodup) :
    ∀ d ∈ L, ∀ c ∈ L, PySem.W.kitOne K (.ref (AD d)) (.ref (AD c)) = some (decide (d = c)) := fun d hd c hc => by
  have hF : AD c ≠ AD F := fun z => by
    rw [List.map_cons, List.nodup_cons] at nd
    exact nd.1 (z ▸ List.mem_map_of_mem hc)
  rw [kit_mro (h d hd).2.2 (h c hc).1 (h c hc).2.1 hF]
  congr 1
  have : AD d = AD c ↔ d = c := ⟨fun z => nodup_inj nd d (List.mem_cons_of_mem _ hd) c (List.mem_cons_of_mem _ hc) z, fun z => by rw [z]⟩
  simp [this]
theorem kF_of (h2 : PySem.W.isClsIn K (AD F) = true) (h3 : PySem.W.typeIn K (.ref (AD F)) = some (.type "type")) (h : ∀ c ∈ L, MroIs K (AD c) (AD F)) : ∀ d ∈ L, PySem.W.kitOne K (.ref (AD d)) (.ref (AD F)) = some true := fun d hd =>
  kit_own h2 h3 (by rw [mro_in (h d hd), mro_ref]; simp only [decide_true, Bool.true_or, Bool.or_true])
theorem kV_of (h : ∀ c ∈ L, MroIs K (AD c) (AD F)) : ∀ d ∈ L, PySem.W.kitOne K (.ref (AD d)) (.type "ValueError") = some true := fun d hd =>
  kit_bas (by decide +kernel) (by rw [mro_in (h d hd)]; rfl)
end
end Fx
namespace Fx
open PySem PySem.Spec PyProof.Rows L2 Co
/-! ### a mirror, step by step -/
@[simp ↓] theorem VarE_ap {i : Nat} {ε : Env} {S : Sta} : VarE i ε S = (match ε[i]? with
  | some (some p) => .ok p S
  | _ => .stuck) := id rfl
@[simp ↓] theorem CE_ap {p : PV} {ε : Env} {S : Sta} : CE p ε S = (.ok p S) := id rfl
@[simp ↓] theorem OpE_ap {f : F2} {ma mb : Env → Sta → Out PV} {ε : Env} {S : Sta} : OpE f ma mb ε S = ((ma ε S).bind fun x S1 => (mb ε S1).bind fun y S2 => lift (f S2 x y) S2) := id rfl
@[simp ↓] theorem AndE_ap {ma mb : Env → Sta → Out PV} {ε : Env} {S : Sta} : AndE ma mb ε S = ((ma ε S).bind fun x S1 => (lift (truth x) S1).bind fun b S1 => if b = true then mb ε S1 else .ok (.bl false) S1) := id rfl
@[simp ↓] theorem OrE_ap {ma mb : Env → Sta → Out PV} {ε : Env} {S : Sta} : OrE ma mb ε S = ((ma ε S).bind fun x S1 => (lift (truth x) S1).bind fun b S1 => if b = true then .ok (.bl true) S1 else mb ε S1) := id rfl
@[simp ↓] theorem NotE_ap {ma : Env → Sta → Out PV} {ε : Env} {S : Sta} : NotE ma ε S = ((ma ε S).bind fun x S1 => (lift (truth x) S1).bind fun b S1 => .ok (.bl (!b)) S1) := id rfl
@[simp ↓] theorem TestE_ap {ma : Env → Sta → Out PV} {ε : Env} {S : Sta} : TestE ma ε S = ((ma ε S).bind fun x S1 => lift (truth x) S1) := id rfl
@[simp ↓] theorem TAnd_ap {ma mb : Env → Sta → Out Bool} {ε : Env} {S : Sta} : TAnd ma mb ε S = ((ma ε S).bind fun b S1 => if b = true then mb ε S1 else .ok false S1) := id rfl
@[simp ↓] theorem TOr_ap {ma mb : Env → Sta → Out Bool} {ε : Env} {S : Sta} : TOr ma mb ε S = ((ma ε S).bind fun b S1 => if b = true then .ok true S1 else mb ε S1) := id rfl
@[simp ↓] theorem TNot_ap {ma : Env → Sta → Out Bool} {ε : Env} {S : Sta} : TNot ma ε S = ((ma ε S).bind fun b S1 => .ok (!b) S1) := id rfl
@[simp ↓] theorem IfE_ap {mt : Env → Sta → Out Bool} {ma mb : Env → Sta → Out PV} {ε : Env} {S : Sta} : IfE mt ma mb ε S = ((mt ε S).bind fun b S1 => if b = true then ma ε S1 else mb ε S1) := id rfl
@[simp ↓] theorem ChainE_ap {f f' : F2} {ma mb mc : Env → Sta → Out PV} {ε : Env} {S : Sta} : ChainE f f' ma mb mc ε S = ((ma ε S).bind fun x S1 => (mb ε S1).bind fun y S2 => (lift (f S2 x y) S2).bind fun w S2 => (lift (truth w) S2).bind fun b S2 => if b = true then (mc ε S2).bind fun z S3 => lift (f' S3 y z) S3 else .ok (.bl false) S2) := id rfl
@[simp ↓] theorem NilA_ap  {ε : Env} {S : Sta} : NilA  ε S = (.ok [] S) := id rfl
@[simp ↓] theorem ConsA_ap {me : Env → Sta → Out PV} {mr : Env → Sta → Out (List PV)} {ε : Env} {S : Sta} : ConsA me mr ε S = ((me ε S).bind fun x S1 => (mr ε S1).bind fun xs S2 => .ok (x :: xs) S2) := id rfl
@[simp ↓] theorem TupE_ap {ms : Env → Sta → Out (List PV)} {ε : Env} {S : Sta} : TupE ms ε S = ((ms ε S).bind fun xs S1 => if xs.length ≤ 100000 then .ok (.tup xs) S1 else .stuck) := id rfl
@[simp ↓] theorem LstE_ap {ms : Env → Sta → Out (List PV)} {ε : Env} {S : Sta} : LstE ms ε S = ((ms ε S).bind fun xs S1 => if xs.length ≤ 100000 then .ok (.lst xs) S1 else .stuck) := id rfl
@[simp ↓] theorem LmuE_ap {ms : Env → Sta → Out (List PV)} {ε : Env} {S : Sta} : LmuE ms ε S = ((ms ε S).bind fun xs S1 => if xs.length ≤ 100000 then newL xs S1 else .stuck) := id rfl
@[simp ↓] theorem CbE_ap {f : FC} {ms : Env → Sta → Out (List PV)} {ε : Env} {S : Sta} : CbE f ms ε S = ((ms ε S).bind fun xs S1 => calm (f xs S1)) := id rfl
@[simp ↓] theorem CallE_ap {f : FC} {dps : List PV} {ms : Env → Sta → Out (List PV)} {ε : Env} {S : Sta} : CallE f dps ms ε S = ((ms ε S).bind fun xs S1 => f (xs ++ dps) S1) := id rfl
@[simp ↓] theorem IsiE_ap {k : Ty} {ma : Env → Sta → Out PV} {ε : Env} {S : Sta} : IsiE k ma ε S = ((ma ε S).bind fun x S1 => (lift (tyP S1 x) S1).bind fun t S1 => .ok (.bl (isT t k)) S1) := id rfl
@[simp ↓] theorem IsiTE_ap {k l : Ty} {ma : Env → Sta → Out PV} {ε : Env} {S : Sta} : IsiTE k l ma ε S = ((ma ε S).bind fun x S1 => (lift (tyP S1 x) S1).bind fun t S1 => .ok (.bl (isT t k || isT t l)) S1) := id rfl
@[simp ↓] theorem NoO_ap  {ε : Env} {S : Sta} : NoO  ε S = (.ok none S) := id rfl
@[simp ↓] theorem PartO_ap {me : Env → Sta → Out PV} {ε : Env} {S : Sta} : PartO me ε S = ((me ε S).bind fun x S1 => match x with
  | .int i => .ok (some i) S1
  | _ => .stuck) := id rfl
@[simp ↓] theorem SlE_ap {ma : Env → Sta → Out PV} {ml mh : Env → Sta → Out (Option Int)} {ε : Env} {S : Sta} : SlE ma ml mh ε S = ((ma ε S).bind fun x S1 => (ml ε S1).bind fun l S2 => (mh ε S2).bind fun u S3 => lift (fSl S3 x l u) S3) := id rfl
@[simp ↓] theorem JoinE_ap {ma mb : Env → Sta → Out PV} {ε : Env} {S : Sta} : JoinE ma mb ε S = ((ma ε S).bind fun x S1 => match x with
  | .str a => (mb ε S1).bind fun y S2 => match items S2 y with
    | some (_, ys) => match strsP ys with
      | some zs => if (zs.map (·.length)).sum + zs.length * a.length ≤ 100000 then .ok (.str (Txt.join a zs)) S2 else .stuck
      | none => .stuck
    | none => .stuck
  | _ => .stuck) := id rfl
@[simp ↓] theorem NextS_ap  {ε : Env} {S : Sta} : NextS  ε S = (.nx ε S) := id rfl
@[simp ↓] theorem BreakS_ap  {ε : Env} {S : Sta} : BreakS  ε S = (.bk ε S) := id rfl
@[simp ↓] theorem ContS_ap  {ε : Env} {S : Sta} : ContS  ε S = (.ct ε S) := id rfl
@[simp ↓] theorem RetNS_ap  {ε : Env} {S : Sta} : RetNS  ε S = (.rt .non S) := id rfl
@[simp ↓] theorem RetS_ap {me : Env → Sta → Out PV} {ε : Env} {S : Sta} : RetS me ε S = ((me ε S).flow ε fun p S1 => .rt p S1) := id rfl
@[simp ↓] theorem DropS_ap {me : Env → Sta → Out PV} {ε : Env} {S : Sta} : DropS me ε S = ((me ε S).flow ε fun _ S1 => .nx ε S1) := id rfl
@[simp ↓] theorem AsgS_ap {me : Env → Sta → Out PV} {g : MG} {ε : Env} {S : Sta} : AsgS me g ε S = ((me ε S).flow ε fun p S1 => match g p ε S1 with
  | .ok ε' S2 => .nx ε' S2
  | _ => .stuck) := id rfl
@[simp ↓] theorem SetS_ap {i : Nat} {me : Env → Sta → Out PV} {ε : Env} {S : Sta} : SetS i me ε S = ((me ε S).flow ε fun p S1 => .nx (ε.set i (some p)) S1) := id rfl
@[simp ↓] theorem IfS_ap {mc : Env → Sta → Out Bool} {m m' : Env → Sta → Flow} {ε : Env} {S : Sta} : IfS mc m m' ε S = ((mc ε S).flow ε fun b S1 => if b = true then m ε S1 else m' ε S1) := id rfl
@[simp ↓] theorem SeqS_ap {m m' : Env → Sta → Flow} {ε : Env} {S : Sta} : SeqS m m' ε S = ((m ε S).then m') := id rfl
@[simp ↓] theorem AugS_ap {i : Nat} {me : Env → Sta → Out PV} {f : F2} {ε : Env} {S : Sta} : AugS i me f ε S = (match ε[i]? with
  | some (some x) => (me ε S).flow ε fun y S1 => match f S1 x y with
    | some z => .nx (ε.set i (some z)) S1
    | none => .stuck
  | _ => .stuck) := id rfl
@[simp ↓] theorem RaiseS_ap {c : String} {names : List Str} {ms : Env → Sta → Out (List PV)} {ε : Env} {S : Sta} : RaiseS c names ms ε S = ((ms ε S).flow ε fun xs S1 => if xs.length = names.length then .ex c xs ε S1 else .stuck) := id rfl
@[simp ↓] theorem Raise0S_ap {c : String} {ε : Env} {S : Sta} : Raise0S c ε S = (.ex c [] ε S) := id rfl
@[simp ↓] theorem TryAsS_ap {i : Nat} {sub : String → Option Bool} {mb : Env → Sta → Flow} {ms : String → List PV → Nat → Env → Sta → Flow} {ε : Env} {S : Sta} : TryAsS i sub mb ms ε S = (match mb ε S with
  | .ex c xs ε' S' => match sub c with
    | some true => unslot i (ms c xs S'.length (ε'.set i (some (.xv S'.length))) (S' ++ [.dead]))
    | some false => .ex c xs ε' S'
    | none => .stuck
  | f => f) := id rfl
@[simp ↓] theorem TryS_ap {sub : String → Option Bool} {mb : Env → Sta → Flow} {ms : String → List PV → Env → Sta → Flow} {ε : Env} {S : Sta} : TryS sub mb ms ε S = (match mb ε S with
  | .ex c xs ε' S' => match sub c with
    | some true => ms c xs ε' S'
    | some false => .ex c xs ε' S'
    | none => .stuck
  | f => f) := id rfl
@[simp ↓] theorem XfE_ap {c0 : String} {k : Nat} {c : String} {xs : List PV} {n i : Nat} {ε : Env} {S : Sta} : XfE c0 k c xs n i ε S = (match ε[i]? with
  | some (some (.xv n')) => if n' = n ∧ c = c0 then (match xs[k]? with
    | some p => .ok p S
    | none => .stuck) else .stuck
  | _ => .stuck) := id rfl
@[simp ↓] theorem SeqI_ap {me : Env → Sta → Out PV} {ε : Env} {S : Sta} : SeqI me ε S = ((me ε S).bind fun p S1 => (lift (seqIt S1 p) S1).bind fun x S1 => .ok x.2 S1) := id rfl
@[simp ↓] theorem Rng1I_ap {ms : Env → Sta → Out (List PV)} {ε : Env} {S : Sta} : Rng1I ms ε S = ((ms ε S).bind fun xs S1 => match xs with
  | [.int n] => if -4611686018427387904 ≤ n ∧ n < 4611686018427387904 then .ok ⟨intsP 0 n.toNat, []⟩ S1 else .stuck
  | _ => .stuck) := id rfl
@[simp ↓] theorem Rng2I_ap {ms : Env → Sta → Out (List PV)} {ε : Env} {S : Sta} : Rng2I ms ε S = ((ms ε S).bind fun xs S1 => match xs with
  | [.int i, .int j] => if -4611686018427387904 ≤ i ∧ i < 4611686018427387904 ∧ -4611686018427387904 ≤ j ∧ j < 4611686018427387904 then .ok ⟨intsP i (j - i).toNat, []⟩ S1 else .stuck
  | _ => .stuck) := id rfl
@[simp ↓] theorem StrI_ap {me : Env → Sta → Out PV} {ε : Env} {S : Sta} : StrI me ε S = ((me ε S).bind fun p S1 => match p with
  | .str z => .ok ⟨z.cps.toList.map fun c => .str ⟨#[c]⟩, []⟩ S1
  | _ => .stuck) := id rfl
@[simp ↓] theorem ZipI_ap {ms : Env → Sta → Out (List PV)} {ε : Env} {S : Sta} : ZipI ms ε S = ((ms ε S).bind fun xs S1 => match xs with
  | [x, y] => match seqIt S1 x, seqIt S1 y with
    | some (_, i1), some (_, i2) => .ok (zipIt i1 i2) S1
    | _, _ => .stuck
  | _ => .stuck) := id rfl
@[simp ↓] theorem RevI_ap {me : Env → Sta → Out PV} {ε : Env} {S : Sta} : RevI me ε S = ((me ε S).bind fun p S1 => (lift (seqIt S1 p) S1).bind fun x S1 => .ok ⟨x.2.xs.reverse, x.2.pins⟩ S1) := id rfl
@[simp ↓] theorem ForS_ap {mi : Env → Sta → Out IT} {g : MG} {mb : Env → Sta → Flow} {ε : Env} {S : Sta} : ForS mi g mb ε S = ((mi ε S).flow ε fun it S1 => loop g mb it.pins it.xs ε S1) := id rfl
@[simp ↓] theorem YesT_ap  {ε : Env} {S : Sta} : YesT  ε S = (.ok true S) := id rfl
@[simp ↓] theorem LcA_ap {mi : Env → Sta → Out IT} {g : MG} {mc : Env → Sta → Out Bool} {me : Env → Sta → Out PV} {vs : List Nat} {ε : Env} {S : Sta} : LcA mi g mc me vs ε S = ((mi ε S).bind fun it S1 => lcLoop g mc me it.pins (wipeP ε vs) it.xs [] S1) := id rfl
@[simp ↓] theorem LcE_ap {mi : Env → Sta → Out IT} {g : MG} {mc : Env → Sta → Out Bool} {me : Env → Sta → Out PV} {vs : List Nat} {ε : Env} {S : Sta} : LcE mi g mc me vs ε S = ((LcA mi g mc me vs ε S).bind fun acc S2 => .ok (.lst acc) S2) := id rfl
@[simp ↓] theorem LcM_ap {mi : Env → Sta → Out IT} {g : MG} {mc : Env → Sta → Out Bool} {me : Env → Sta → Out PV} {vs : List Nat} {ε : Env} {S : Sta} : LcM mi g mc me vs ε S = ((LcA mi g mc me vs ε S).bind fun acc S2 => newL acc S2) := id rfl
@[simp ↓] theorem NegE_ap {me : Env → Sta → Out PV} {ε : Env} {S : Sta} : NegE me ε S = ((me ε S).bind fun x S1 => match x with
  | .int i => .ok (.int (-i)) S1
  | _ => .stuck) := id rfl
@[simp ↓] theorem LrgE_ap {me : Env → Sta → Out PV} {ε : Env} {S : Sta} : LrgE me ε S = ((me ε S).bind fun x S1 => match x with
  | .int n => if -1000 ≤ n ∧ n ≤ 90000 then .ok (.lst (intsP 0 n.toNat)) S1 else .stuck
  | _ => .stuck) := id rfl
@[simp ↓] theorem TrvE_ap {me : Env → Sta → Out PV} {ε : Env} {S : Sta} : TrvE me ε S = ((me ε S).bind fun x S1 => match look S1 x with
  | .lst xs => .ok (.tup xs.reverse) S1
  | _ => .stuck) := id rfl
@[simp ↓] theorem AppE_ap {mo me : Env → Sta → Out PV} {ε : Env} {S : Sta} : AppE mo me ε S = ((mo ε S).bind fun o S1 => match o with
  | .mu n => match S1[n]? with
    | some (.lst _) => (me ε S1).bind fun p S2 => match S2[n]? with
      | some (.lst xs) => if xs.length < 100000 then .ok .non (S2.set n (.lst (xs ++ [p]))) else .stuck
      | _ => .stuck
    | _ => .stuck
  | _ => .stuck) := id rfl
section
variable {α β : Type} {a : α} {o o' : Out α} {S S' : Sta} {ε ε' : Env} {c : String} {xs : List PV}
@[simp] theorem bind_ok {f : α → Sta → Out β} : (Out.ok a S).bind f = f a S := id rfl
@[simp] theorem bind_ex {f : α → Sta → Out β} : (Out.ex c xs S).bind f = .ex c xs S := id rfl
@[simp] theorem bind_stuck {f : α → Sta → Out β} : (Out.stuck : Out α).bind f = .stuck := id rfl
@[simp] theorem flow_ok {f : α → Sta → Flow} : (Out.ok a S).flow ε f = f a S := id rfl
@[simp] theorem flow_ex {f : α → Sta → Flow} : (Out.ex c xs S : Out α).flow ε f = .ex c xs ε S := id rfl
@[simp] theorem flow_stuck {f : α → Sta → Flow} : (Out.stuck : Out α).flow ε f = .stuck := id rfl
@[simp] theorem then_nx {k : Env → Sta → Flow} : (Flow.nx ε S).then k = k ε S := id rfl
@[simp] theorem then_rt {k : Env → Sta → Flow} {p : PV} : (Flow.rt p S).then k = .rt p S := id rfl
@[simp] theorem then_bk {k : Env → Sta → Flow} : (Flow.bk ε S).then k = .bk ε S := id rfl
@[simp] theorem then_ct {k : Env → Sta → Flow} : (Flow.ct ε S).then k = .ct ε S := id rfl
@[simp] theorem then_ex {k : Env → Sta → Flow} : (Flow.ex c xs ε S).then k = .ex c xs ε S := id rfl
@[simp] theorem then_stuck {k : Env → Sta → Flow} : (Flow.stuck).then k = .stuck := id rfl
@[simp] theorem lift_some : lift (some a) S = .ok a S := id rfl
@[simp] theorem lift_none : lift (none : Option α) S = .stuck := id rfl
@[simp] theorem quiet_ok : quiet (Out.ok a S) = .ok a S := id rfl
@[simp] theorem calm_ok {p : PV} : calm (Out.ok p S) = .ok p S := id rfl
@[simp] theorem truth_bl {b : Bool} : truth (.bl b) = some b := id rfl
@[simp] theorem nameG_ap {i : Nat} {p : PV} : NameG i p ε S = .ok (ε.set i (some p)) S := id rfl
@[simp] theorem nilG_ap : NilG [] ε S = .ok ε S := id rfl
@[simp] theorem consG_ap {g : MG} {gs : List PV → Env → Sta → Out Env} {p : PV} {ps : List PV} : ConsG g gs (p :: ps) ε S = (g p ε S).bind fun ε1 S1 => gs ps ε1 S1 := id rfl
@[simp] theorem tupG_ap {n : Nat} {gs : List PV → Env → Sta → Out Env} {ps : List PV} : TupG n gs (.tup ps) ε S = if ps.length = n then gs ps ε S else .stuck := id rfl
@[simp] theorem subG_ap {mo mi : Env → Sta → Out PV} {p : PV} : SubG mo mi p ε S = ((quiet (mo ε S)).bind fun o S1 => (quiet (mi ε S1)).bind fun i S2 => match putL S2 o i p with
  | some S3 => .ok ε S3
  | none => .stuck) := id rfl
@[simp] theorem look_lst' : look S (.lst xs) = .lst xs := id rfl
@[simp] theorem look_kls' : look S (.kls xs) = .lst xs := id rfl
@[simp] theorem look_tup' : look S (.tup xs) = .tup xs := id rfl
@[simp] theorem look_int' {i : Int} : look S (.int i) = .int i := id rfl
@[simp] theorem look_str' {z : Str} : look S (.str z) = .str z := id rfl
@[simp] theorem look_bl' {z : Bool} : look S (.bl z) = .bl z := id rfl
@[simp] theorem look_non' : look S .non = .non := id rfl
@[simp] theorem look_mu' {n : Nat} : look S (.mu n) = (match S[n]? with
    | some (.lst xs) => .lst xs
    | _ => .mu n) := id rfl
@[simp] theorem items_lst : items S (.lst xs) = some (true, xs) := id rfl
@[simp] theorem items_kls : items S (.kls xs) = some (true, xs) := id rfl
@[simp] theorem items_tup : items S (.tup xs) = some (false, xs) := id rfl
@[simp] theorem items_mu {n : Nat} : items S (.mu n) = (match look S (.mu n) with
  | .lst xs => some (true, xs)
  | .tup xs => some (false, xs)
  | _ => none) := id rfl
@[simp] theorem seqIt_lst : seqIt S (.lst xs) = some (true, ⟨xs, []⟩) := id rfl
@[simp] theorem seqIt_kls : seqIt S (.kls xs) = some (true, ⟨xs, []⟩) := id rfl
@[simp] theorem seqIt_tup : seqIt S (.tup xs) = some (false, ⟨xs, []⟩) := id rfl
@[simp] theorem seqIt_mu {n : Nat} : seqIt S (.mu n) = (match S[n]? with
    | some (.lst xs) => some (true, ⟨xs, [(n, xs)]⟩)
    | _ => none) := id rfl
@[simp] theorem fI_ap {C : Int → Int → Prop} [∀ i j, Decidable (C i j)] {g : Int → Int → PV} {i j : Int} : fI C g S (.int i) (.int j) = if C i j then some (g i j) else none := id rfl
@[simp] theorem fAdd_int {i j : Int} : fAdd S (.int i) (.int j) = some (.int (i + j)) := id rfl
@[simp] theorem fAdd_str {i j : Str} : fAdd S (.str i) (.str j) = if i.length + j.length ≤ 100000 then some (.str (i ++ j)) else none := id rfl
@[simp] theorem fAdd_tup {ys : List PV} : fAdd S (.tup xs) (.tup ys) = if xs.length + ys.length ≤ 100000 then some (.tup (xs ++ ys)) else none := id rfl
@[simp] theorem fAdd_lst {ys : List PV} : fAdd S (.lst xs) (.lst ys) = if xs.length + ys.length ≤ 100000 then some (.lst (xs ++ ys)) else none := id rfl
@[simp] theorem fIsN_ap {p : PV} : fIsN S p .non = some (.bl (isNonP p)) := id rfl
@[simp] theorem fNotN_ap {p : PV} : fNotN S p .non = some (.bl (!isNonP p)) := id rfl
@[simp] theorem isNon_non : isNonP .non = true := id rfl
@[simp] theorem isNon_int {i : Int} : isNonP (.int i) = false := id rfl
@[simp] theorem isNon_str {i : Str} : isNonP (.str i) = false := id rfl
@[simp] theorem isNon_bl {i : Bool} : isNonP (.bl i) = false := id rfl
@[simp] theorem isNon_lst : isNonP (.lst xs) = false := id rfl
@[simp] theorem isNon_tup : isNonP (.tup xs) = false := id rfl
@[simp] theorem isNon_mu {n : Nat} : isNonP (.mu n) = false := id rfl
@[simp] theorem isNon_obj {n : List Str} : isNonP (.obj c n xs) = false := id rfl
@[simp] theorem fIsB_ap {a b : Bool} : fIsB S (.bl a) (.bl b) = some (.bl (decide (a = b))) := id rfl
@[simp] theorem fIx_lst {i : Int} : fIx S (.lst xs) (.int i) = atI xs i := id rfl
@[simp] theorem fIx_tup {i : Int} : fIx S (.tup xs) (.int i) = atI xs i := id rfl
@[simp] theorem fIx_str {z : Str} {i : Int} : fIx S (.str z) (.int i) = if z.length ≤ 100000 then (atI z.cps.toList i).map fun c => .str ⟨#[c]⟩ else none := id rfl
@[simp] theorem fIx_mu {n : Nat} {i : Int} : fIx S (.mu n) (.int i) = (match S[n]? with
  | some (.lst xs) => atI xs i
  | _ => none) := by
  unfold fIx look
  dsimp only
  cases S[n]? with
  | none => rfl
  | some c => cases c <;> rfl
@[simp] theorem fLen_ap {p : PV} : fLen [p] S = (match look S p with
    | .lst ys => .ok (.int (ys.length : Int)) S
    | .tup ys => .ok (.int (ys.length : Int)) S
    | .str z => if z.length ≤ 100000 then .ok (.int (z.length : Int)) S else .stuck
    | _ => .stuck) := id rfl
@[simp] theorem fTuple_ap {p : PV} : fTuple [p] S = (match look S p with
    | .lst ys => .ok (.tup ys) S
    | .tup ys => .ok (.tup ys) S
    | _ => .stuck) := id rfl
@[simp] theorem fList_ap {p : PV} : fList [p] S = (match items S p with
    | some (_, ys) => .ok (.lst ys) S
    | none => .stuck) := id rfl
@[simp] theorem fListM_ap {p : PV} : fListM [p] S = (match items S p with
    | some (_, ys) => .ok (.mu S.length) (S ++ [.lst ys])
    | none => .stuck) := id rfl
@[simp] theorem fAll_ap {ys : List PV} : fAll [.lst ys] S = (match bools ys with
      | some bs => .ok (.bl (bs.all id)) S
      | none => .stuck) := id rfl
@[simp] theorem fAbs_ap {i : Int} : fAbs [.int i] S = .ok (.int (if i < 0 then -i else i)) S := id rfl
@[simp] theorem fInt_ap {i : Int} : fInt [.int i] S = .ok (.int i) S := id rfl
@[simp] theorem fRepr_ap {p : PV} : fRepr [p] S = (match dat S p with
    | some d => if d.showable = true ∧ d.depth ≤ 60 ∧ d.shown.length ≤ 1000000 then .ok (.str d.shown) S else .stuck
    | none => .stuck) := id rfl
@[simp] theorem tyP_non : tyP S .non = some "NoneType" := id rfl
@[simp] theorem tyP_bl {b : Bool} : tyP S (.bl b) = some "bool" := id rfl
@[simp] theorem tyP_int {b : Int} : tyP S (.int b) = some "int" := id rfl
@[simp] theorem tyP_str {b : Str} : tyP S (.str b) = some "str" := id rfl
@[simp] theorem tyP_tup : tyP S (.tup xs) = some "tuple" := id rfl
@[simp] theorem tyP_lst : tyP S (.lst xs) = some "list" := id rfl
@[simp] theorem tyP_kls : tyP S (.kls xs) = some "list" := id rfl
@[simp] theorem tyP_mu {n : Nat} : tyP S (.mu n) = (match S[n]? with
  | some (.lst _) => some "list"
  | _ => none) := by
  unfold tyP look
  dsimp only
  cases S[n]? with
  | none => rfl
  | some c => cases c <;> rfl
@[simp] theorem isT_1 : isT "NoneType" .int = false := id rfl
@[simp] theorem isT_2 : isT "NoneType" .bool = false := id rfl
@[simp] theorem isT_3 : isT "NoneType" .str = false := id rfl
@[simp] theorem isT_4 : isT "NoneType" .list = false := id rfl
@[simp] theorem isT_5 : isT "NoneType" .tuple = false := id rfl
@[simp] theorem isT_6 : isT "bool" .int = true := id rfl
@[simp] theorem isT_7 : isT "bool" .bool = true := id rfl
@[simp] theorem isT_8 : isT "bool" .str = false := id rfl
@[simp] theorem isT_9 : isT "bool" .list = false := id rfl
@[simp] theorem isT_10 : isT "bool" .tuple = false := id rfl
@[simp] theorem isT_11 : isT "int" .int = true := id rfl
@[simp] theorem isT_12 : isT "int" .bool = false := id rfl
@[simp] theorem isT_13 : isT "int" .str = false := id rfl
@[simp] theorem isT_14 : isT "int" .list = false := id rfl
@[simp] theorem isT_15 : isT "int" .tuple = false := id rfl
@[simp] theorem isT_16 : isT "str" .int = false := id rfl
@[simp] theorem isT_17 : isT "str" .bool = false := id rfl
@[simp] theorem isT_18 : isT "str" .str = true := id rfl
@[simp] theorem isT_19 : isT "str" .list = false := id rfl
@[simp] theorem isT_20 : isT "str" .tuple = false := id rfl
@[simp] theorem isT_21 : isT "list" .int = false := id rfl
@[simp] theorem isT_22 : isT "list" .bool = false := id rfl
@[simp] theorem isT_23 : isT "list" .str = false := id rfl
@[simp] theorem isT_24 : isT "list" .list = true := id rfl
@[simp] theorem isT_25 : isT "list" .tuple = false := id rfl
@[simp] theorem isT_26 : isT "tuple" .int = false := id rfl
@[simp] theorem isT_27 : isT "tuple" .bool = false := id rfl
@[simp] theorem isT_28 : isT "tuple" .str = false := id rfl
@[simp] theorem isT_29 : isT "tuple" .list = false := id rfl
@[simp] theorem isT_30 : isT "tuple" .tuple = true := id rfl
@[simp] theorem fEqA_int {i j : Int} : fEqA S (.int i) (.int j) = some (.bl (decide (i = j))) := id rfl
@[simp] theorem fNeA_int {i j : Int} : fNeA S (.int i) (.int j) = some (.bl (!decide (i = j))) := id rfl
@[simp] theorem fEqA_str {i j : Str} : fEqA S (.str i) (.str j) = some (.bl (decide (i = j))) := id rfl
@[simp] theorem fNeA_str {i j : Str} : fNeA S (.str i) (.str j) = some (.bl (!decide (i = j))) := id rfl
@[simp] theorem fEqA_bl {i j : Bool} : fEqA S (.bl i) (.bl j) = some (.bl (decide (i = j))) := id rfl
@[simp] theorem fNeA_bl {i j : Bool} : fNeA S (.bl i) (.bl j) = some (.bl (!decide (i = j))) := id rfl
@[simp] theorem putL_mu {n : Nat} {k : Int} {p : PV} : putL S (.mu n) (.int k) p = (match S[n]? with
    | some (.lst xs) => match ixN xs.length k with
      | some j => some (S.set n (.lst (xs.set j p)))
      | none => none
    | _ => none) := id rfl
@[simp] theorem pinsOk_n : pinsOk S [] = true := id rfl
@[simp] theorem pinsOk_1 {n : Nat} {ys : List PV} (h : S[n]? = some (.lst ys)) : pinsOk S [(n, ys)] = true := by
  simp [pinsOk, h, beqs_rfl]
@[simp] theorem leaveE_self {k : Nat} (h : S.length ≤ k) : leaveE k ε S = some (ε, S) := if_pos h
@[simp] theorem give_self {k : Nat} {p : PV} (h : S.length ≤ k) : give k p S = .ok p S := by
  unfold give leave; rw [if_pos h]
@[simp] theorem giveX_self {k : Nat} (h : S.length ≤ k) : giveX k c xs S = .ex c xs S := by
  unfold giveX leave; rw [if_pos h]
/-- the end of a def -/
def fin (keep : Bool) (k : Nat) : Flow → Out PV
  | .rt p S' => if keep = true then .ok p S' else give k p S'
  | .nx _ S' => if keep = true then .ok .non S' else give k .non S'
  | .ex c xs _ S' => giveX k c xs S'
  | _ => .stuck
@[simp ↓] theorem defM_run {keep : Bool} {n len : Nat} {body : Env → Sta → Flow} {ps : List PV} (h : ps.length = n) : defM keep n len body ps S = fin keep S.length (body (envOf len ps) S) := by
  unfold defM
  rw [if_pos h]
  cases body (envOf len ps) S <;> rfl
@[simp ↓] theorem calmF_ap {f : FC} {ps : List PV} : calmF f ps S = calm (f ps S) := id rfl
@[simp] theorem fin_rt {k : Nat} {p : PV} : fin false k (.rt p S) = give k p S := id rfl
@[simp] theorem fin_nx {k : Nat} : fin false k (.nx ε S) = give k .non S := id rfl
@[simp] theorem fin_rtK {k : Nat} {p : PV} : fin true k (.rt p S) = .ok p S := id rfl
@[simp] theorem fin_nxK {k : Nat} : fin true k (.nx ε S) = .ok .non S := id rfl
@[simp] theorem fin_ex {keep : Bool} {k : Nat} : fin keep k (.ex c xs ε S) = giveX k c xs S := id rfl
/-- the end of a loop's turn -/
def shutS (k : Nat) : Flow → Flow
  | .nx ε' S' => match leaveE k ε' S' with
    | some x => .nx x.1 x.2
    | none => .stuck
  | .ct ε' S' => match leaveE k ε' S' with
    | some x => .ct x.1 x.2
    | none => .stuck
  | .bk ε' S' => match leaveE k ε' S' with
    | some x => .bk x.1 x.2
    | none => .stuck
  | f => f
@[simp ↓] theorem scopeS_ap {m : Env → Sta → Flow} : scopeS m ε S = shutS S.length (m ε S) := by
  unfold scopeS shutS
  cases m ε S <;> rfl
@[simp] theorem shutS_nx {k : Nat} : shutS k (.nx ε S) = (match leaveE k ε S with
    | some x => .nx x.1 x.2
    | none => .stuck) := id rfl
@[simp] theorem shutS_ct {k : Nat} : shutS k (.ct ε S) = (match leaveE k ε S with
    | some x => .ct x.1 x.2
    | none => .stuck) := id rfl
@[simp] theorem shutS_bk {k : Nat} : shutS k (.bk ε S) = (match leaveE k ε S with
    | some x => .bk x.1 x.2
    | none => .stuck) := id rfl
@[simp] theorem shutS_rt {k : Nat} {p : PV} : shutS k (.rt p S) = .rt p S := id rfl
@[simp] theorem shutS_ex {k : Nat} : shutS k (.ex c xs ε S) = .ex c xs ε S := id rfl
@[simp] theorem unslot_rt {i : Nat} {p : PV} : unslot i (.rt p S) = .rt p S := id rfl
@[simp] theorem unslot_ex {i : Nat} : unslot i (.ex c xs ε S) = .ex c xs ε S := id rfl
@[simp] theorem unslot_nx {i : Nat} : unslot i (.nx ε S) = .nx (ε.set i none) S := id rfl
@[simp] theorem unslot_bk {i : Nat} : unslot i (.bk ε S) = .bk (ε.set i none) S := id rfl
@[simp] theorem unslot_ct {i : Nat} : unslot i (.ct ε S) = .ct (ε.set i none) S := id rfl
@[simp] theorem isC_self : isC c c = some true := if_pos rfl
@[simp] theorem atI_0 {β : Type} {x0 : β} {xs : List β} : atI (x0 :: xs) 0 = some x0 := by
  have h : (0 : Int) ≤ 0 := by decide
  exact atI_get h rfl
@[simp] theorem atI_1 {β : Type} {x0 : β} {x1 : β} {xs : List β} : atI (x0 :: x1 :: xs) 1 = some x1 := by
  have h : (0 : Int) ≤ 1 := by decide
  exact atI_get h rfl
@[simp] theorem atI_2 {β : Type} {x0 : β} {x1 : β} {x2 : β} {xs : List β} : atI (x0 :: x1 :: x2 :: xs) 2 = some x2 := by
  have h : (0 : Int) ≤ 2 := by decide
  exact atI_get h rfl
@[simp] theorem atI_3 {β : Type} {x0 : β} {x1 : β} {x2 : β} {x3 : β} {xs : List β} : atI (x0 :: x1 :: x2 :: x3 :: xs) 3 = some x3 := by
  have h : (0 : Int) ≤ 3 := by decide
  exact atI_get h rfl
@[simp] theorem atI_4 {β : Type} {x0 : β} {x1 : β} {x2 : β} {x3 : β} {x4 : β} {xs : List β} : atI (x0 :: x1 :: x2 :: x3 :: x4 :: xs) 4 = some x4 := by
  have h : (0 : Int) ≤ 4 := by decide
  exact atI_get h rfl
@[simp] theorem atI_5 {β : Type} {x0 : β} {x1 : β} {x2 : β} {x3 : β} {x4 : β} {x5 : β} {xs : List β} : atI (x0 :: x1 :: x2 :: x3 :: x4 :: x5 :: xs) 5 = some x5 := by
  have h : (0 : Int) ≤ 5 := by decide
  exact atI_get h rfl
@[simp] theorem atI_6 {β : Type} {x0 : β} {x1 : β} {x2 : β} {x3 : β} {x4 : β} {x5 : β} {x6 : β} {xs : List β} : atI (x0 :: x1 :: x2 :: x3 :: x4 :: x5 :: x6 :: xs) 6 = some x6 := by
  have h : (0 : Int) ≤ 6 := by decide
  exact atI_get h rfl
@[simp] theorem atI_7 {β : Type} {x0 : β} {x1 : β} {x2 : β} {x3 : β} {x4 : β} {x5 : β} {x6 : β} {x7 : β} {xs : List β} : atI (x0 :: x1 :: x2 :: x3 :: x4 :: x5 :: x6 :: x7 :: xs) 7 = some x7 := by
  have h : (0 : Int) ≤ 7 := by decide
  exact atI_get h rfl
@[simp] theorem atI_8 {β : Type} {x0 : β} {x1 : β} {x2 : β} {x3 : β} {x4 : β} {x5 : β} {x6 : β} {x7 : β} {x8 : β} {xs : List β} : atI (x0 :: x1 :: x2 :: x3 :: x4 :: x5 :: x6 :: x7 :: x8 :: xs) 8 = some x8 := by
  have h : (0 : Int) ≤ 8 := by decide
  exact atI_get h rfl
@[simp] theorem atI_9 {β : Type} {x0 : β} {x1 : β} {x2 : β} {x3 : β} {x4 : β} {x5 : β} {x6 : β} {x7 : β} {x8 : β} {x9 : β} {xs : List β} : atI (x0 :: x1 :: x2 :: x3 :: x4 :: x5 :: x6 :: x7 :: x8 :: x9 :: xs) 9 = some x9 := by
  have h : (0 : Int) ≤ 9 := by decide
  exact atI_get h rfl
@[simp] theorem atI_10 {β : Type} {x0 : β} {x1 : β} {x2 : β} {x3 : β} {x4 : β} {x5 : β} {x6 : β} {x7 : β} {x8 : β} {x9 : β} {x10 : β} {xs : List β} : atI (x0 :: x1 :: x2 :: x3 :: x4 :: x5 :: x6 :: x7 :: x8 :: x9 :: x10 :: xs) 10 = some x10 := by
  have h : (0 : Int) ≤ 10 := by decide
  exact atI_get h rfl
@[simp] theorem atI_11 {β : Type} {x0 : β} {x1 : β} {x2 : β} {x3 : β} {x4 : β} {x5 : β} {x6 : β} {x7 : β} {x8 : β} {x9 : β} {x10 : β} {x11 : β} {xs : List β} : atI (x0 :: x1 :: x2 :: x3 :: x4 :: x5 :: x6 :: x7 :: x8 :: x9 :: x10 :: x11 :: xs) 11 = some x11 := by
  have h : (0 : Int) ≤ 11 := by decide
  exact atI_get h rfl
@[simp] theorem atI_12 {β : Type} {x0 : β} {x1 : β} {x2 : β} {x3 : β} {x4 : β} {x5 : β} {x6 : β} {x7 : β} {x8 : β} {x9 : β} {x10 : β} {x11 : β} {x12 : β} {xs : List β} : atI (x0 :: x1 :: x2 :: x3 :: x4 :: x5 :: x6 :: x7 :: x8 :: x9 :: x10 :: x11 :: x12 :: xs) 12 = some x12 := by
  have h : (0 : Int) ≤ 12 := by decide
  exact atI_get h rfl
end
end Fx
namespace Fx
open PySem PySem.Spec PyProof.Rows L2 Co
inductive All2 {α β : Type} (R : α → β → Prop) : List α → List β → Prop
  | nil : All2 R [] []
  | cons {x : α} {y : β} {xs : List α} {ys : List β} : R x y → All2 R xs ys → All2 R (x :: xs) (y :: ys)
theorem All2.len {α β : Type} {R : α → β → Prop} : ∀ {xs : List α} {ys : List β}, All2 R xs ys → xs.length = ys.length
  | _, _, .nil => rfl
  | _, _, .cons _ h => by rw [List.length_cons, List.length_cons, h.len]
section
variable {α β : Type} {a b : α} {S S' : Sta} {ε ε' : Env} {c : Prop} [Decidable c]
@[simp] theorem ite_ok : (if c then Out.ok a S else Out.ok b S) = Out.ok (if c then a else b) S := by split <;> rfl
@[simp] theorem ite_bl {x y : Bool} : (if c then PV.bl x else PV.bl y) = .bl (if c then x else y) := by split <;> rfl
@[simp] theorem ite_int {x y : Int} : (if c then PV.int x else PV.int y) = .int (if c then x else y) := by split <;> rfl
@[simp] theorem envOf_ap {len : Nat} {ps : List PV} : envOf len ps = ps.map some ++ List.replicate (len - ps.length) none := id rfl
@[simp] theorem wipeP_nil : wipeP ε [] = ε := id rfl
@[simp] theorem wipeP_cons {i : Nat} {vs : List Nat} : wipeP ε (i :: vs) = (wipeP ε vs).set i none := id rfl
theorem bools_map (xs : List β) (f : β → Bool) : bools (xs.map fun x => .bl (f x)) = some (xs.map f) := by
  induction xs with
  | nil => rfl
  | cons x xs ih => simp only [List.map_cons, bools, ih]; rfl
theorem all_id_map (xs : List β) (f : β → Bool) : (xs.map f).all id = xs.all f := by rw [List.all_map]; rfl
/-- a comprehension whose parts change nothing -/
theorem lcLoop_map {g : MG} {mc : Env → Sta → Out Bool} {me : Env → Sta → Out PV} {pins : List (Nat × List PV)} (f : PV → PV) (hp : pinsOk S pins = true) : ∀ (xs acc : List PV), (∀ x, x ∈ xs → ∃ ε1, g x ε S = .ok ε1 S ∧ mc ε1 S = .ok true S ∧ me ε1 S = .ok (f x) S) → acc.length + xs.length ≤ 100000 → lcLoop g mc me pins ε xs acc S = .ok (acc ++ xs.map f) S
  | [], acc, _, _ => by simp [lcLoop, hp]
  | x :: xs, acc, h, hl => by
    obtain ⟨ε1, h1, h2, h3⟩ := h x (by simp)
    have hl' : acc.length < 100000 := by simp at hl; omega
    have ih := lcLoop_map (mc := mc) (me := me) f hp xs (acc ++ [f x]) (fun y hy => h y (List.mem_cons_of_mem _ hy)) (by simp at hl ⊢; omega)
    simp [lcLoop, hp, h1, h2, h3, hl', ih]
/-- a loop of which each turn goes on -/
theorem loop_nx {g : MG} {mb : Env → Sta → Flow} {pins : List (Nat × List PV)} (I : List PV → Env → Sta → Prop) (hs : ∀ x xs ε S, I (x :: xs) ε S → pinsOk S pins = true ∧ ∃ ε1 S1, g x ε S = .ok ε1 S1 ∧ ∃ ε2 S2, mb ε1 S1 = .nx ε2 S2 ∧ I xs ε2 S2) (he : ∀ ε S, I [] ε S → pinsOk S pins = true) : ∀ (xs : List PV) (ε : Env) (S : Sta), I xs ε S → ∃ ε' S', loop g mb pins xs ε S = .nx ε' S' ∧ I [] ε' S'
  | [], ε, S, h => ⟨ε, S, by simp [loop, he ε S h], h⟩
  | x :: xs, ε, S, h => by
    obtain ⟨hp, ε1, S1, h1, ε2, S2, h2, h3⟩ := hs x xs ε S h
    obtain ⟨ε', S', h4, h5⟩ := loop_nx I hs he xs ε2 S2 h3
    refine ⟨ε', S', ?_, h5⟩
    simp [loop, hp, h1, h2, h4]
theorem items_look {x : PV} {k : Bool} {xs : List PV} (h : items S x = some (k, xs)) : look S x = if k = true then .lst xs else .tup xs := by
  unfold items at h
  split at h
  · rename_i ys e; cases h; exact e
  · rename_i ys e; cases h; exact e
  · cases h
theorem fTuple_it {x : PV} {k : Bool} {xs : List PV} (h : items S x = some (k, xs)) : fTuple [x] S = .ok (.tup xs) S := by
  rw [fTuple_ap, items_look h]
  cases k <;> rfl
theorem fLen_it {x : PV} {k : Bool} {xs : List PV} (h : items S x = some (k, xs)) : fLen [x] S = .ok (.int (xs.length : Int)) S := by
  rw [fLen_ap, items_look h]
  cases k <;> rfl
theorem items_ty {x : PV} {k : Bool} {xs : List PV} (h : items S x = some (k, xs)) : (tyP S x).isSome = true := by
  have := items_look h
  unfold tyP
  rw [this]
  cases k <;> rfl
theorem seqIt_pin {p : PV} {k : Bool} {it : IT} (e : seqIt S p = some (k, it)) : pinsOk S it.pins = true := by
  cases p <;> first | (cases e; done) | (cases e; rfl) | skip
  simp only [seqIt] at e
  split at e
  · rename_i xs q
    cases e
    exact pinsOk_1 q
  · cases e
theorem items_it {p : PV} {k : Bool} {xs : List PV} (e : items S p = some (k, xs)) : ∃ pins, seqIt S p = some (k, ⟨xs, pins⟩) := by
  cases p <;> first | (cases e; done) | (cases e; exact ⟨[], rfl⟩) | skip
  rename_i n
  simp only [items_mu, look_mu'] at e
  simp only [seqIt]
  cases h : S[n]? with
  | none => rw [h] at e; cases e
  | some c =>
    rw [h] at e
    cases c <;> first | (cases e; done) | skip
    cases e
    exact ⟨_, rfl⟩
/-! ### what holds no cell -/
mutual
theorem frz_flat (k : Nat) (S : Sta) : ∀ p : PV, clean 0 p = true → frz k S p = some p
  | .non, _ => by simp only [frz]
  | .bl _, _ => by simp only [frz]
  | .int _, _ => by simp only [frz]
  | .str _, _ => by simp only [frz]
  | .tup xs, h => by simp only [clean] at h; simp only [frz, frzs_flat k S xs h, Option.map_some]
  | .lst xs, h => by simp only [clean] at h; simp only [frz, frzs_flat k S xs h, Option.map_some]
  | .kls xs, h => by simp only [clean] at h; simp only [frz, frzs_flat k S xs h, Option.map_some]
  | .obj _ _ xs, h => by simp only [clean] at h; simp only [frz, frzs_flat k S xs h, Option.map_some]
  | .mu n, h => by simp [clean] at h
  | .xv n, h => by simp [clean] at h
theorem frzs_flat (k : Nat) (S : Sta) : ∀ ps : List PV, cleans 0 ps = true → frzs k S ps = some ps
  | [], _ => by simp only [frzs]
  | p :: ps, h => by
    simp only [cleans, Bool.and_eq_true] at h
    simp only [frzs, frz_flat k S p h.1, frzs_flat k S ps h.2]
end
def flatC : Cell → Bool
  | .lst xs => cleans 0 xs
  | .obj _ _ xs => cleans 0 xs
  | .dead => true
def flatS (S : Sta) : Bool := S.all flatC
theorem frzCs_flat (k : Nat) (S : Sta) : ∀ cs : List Cell, cs.all flatC = true → frzCs k S cs = some cs
  | [], _ => by simp only [frzCs]
  | c :: cs, h => by
    rw [List.all_cons, Bool.and_eq_true] at h
    have hc : frzC k S c = some c := by
      cases c with
      | lst xs => simp only [frzC, frzs_flat k S xs h.1, Option.map_some]
      | obj _ _ xs => simp only [frzC, frzs_flat k S xs h.1, Option.map_some]
      | dead => simp only [frzC]
    simp only [frzCs, hc, frzCs_flat k S cs h.2]
theorem leave_flat {T : Sta} {ps : List PV} (hS : flatS S = true) (hp : cleans 0 ps = true) : leave S.length ps (S ++ T) = some (ps, S) := by
  unfold leave
  split
  · rename_i h
    have : T = [] := by
      rw [List.length_append] at h
      exact List.length_eq_zero_iff.mp (by omega)
    rw [this, List.append_nil]
  · rw [frzs_flat _ _ _ hp, List.take_left', frzCs_flat _ _ _ hS]
    rfl
theorem give_flat {T : Sta} {p : PV} (hS : flatS S = true) (hp : clean 0 p = true) : give S.length p (S ++ T) = .ok p S := by
  unfold give
  rw [leave_flat hS (by simp only [cleans, hp, Bool.and_self])]
theorem flat_map {γ : Type} (f : γ → PV) (h : ∀ x, clean 0 (f x) = true) : ∀ xs : List γ, cleans 0 (xs.map f) = true
  | [] => rfl
  | x :: xs => by simp only [List.map_cons, cleans, h x, flat_map f h xs, Bool.and_self]
theorem flat_ints (ns : List Int) : cleans 0 (ns.map PV.int) = true := flat_map _ (fun _ => rfl) ns
theorem flat_app : ∀ xs ys : List PV, cleans 0 (xs ++ ys) = (cleans 0 xs && cleans 0 ys)
  | [], ys => by simp [cleans]
  | x :: xs, ys => by simp only [List.cons_append, cleans, flat_app xs ys, Bool.and_assoc]
theorem leaveE_flat {T : Sta} {ε : Env} (hS : flatS S = true) : leaveE S.length ε (S ++ T) = some (if S.length + T.length ≤ S.length then ε else ε.map (frzO S.length (S ++ T)), S) := by
  unfold leaveE
  rw [List.length_append]
  split
  · rename_i h
    have : T = [] := List.length_eq_zero_iff.mp (by omega)
    rw [this, List.append_nil]
  · rw [List.take_left', frzCs_flat _ _ _ hS]
    rfl
/-- a law's body that ends with True -/
def Done (f : Flow) : Prop := ∃ T, calm (fin false 0 f) = .ok (.bl true) T
theorem done_rt : Done (.rt (.bl true) S) := ⟨[], by
  have := give_flat (S := []) (T := S) (p := .bl true) rfl rfl
  rw [List.nil_append] at this
  show calm (give 0 (.bl true) S) = _
  rw [show (0 : Nat) = ([] : Sta).length from rfl, this]
  rfl⟩
theorem done_law {n len : Nat} {body : Env → Sta → Flow} {ps : List PV} (h : ps.length = n) (k : Done (body (envOf len ps) [])) : ∃ T, calmF (defM false n len body) ps [] = .ok (.bl true) T := by
  obtain ⟨T, e⟩ := k
  exact ⟨T, by rw [calmF_ap, defM_run h]; exact e⟩
theorem done_seq {A B : Env → Sta → Flow} (h : A ε S = .nx ε' S') (k : Done (B ε' S')) : Done (SeqS A B ε S) := by
  unfold SeqS
  rw [h]
  exact k
theorem done_end {A : Env → Sta → Flow} (h : A ε S = .rt (.bl true) S') : Done (A ε S) := h ▸ done_rt
/-- a for statement of which each turn goes on -/
theorem done_for {mi : Env → Sta → Out IT} {g : MG} {mb B : Env → Sta → Flow} {S1 : Sta} {it : IT} (I : List PV → Env → Sta → Prop) (hi : mi ε S = .ok it S1) (h0 : I it.xs ε S1) (hp : ∀ xs ε S, I xs ε S → pinsOk S it.pins = true)
    (hs : ∀ x xs ε S, I (x :: xs) ε S → ∃ ε1 S1, g x ε S = .ok ε1 S1 ∧ ∃ ε2 S2, mb ε1 S1 = .nx ε2 S2 ∧ I xs ε2 S2) (k : ∀ ε' S', I [] ε' S' → Done (B ε' S')) : Done (SeqS (ForS mi g mb) B ε S) := by
  obtain ⟨ε', S', e, hI⟩ := loop_nx (g := g) (mb := mb) I (fun x xs ε S h => ⟨hp _ _ _ h, hs x xs ε S h⟩) (fun ε S h => hp _ _ _ h) it.xs ε S1 h0
  refine done_seq (ε' := ε') (S' := S') ?_ (k ε' S' hI)
  rw [ForS_ap, hi]
  exact e
/-! ### the bag -/
def bagC (b : BS) : Cell := .lst [.lst (b.ns.map .int), .int b.i, .int b.g, .int b.c, .int b.s]
theorem flat_bag (b : BS) : flatC (bagC b) = true := by
  simp only [bagC, flatC, cleans, clean, flat_ints, Bool.and_self]
structure Bi (b : BS) : Prop where
  i0 : 0 ≤ b.i
  g0 : 0 ≤ b.g
  c0 : 0 ≤ b.c
  s0 : 0 ≤ b.s
  s1 : b.s < 2147483647
theorem lim_log {lim : Int} (h1 : 1 ≤ lim) (h2 : lim ≤ 10 ^ 30) : 0 < lim ∧ lim.natAbs.log2 < 9000 := (lim_wide h1 h2).imp id id
theorem log65536 : Nat.log2 65536 < 9000 := by decide
theorem log7 : Nat.log2 7 < 9000 := by decide
theorem mix1_r (s c z : Int) : 0 ≤ mix1 s c z ∧ mix1 s c z < 2147483647 := ⟨Int.emod_nonneg _ (by decide), Int.emod_lt_of_pos _ (by decide)⟩
theorem bi_db {b : BS} {lim : Int} (h : Bi b) (h1 : 1 ≤ lim) : Bi (db b lim) := by
  obtain ⟨p, ns, i, g, c, s⟩ := b
  obtain ⟨h0i, h0g, h0c, h0s, hs⟩ := h
  dsimp only at h0i h0g h0c h0s hs
  have a0 : ∀ z : Int, 0 ≤ absI z := fun z => by unfold absI; split <;> omega
  unfold db drw
  split
  · exact ⟨h0i, Int.ediv_nonneg h0g (by omega), by dsimp only; omega, h0s, hs⟩
  · split
    · split
      · exact ⟨by dsimp only; omega, Int.ediv_nonneg (a0 _) (by omega), by dsimp only; omega, h0s, hs⟩
      · exact ⟨by dsimp only; omega, h0g, by dsimp only; omega, (mix1_r _ _ _).1, (mix1_r _ _ _).2⟩
    · exact ⟨h0i, h0g, by dsimp only; omega, (mix1_r _ _ _).1, (mix1_r _ _ _).2⟩
theorem db_c {b : BS} {lim : Int} : (db b lim).c = b.c + 1 := by
  unfold db drw
  split
  · rfl
  · split
    · split <;> rfl
    · rfl
/-- a bag from which k more draws may be made -/
structure BOk (b : BS) (k : Nat) : Prop where
  i : Bi b
  c : b.c + k ≤ 1000000000
theorem BOk.less {b : BS} {n m : Nat} (h : BOk b n) (k : m ≤ n) : BOk b m := ⟨h.i, by have := h.c; omega⟩
theorem bok_db {b : BS} {n : Nat} {lim : Int} (h : BOk b (n + 1)) (h1 : 1 ≤ lim) : BOk (db b lim) n := ⟨bi_db h.i h1, by rw [db_c]; have := h.c; omega⟩
/-- a comprehension whose items draw: at most k times each -/
theorem lcLoop_bag {g : MG} {mc : Env → Sta → Out Bool} {me : Env → Sta → Out PV} {pins : List (Nat × List PV)} {T : Sta} {k : Nat} (R : PV → PV → Prop) (hp : ∀ b, pinsOk (bagC b :: T) pins = true) : ∀ (xs acc : List PV) (n : Nat) (b : BS), (∀ x b n, x ∈ xs → BOk b (n + k) → ∃ ε1, g x ε (bagC b :: T) = .ok ε1 (bagC b :: T) ∧ mc ε1 (bagC b :: T) = .ok true (bagC b :: T) ∧ ∃ y b', me ε1 (bagC b :: T) = .ok y (bagC b' :: T) ∧ BOk b' n ∧ R x y) → acc.length + xs.length ≤ 100000 → BOk b (n + k * xs.length) →
    ∃ ys b', lcLoop g mc me pins ε xs acc (bagC b :: T) = .ok (acc ++ ys) (bagC b' :: T) ∧ BOk b' n ∧ All2 R xs ys
  | [], acc, n, b, _, _, hb => ⟨[], b, by simp [lcLoop, hp], hb, .nil⟩
  | x :: xs, acc, n, b, h, hl, hb => by
    have hb1 : BOk b ((n + k * xs.length) + k) := hb.less (by rw [List.length_cons, Nat.mul_succ]; omega)
    obtain ⟨ε1, h1, h2, y, b1, h3, h4, h5⟩ := h x b _ (by simp) hb1
    have hl' : acc.length < 100000 := by simp at hl; omega
    obtain ⟨ys, b', h6, h7, h8⟩ := lcLoop_bag (mc := mc) (me := me) R hp xs (acc ++ [y]) n b1 (fun z c m hz => h z c m (List.mem_cons_of_mem _ hz)) (by simp at hl ⊢; omega) h4
    exact ⟨y :: ys, b', by simp [lcLoop, hp, h1, h2, h3, hl', h6], h7, .cons h5 h8⟩
end
end Fx
namespace Fx
open PySem PySem.Spec PyProof.Rows L2 Co
/-! ### data of modest size: their repr, their == -/
theorem int_len {i : Int} (h : i.natAbs < 10 ^ 40) : (PyData.int i).shown.length ≤ 41 := by
  have e := int_text_length_le10 (k := 40) (by decide) h
  rw [PyData.shown.eq_3, PySem.ofString_length]
  exact e
mutual
def modest : D → Bool
  | .none => true
  | .bool _ => true
  | .int i => decide (i.natAbs < 10 ^ 40)
  | .str s => s.cps.toList.all fun c => decide (c < 1114112)
  | .list xs => modests xs
  | .tuple xs => modests xs
  | .dict _ => false
def modests : List D → Bool
  | [] => true
  | d :: ds => modest d && modests ds
end
theorem log_small {n : Nat} (h : n < 10 ^ 40) : n.log2 < 1920 := by
  by_cases z : n = 0
  · subst z; decide
  · rw [Nat.log2_lt z]
    exact Nat.lt_of_lt_of_le h (Nat.le_trans (by decide : (10 : Nat) ^ 40 ≤ 2 ^ 133) (Nat.pow_le_pow_right (by decide) (by decide)))
mutual
theorem modest_ok : ∀ d : D, modest d = true → d.showable = true ∧ PyData.leavesShort 64 d = true ∧ d.canLay0 = true ∧ d.hasDict = false
  | .none, _ => by simp [PyData.showable, PyData.leavesShort, PyData.canLay0, PyData.hasDict]
  | .bool _, _ => by simp [PyData.showable, PyData.leavesShort, PyData.canLay0, PyData.hasDict]
  | .int i, h => by
    simp only [modest, decide_eq_true_eq] at h
    have h1 := int_len h
    have h2 := log_small h
    refine ⟨?_, ?_, ?_, ?_⟩
    · simp only [PyData.showable, decide_eq_true_eq]; exact h2
    · simp only [PyData.leavesShort, decide_eq_true_eq]; omega
    · simp only [PyData.canLay0]
    · simp only [PyData.hasDict]
  | .str s, h => by
    simp only [modest, List.all_eq_true, decide_eq_true_eq] at h
    refine ⟨?_, ?_, ?_, ?_⟩
    · simp only [PyData.showable]
    · simp only [PyData.leavesShort, List.all_eq_true, decide_eq_true_eq]
      intro c hc
      exact Nat.lt_of_lt_of_le (h c hc) (by decide)
    · simp only [PyData.canLay0, PyData.strOk]
      rw [Array.all_eq_true']
      intro c hc
      exact decide_eq_true (h c (by simpa using hc))
    · simp only [PyData.hasDict]
  | .list xs, h => by
    simp only [modest] at h
    obtain ⟨h1, h2, h3, h4⟩ := modests_ok xs h
    exact ⟨by simpa only [PyData.showable] using h1, by simpa only [PyData.leavesShort] using h2, by simpa only [PyData.canLay0] using h3, by simpa only [PyData.hasDict] using h4⟩
  | .tuple xs, h => by
    simp only [modest] at h
    obtain ⟨h1, h2, h3, h4⟩ := modests_ok xs h
    exact ⟨by simpa only [PyData.showable] using h1, by simpa only [PyData.leavesShort] using h2, by simpa only [PyData.canLay0] using h3, by simpa only [PyData.hasDict] using h4⟩
  | .dict _, h => by simp [modest] at h
theorem modests_ok : ∀ ds : List D, modests ds = true → PyData.showableAll ds = true ∧ PyData.leavesShortAll 64 ds = true ∧ PyData.canLayAll0 ds = true ∧ PyData.hasDictAll ds = false
  | [], _ => by simp [PyData.showableAll, PyData.leavesShortAll, PyData.canLayAll0, PyData.hasDictAll]
  | d :: ds, h => by
    simp only [modests, Bool.and_eq_true] at h
    obtain ⟨h1, h2, h3, h4⟩ := modest_ok d h.1
    obtain ⟨g1, g2, g3, g4⟩ := modests_ok ds h.2
    simp [PyData.showableAll, PyData.leavesShortAll, PyData.canLayAll0, PyData.hasDictAll, h1, h2, h3, h4, g1, g2, g3, g4]
end
structure Fit (d : D) : Prop where
  m : modest d = true
  dep : d.depth ≤ 20
  bulk : d.bulk ≤ 10000
theorem Fit.shaped {d : D} (h : Fit d) : SeqAt.shaped d = true := by
  have h1 := (modest_ok d h.m).2.2.1
  have h2 : d.depth ≤ 64 := Nat.le_trans h.dep (by decide)
  simp [SeqAt.shaped, h1, h2]
theorem Fit.repr {d : D} (h : Fit d) : d.showable = true ∧ d.depth ≤ 60 ∧ d.shown.length ≤ 1000000 := by
  obtain ⟨h1, h2, _, _⟩ := modest_ok d h.m
  refine ⟨h1, Nat.le_trans h.dep (by decide), ?_⟩
  have := PyData.shown_le_bulk 64 (by decide) d h2
  have hb := h.bulk
  omega
theorem fEq_refl {S : Sta} {p : PV} {d : D} (e : dat S p = some d) (h : Fit d) : fEq S p p = some (.bl true) := by
  unfold fEq
  rw [e]
  simp only [h.shaped, and_self, if_true, eqv_refl d (modest_ok d h.m).2.2.2]
theorem fNe_refl {S : Sta} {p : PV} {d : D} (e : dat S p = some d) (h : Fit d) : fNe S p p = some (.bl false) := by
  unfold fNe
  rw [e]
  simp only [h.shaped, and_self, if_true, eqv_refl d (modest_ok d h.m).2.2.2, Bool.not_true]
theorem fRepr_fit {S : Sta} {p : PV} {d : D} (e : dat S p = some d) (h : Fit d) : fRepr [p] S = .ok (.str d.shown) S := by
  obtain ⟨h1, h2, h3⟩ := h.repr
  rw [fRepr_ap, e]
  simp only [h1, h2, h3, and_self, if_true]
theorem dats_ints (S : Sta) : ∀ ns : List Int, dats S (ns.map PV.int) = some (ns.map PyData.int)
  | [] => by simp [dats]
  | n :: ns => by simp [dats, dat, dats_ints S ns]
theorem dats_app (S : Sta) : ∀ {xs ys : List PV} {ds es : List D}, dats S xs = some ds → dats S ys = some es → dats S (xs ++ ys) = some (ds ++ es)
  | [], ys, ds, es, h1, h2 => by simp only [dats, Option.some.injEq] at h1; subst h1; exact h2
  | x :: xs, ys, ds, es, h1, h2 => by
    simp only [dats] at h1
    split at h1
    · rename_i d ds' e1 e2
      cases h1
      simp only [List.cons_append, dats, e1, dats_app S e2 h2]
    · cases h1
theorem modests_ints {ns : List Int} (h : ∀ n ∈ ns, n.natAbs < 10 ^ 40) : modests (ns.map PyData.int) = true := by
  induction ns with
  | nil => rfl
  | cons n ns ih => simp only [List.map_cons, modests, modest, h n (by simp), decide_true, ih fun m hm => h m (List.mem_cons_of_mem _ hm), Bool.and_self]
theorem depth_ints : ∀ ns : List Int, PyData.depthAll (ns.map PyData.int) = 0
  | [] => by simp [PyData.depthAll]
  | n :: ns => by simp [PyData.depthAll, PyData.depth, depth_ints ns]
theorem bulk_ints : ∀ ns : List Int, PyData.bulkAll (ns.map PyData.int) = ns.length
  | [] => by simp [PyData.bulkAll]
  | n :: ns => by simp [PyData.bulkAll, PyData.bulk, bulk_ints ns]; omega
theorem fit_intsL {ns : List Int} (h : ∀ n ∈ ns, n.natAbs < 10 ^ 40) (hl : ns.length ≤ 9000) : Fit (.list (ns.map .int)) := ⟨by simp only [modest]; exact modests_ints h, by simp [PyData.depth, depth_ints], by simp [PyData.bulk, bulk_ints]; omega⟩
theorem fit_intsT {ns : List Int} (h : ∀ n ∈ ns, n.natAbs < 10 ^ 40) (hl : ns.length ≤ 9000) : Fit (.tuple (ns.map .int)) := ⟨by simp only [modest]; exact modests_ints h, by simp [PyData.depth, depth_ints], by simp [PyData.bulk, bulk_ints]; omega⟩
mutual
theorem dat_app {S : Sta} (T : Sta) : ∀ (p : PV) (d : D), dat S p = some d → dat (S ++ T) p = some d
  | .non, d, h => by simpa only [dat] using h
  | .bl _, d, h => by simpa only [dat] using h
  | .int _, d, h => by simpa only [dat] using h
  | .str _, d, h => by simpa only [dat] using h
  | .tup xs, d, h => by
    simp only [dat] at h ⊢
    obtain ⟨ds, q1, rfl⟩ := Option.map_eq_some_iff.mp h
    rw [datsS_app T xs ds q1]
    rfl
  | .lst xs, d, h => by
    simp only [dat] at h ⊢
    obtain ⟨ds, q1, rfl⟩ := Option.map_eq_some_iff.mp h
    rw [datsS_app T xs ds q1]
    rfl
  | .kls xs, d, h => by
    simp only [dat] at h ⊢
    obtain ⟨ds, q1, rfl⟩ := Option.map_eq_some_iff.mp h
    rw [datsS_app T xs ds q1]
    rfl
  | .obj _ _ _, d, h => by simp only [dat] at h; cases h
  | .mu n, d, h => by
    simp only [dat] at h ⊢
    cases e : S[n]? with
    | none => rw [e] at h; cases h
    | some c => rw [e] at h; rw [List.getElem?_append_left (List.getElem?_eq_some_iff.mp e).1, e]; exact h
  | .xv n, d, h => by simp only [dat] at h; cases h
theorem datsS_app {S : Sta} (T : Sta) : ∀ (ps : List PV) (ds : List D), dats S ps = some ds → dats (S ++ T) ps = some ds
  | [], ds, h => by simpa only [dats] using h
  | p :: ps, ds, h => by
    simp only [dats] at h ⊢
    split at h
    · rename_i d ds' e1 e2
      cases h
      rw [dat_app T p d e1, datsS_app T ps ds' e2]
    · cases h
end
theorem modests_all {ds : List D} (h : ∀ x ∈ ds, modest x = true) : modests ds = true := by
  induction ds with
  | nil => rfl
  | cons d ds ih => simp only [modests, h d (by simp), ih fun m hm => h m (List.mem_cons_of_mem _ hm), Bool.and_self]
theorem depth_all {ds : List D} {k : Nat} (h : ∀ x ∈ ds, x.depth ≤ k) : PyData.depthAll ds ≤ k := by
  induction ds with
  | nil => simp [PyData.depthAll]
  | cons d ds ih =>
    have h1 := h d (by simp)
    have h2 := ih fun m hm => h m (List.mem_cons_of_mem _ hm)
    simp only [PyData.depthAll]
    omega
theorem bulk_all {ds : List D} {k : Nat} (h : ∀ x ∈ ds, x.bulk ≤ k) : PyData.bulkAll ds ≤ ds.length * (k + 1) := by
  induction ds with
  | nil => simp [PyData.bulkAll]
  | cons d ds ih =>
    have h1 := h d (by simp)
    have h2 := ih fun m hm => h m (List.mem_cons_of_mem _ hm)
    simp only [PyData.bulkAll, List.length_cons, Nat.succ_mul]
    omega
theorem fit_L {ds : List D} {k : Nat} (hm : ∀ x ∈ ds, modest x = true) (hd : ∀ x ∈ ds, x.depth ≤ 10) (hb : ∀ x ∈ ds, x.bulk ≤ k) (hl : ds.length * (k + 1) ≤ 10000) : Fit (.list ds) :=
  ⟨by simp only [modest]; exact modests_all hm, by simp only [PyData.depth]; have := depth_all hd; omega, by simp only [PyData.bulk]; have := bulk_all hb; omega⟩
theorem fit_T {ds : List D} {k : Nat} (hm : ∀ x ∈ ds, modest x = true) (hd : ∀ x ∈ ds, x.depth ≤ 10) (hb : ∀ x ∈ ds, x.bulk ≤ k) (hl : ds.length * (k + 1) ≤ 10000) : Fit (.tuple ds) :=
  ⟨by simp only [modest]; exact modests_all hm, by simp only [PyData.depth]; have := depth_all hd; omega, by simp only [PyData.bulk]; have := bulk_all hb; omega⟩
/-- values that are data whatever the state is -/
structure Dv (p : PV) (d : D) (k : Nat) : Prop where
  t : toD p = some d
  m : modest d = true
  dep : d.depth ≤ 10
  bulk : d.bulk ≤ k
mutual
theorem dat_toD (S : Sta) : ∀ (p : PV) (d : D), toD p = some d → dat S p = some d
  | .non, d, h => by simpa only [toD, dat] using h
  | .bl _, d, h => by simpa only [toD, dat] using h
  | .int _, d, h => by simpa only [toD, dat] using h
  | .str _, d, h => by simpa only [toD, dat] using h
  | .tup xs, d, h => by
    simp only [toD] at h
    obtain ⟨ds, q1, rfl⟩ := Option.map_eq_some_iff.mp h
    simp only [dat, dats_toDs S xs ds q1, Option.map_some]
  | .lst xs, d, h => by
    simp only [toD] at h
    obtain ⟨ds, q1, rfl⟩ := Option.map_eq_some_iff.mp h
    simp only [dat, dats_toDs S xs ds q1, Option.map_some]
  | .kls xs, d, h => by
    simp only [toD] at h
    obtain ⟨ds, q1, rfl⟩ := Option.map_eq_some_iff.mp h
    simp only [dat, dats_toDs S xs ds q1, Option.map_some]
  | .obj _ _ _, d, h => by simp only [toD] at h; cases h
  | .mu _, d, h => by simp only [toD] at h; cases h
  | .xv _, d, h => by simp only [toD] at h; cases h
theorem dats_toDs (S : Sta) : ∀ (ps : List PV) (ds : List D), toDs ps = some ds → dats S ps = some ds
  | [], ds, h => by simpa only [toDs, dats] using h
  | p :: ps, ds, h => by
    simp only [toDs] at h
    split at h
    · rename_i d ds' e1 e2
      cases h
      simp only [dats, dat_toD S p d e1, dats_toDs S ps ds' e2]
    · cases h
end
theorem toDs_all {k : Nat} : ∀ {ps : List PV}, (∀ p ∈ ps, ∃ d, Dv p d k) → ∃ ds, toDs ps = some ds ∧ ds.length = ps.length ∧ (∀ x ∈ ds, modest x = true) ∧ (∀ x ∈ ds, x.depth ≤ 10) ∧ ∀ x ∈ ds, x.bulk ≤ k
  | [], _ => ⟨[], by simp only [toDs], rfl, (fun _ h => by cases h), (fun _ h => by cases h), fun _ h => by cases h⟩
  | p :: ps, h => by
    obtain ⟨d, hd⟩ := h p (by simp)
    obtain ⟨ds, e, l, h1, h2, h3⟩ := toDs_all fun q hq => h q (List.mem_cons_of_mem _ hq)
    refine ⟨d :: ds, by simp only [toDs, hd.t, e], by simp [l], fun x hx => ?_, fun x hx => ?_, fun x hx => ?_⟩
    · rcases List.mem_cons.mp hx with rfl | hx; exact hd.m; exact h1 x hx
    · rcases List.mem_cons.mp hx with rfl | hx; exact hd.dep; exact h2 x hx
    · rcases List.mem_cons.mp hx with rfl | hx; exact hd.bulk; exact h3 x hx
theorem dv_int {i : Int} {k : Nat} (h : i.natAbs < 10 ^ 40) : Dv (.int i) (.int i) k := ⟨by simp only [toD], by simp only [modest, h, decide_true], by simp [PyData.depth], by simp [PyData.bulk]⟩
theorem dv_bl {b : Bool} {k : Nat} : Dv (.bl b) (.bool b) k := ⟨by simp only [toD], by simp only [modest], by simp [PyData.depth], by simp [PyData.bulk]⟩
theorem dv_non {k : Nat} : Dv .non .none k := ⟨by simp only [toD], by simp only [modest], by simp [PyData.depth], by simp [PyData.bulk]⟩
theorem Dv.fit {p : PV} {d : D} {k : Nat} (h : Dv p d k) (hk : k ≤ 10000) : Fit d := ⟨h.m, Nat.le_trans h.dep (by decide), Nat.le_trans h.bulk hk⟩
end Fx
namespace Fx
open PySem PySem.Spec PyProof.Rows L2 Co
/-! ### the end of a law -/
theorem fnG_weak {P : Program} {w : World} {K : PySem.W.Frag} {mg : Str → Option Value} {base : Heap} {CX : CXT} {k : Nat} {f : Addr} {fd : FuncData} {ps : List Str} {sp sp' : Sp} (F : FnG P w K mg base CX k f fd ps sp) (h : ∀ vs H Q E, sp' vs H Q E → sp vs H Q E) : FnG P w K mg base CX k f fd ps sp' :=
  ⟨fun vs H Q E q => F.len vs H Q E (h vs H Q E q), fun A outer s H args us vs Q E ga hr e0 bd va q => F.run A outer s H args us vs Q E ga hr e0 bd va (h vs H Q E q)⟩
theorem fnG_fnOk {P : Program} {w : World} {K : PySem.W.Frag} {mg : Str → Option Value} {base : Heap} {CX : CXT} {k : Nat} {f : Addr} {fd : FuncData} {ps : List Str} {sp : Sp} (F : FnOk P w K mg base CX k f fd ps sp) : FnG P w K mg base CX k f fd ps sp :=
  ⟨F.len, fun A outer s H args us vs Q E _ hr e0 bd va q => F.run A outer s H args us vs Q E hr e0 bd va q⟩
/-- a script in, True out -/
def spScr (K : PySem.W.Frag) : Sp := fun vs H Q _ => ∃ (a : Addr) (ns : List Int), vs = [.ref a] ∧ SqL K H a (ns.map V.int) ∧ ns.length ≤ 63 ∧ ∀ H', Q (.bl true) H'
theorem scr_of {M : Md} {f : FC} (hf : ∀ ns : List Int, ns.length ≤ 63 → ∃ T, f [.kls (ns.map .int)] [] = .ok (.bl true) T) : ∀ vs H Q E, spScr M.K vs H Q E → spM M f vs H Q E := fun vs H Q E ⟨a, ns, hv, hs, hl, q⟩ => by
  obtain ⟨T, e⟩ := hf ns hl
  subst hv
  refine ⟨⟨H, []⟩, [], [.kls (ns.map .int)], ⟨Same.refl _, rfl, fun n m a h => (by simp at h), fun a h => (by cases h), fun n a c h => (by simp at h)⟩, .cons (.kls hs rpa_intsP) .nil, ?_⟩
  rw [e]
  intro v W' H' g r p
  cases p
  exact q H'
theorem exm_same {K : PySem.W.Frag} {S : Addr} (h1 : PySem.W.subIn K (.ref S) (.type "BaseException") = some true) (h2 : PySem.W.isClsIn K S = true) (h3 : PySem.W.typeIn K (.ref S) = some (.type "type")) (h4 : PySem.W.subIn K (.ref S) (.ref S) = some true) : PySem.W.exmOne K (.ref S) (.ref S) = some true := by
  have h5 : (PySem.W.clsIn K S).isSome = true := h2
  have a1 : (PySem.W.subIn K (.ref S) (.type "BaseException") == some true) = true := by rw [h1]; rfl
  have a2 : ((PySem.W.clsIn K S).isSome && PySem.W.typeIn K (.ref S) == some (.type "type")) = true := by rw [h5, h3]; rfl
  unfold PySem.W.exmOne
  simp only [a1, if_true]
  show (if ((PySem.W.clsIn K S).isSome && PySem.W.typeIn K (.ref S) == some (.type "type")) = true then PySem.W.subIn K (.ref S) (.ref S) else none) = some true
  rw [a2]
  exact h4
/-! ### what the top left, thing by thing -/
structure DefH (K : PySem.W.Frag) (x q : Str) (st : Stmt) (f : Addr) : Type where
  {oc kV dc pm cd ct : Value}
  {od an : Option Addr}
  {os : Array (Option Value)}
  l : K.lookup f = some ⟨oc, od, .func (PySem.W.fnOf x q (defArgs st) (defBody st) (defScope st) .none kV dc pm an cd ct), os⟩
  k : PySem.W.keepIn K (.ref f) = true
  x : PySem.W.codeIn K cd q = true
theorem DefH.fn {K : PySem.W.Frag} {x q : Str} {st : Stmt} {f : Addr} (h : DefH K x q st f) : ∃ fd, Fun K x q st f fd := ⟨_, fun_mk h.l h.x h.k⟩
/-- an error class with an __init__ of an own class -/
structure XinH (K : PySem.W.Frag) (c ini : Addr) : Type where
  {nm qn : Str}
  {N : Addr}
  {bs bm : List Value}
  {sn : List Str}
  {sb : List Value}
  {ab : Bool}
  {co : Option Bool}
  {dd : Option Addr}
  {m0 m1 m2 m3 m5 : Option Value}
  i : PySem.W.findIn K (.ref c) "__init__" = some (some (.ref ini))
  l : K.lookup c = some (excClassObj nm qn c N bs bm true sn sb ab co dd m0 m1 m2 m3 m5 "ValueError.__new__")
  xr : HandSPX.refsVE bm = true
  sa : PySem.W.findIn K (.ref c) "__setattr__" = some (some (.builtin "object.__setattr__"))
  ga : PySem.W.findIn K (.ref c) "__getattribute__" = some (some (.builtin "BaseException.__getattribute__"))
  gg : PySem.W.findIn K (.ref c) "__getattr__" = some none
  hd : PySem.W.hasDictIn K c = true
  ti : PySem.W.typeIn K (.ref ini) = some (.type "function")
  kc : PySem.W.keepIn K (.ref c) = true
  bc : PySem.W.subIn K (.ref c) (.type "BaseException") = some true
  tc : PySem.W.typeIn K (.ref c) = some (.type "type")
  ic : PySem.W.isClsIn K c = true
theorem XinH.o {K : PySem.W.Frag} {c ini : Addr} (h : XinH K c ini) : OexC K c := ⟨⟨_, _, _, _, _, _, _, _, _, _, _, _, _, _, _, h.l, h.xr⟩, h.sa, h.bc, h.tc, h.kc⟩
theorem XinH.xf {K : PySem.W.Frag} {c ini : Addr} (h : XinH K c ini) : XfC K c := ⟨h.ga, h.gg, h.bc, h.hd⟩
/-- an error class without one -/
structure X0H (K : PySem.W.Frag) (c : Addr) : Prop where
  e : PySem.W.excIn K c [.type "ValueError", .type "Exception", .type "BaseException", .type "object"] "ValueError.__new__" = true
  kc : PySem.W.keepIn K (.ref c) = true
  bc : PySem.W.subIn K (.ref c) (.type "BaseException") = some true
  tc : PySem.W.typeIn K (.ref c) = some (.type "type")
  ic : PySem.W.isClsIn K c = true
structure GaH (K : PySem.W.Frag) (c : Addr) : Prop where
  ga : PySem.W.findIn K (.ref c) "__getattribute__" = some (some (.builtin "BaseException.__getattribute__"))
  gg : PySem.W.findIn K (.ref c) "__getattr__" = some none
  hd : PySem.W.hasDictIn K c = true
/-- an own class of which instances are made -/
structure InsH (K : PySem.W.Frag) (c ini : Addr) : Prop where
  ii : PySem.W.findIn K (.ref c) "__init__" = some (some (.ref ini))
  mm : PySem.W.makesIn K c = true
  fn : PySem.W.isFn K (.ref ini) = true
  kc : PySem.W.keepIn K (.ref c) = true
  pg : PySem.W.plainGet K c Str.empty = true
  hd : PySem.W.hasDictIn K c = true
  po : PySem.W.plainOver K c = true
  sa : PySem.W.findIn K (.ref c) "__setattr__" = some (some (.builtin "object.__setattr__"))
end Fx
namespace Fx
open PySem PySem.Spec PyProof.Rows L2 Co
open He (ga ma fAd eqO eqO_ok ba)
/-! ### the head by one run in the kernel: what the top left, as truths that are read off the heap -/
abbrev Fb := PySem.W.Frag → Bool
structure XinP (K : PySem.W.Frag) (c ini : Addr) : Prop where
  o : OexC K c
  xf : XfC K c
  i : PySem.W.findIn K (.ref c) "__init__" = some (some (.ref ini))
  ti : PySem.W.typeIn K (.ref ini) = some (.type "function")
  ic : PySem.W.isClsIn K c = true
def shpB (K : PySem.W.Frag) (c : Addr) : Bool := match K.lookup c with
  | some ⟨.type "type", _, .cls cd, sl⟩ => (match cd.mro, sl.toList with
    | .ref C' :: bm, [_, _, _, _, some (.builtin n), _] => C' == c && n == "ValueError.__new__" && !cd.hasDel && cd.hasDict && HandSPX.refsVE bm
    | _, _ => false)
  | _ => false
theorem shp_ok {K : PySem.W.Frag} {c : Addr} (q : shpB K c = true) : ∃ nm qn N bs bm sn sub ab col dd k0 k1 k2 k3 k5, K.lookup c = some (excClassObj nm qn c N bs bm true sn sub ab col dd k0 k1 k2 k3 k5 "ValueError.__new__") ∧ PySem.HandSPX.refsVE bm = true := by
  unfold shpB at q
  split at q
  · rename_i dd cd sl ho
    split at q
    · rename_i C' bm k0 k1 k2 k3 n k5 hm hs
      simp only [Bool.and_eq_true, beq_iff_eq, Bool.not_eq_true'] at q
      obtain ⟨⟨⟨⟨rfl, rfl⟩, hdel⟩, hdc⟩, ht⟩ := q
      obtain ⟨nm, bs, mro, ns, qn, hd, sn, sub, ab, col, del⟩ := cd
      dsimp only at hm hdel hdc
      subst hm hdel hdc
      have hsl : sl = #[k0, k1, k2, k3, some (.builtin "ValueError.__new__"), k5] := by
        obtain ⟨l⟩ := sl
        simp only at hs
        rw [hs]
      subst hsl
      exact ⟨nm, qn, ns, bs, bm, sn, sub, ab, col, dd, k0, k1, k2, k3, k5, ho, ht⟩
    · cases q
  · cases q
def isV (a b : Option Value) : Bool := decide (a = b)
def isB (a : Option Bool) (b : Bool) : Bool := decide (a = some b)
def noF (c : Addr) (f : Str) : Fb := fun K => eqO (PySem.W.findIn K (.ref c) f) (some none)
theorem noF_ok {K : PySem.W.Frag} {c : Addr} {f : Str} (h : noF c f K = true) : PySem.W.findIn K (.ref c) f = some none := eqO_ok h
def fndB (K : PySem.W.Frag) (c : Addr) (f : Str) (v : Value) : Bool := eqO (PySem.W.findIn K (.ref c) f) (some (some v))
def gaB (K : PySem.W.Frag) (c : Addr) : Bool := fndB K c "__getattribute__" (.builtin "BaseException.__getattribute__") && (eqO (PySem.W.findIn K (.ref c) "__getattr__") (some none) && (PySem.W.hasDictIn K c))
theorem gaB_ok {K : PySem.W.Frag} {c : Addr} (h : gaB K c = true) : GaH K c := by
  obtain ⟨h1, h⟩ := ba h
  obtain ⟨h2, h3⟩ := ba h
  exact ⟨eqO_ok h1, eqO_ok h2, h3⟩
def xinB (K : PySem.W.Frag) (c ini : Addr) : Bool := shpB K c && (fndB K c "__setattr__" (.builtin "object.__setattr__") && (isB (PySem.W.subIn K (.ref c) (.type "BaseException")) true && (isV (PySem.W.typeIn K (.ref c)) (some (.type "type")) && (PySem.W.keepIn K (.ref c) && (gaB K c && (fndB K c "__init__" (.ref ini) &&
  (isV (PySem.W.typeIn K (.ref ini)) (some (.type "function")) && PySem.W.isClsIn K c)))))))
theorem xinB_ok {K : PySem.W.Frag} {c ini : Addr} (h : xinB K c ini = true) : XinP K c ini := by
  obtain ⟨h1, h⟩ := ba h
  obtain ⟨h2, h⟩ := ba h
  obtain ⟨h3, h⟩ := ba h
  obtain ⟨h4, h⟩ := ba h
  obtain ⟨h5, h⟩ := ba h
  obtain ⟨h6, h⟩ := ba h
  obtain ⟨h7, h⟩ := ba h
  obtain ⟨h8, h9⟩ := ba h
  have g := gaB_ok h6
  exact ⟨⟨shp_ok h1, eqO_ok h2, of_decide_eq_true h3, of_decide_eq_true h4, h5⟩, ⟨g.ga, g.gg, of_decide_eq_true h3, g.hd⟩, eqO_ok h7, of_decide_eq_true h8, h9⟩
def x0B (K : PySem.W.Frag) (c : Addr) : Bool := PySem.W.excIn K c He.veBase "ValueError.__new__" && (PySem.W.keepIn K (.ref c) && (isB (PySem.W.subIn K (.ref c) (.type "BaseException")) true && (isV (PySem.W.typeIn K (.ref c)) (some (.type "type")) && PySem.W.isClsIn K c)))
theorem x0B_ok {K : PySem.W.Frag} {c : Addr} (h : x0B K c = true) : X0H K c := by
  obtain ⟨h1, h⟩ := ba h
  obtain ⟨h2, h⟩ := ba h
  obtain ⟨h3, h⟩ := ba h
  obtain ⟨h4, h5⟩ := ba h
  exact ⟨h1, h2, of_decide_eq_true h3, of_decide_eq_true h4, h5⟩
def insB (K : PySem.W.Frag) (c ini : Addr) : Bool := fndB K c "__init__" (.ref ini) && (PySem.W.makesIn K c && (PySem.W.isFn K (.ref ini) && (PySem.W.keepIn K (.ref c) && (PySem.W.plainGet K c Str.empty && (PySem.W.hasDictIn K c && (PySem.W.plainOver K c && fndB K c "__setattr__" (.builtin "object.__setattr__")))))))
theorem insB_ok {K : PySem.W.Frag} {c ini : Addr} (h : insB K c ini = true) : InsH K c ini := by
  obtain ⟨h1, h⟩ := ba h
  obtain ⟨h2, h⟩ := ba h
  obtain ⟨h3, h⟩ := ba h
  obtain ⟨h4, h⟩ := ba h
  obtain ⟨h5, h⟩ := ba h
  obtain ⟨h6, h⟩ := ba h
  obtain ⟨h7, h8⟩ := ba h
  exact ⟨eqO_ok h1, h2, h3, h4, h5, h6, h7, eqO_ok h8⟩
def mrB (K : PySem.W.Frag) (d F : Addr) : Bool := match PySem.W.clsIn K d with
  | some c => decide (c.mro = [.ref d, .ref F, .type "ValueError", .type "Exception", .type "BaseException", .type "object"])
  | none => false
theorem mrB_ok {K : PySem.W.Frag} {d F : Addr} (h : mrB K d F = true) : MroIs K d F := by
  unfold mrB at h
  unfold MroIs
  split at h
  · rename_i c e
    rw [e, Option.map_some, of_decide_eq_true h]
  · cases h
def ndB (K : PySem.W.Frag) (xs : List Str) : Bool := decide (xs.map (ga K)).Nodup
theorem ndB_ok {K : PySem.W.Frag} {xs : List Str} (h : ndB K xs = true) : (xs.map (ga K)).Nodup := of_decide_eq_true h
/-! a def -/
theorem fun_of {K : PySem.W.Frag} {x q : Str} {st : Stmt} {f : Addr} {fd : FuncData} (F : FunD K x q (defArgs st) (defBody st) (defScope st) [] [] f fd) : Fun K x q st f fd := by
  obtain ⟨⟨oc, od, dV, kV, doc, pm, an, cdv, ct, osl, e, lk, hcd, hd, hk⟩, kp⟩ := F
  rcases hd with ⟨_, rfl⟩ | ⟨hn, _⟩
  · exact ⟨⟨oc, od, kV, doc, pm, an, cdv, ct, osl, e, lk, hcd⟩, kp⟩
  · exact absurd rfl hn
/-! ### the Hook -/
def obsX (fa : List Fb) (fn : List He.DefD) (K : PySem.W.Frag) : He.AlD := ((fa.all fun f => f K) && fn.all fun d => d.ok K, fn.map fun d => He.fnW K d.at_)
def SaysX (fa : List Fb) (fn : List He.DefD) (K : PySem.W.Frag) : Prop := obsX fa fn K = He.valD fn
/-- what a list of objects names; all that is named in n steps (with repeats) -/
def lvG (g : Addr → Option Obj) (fr : List Addr) : List Addr := fr.flatMap fun a => match g a with
  | some o => He.refsD o
  | none => []
def asF (g : Addr → Option Obj) : Nat → List Addr → List Addr
  | 0, fr => fr
  | n + 1, fr => fr ++ asF g n (lvG g fr)
def obsXG (n : Nat) (fa : List Fb) (fn : List He.DefD) (g : Addr → Option Obj) : He.AlD := obsX fa fn (He.frG g (asF g n [mainGlobals]))
def hookX (n : Nat) (fa : List Fb) (fn : List He.DefD) : PySem.W.Hook where
  α := He.AlD
  obs := fun s => obsXG n fa fn s.heap.get?
  val := fun _ => He.valD fn
  says := fun _ h => ∃ K : PySem.W.Frag, K.In h ∧ SaysX fa fn K
  of := fun _ _ e => ⟨_, He.frG_in, e⟩
  keeps := fun _ _ _ ⟨K, hK, c⟩ k => ⟨K, PySem.W.Frag.In.keeps hK k, c⟩
theorem obsXG_eq {n : Nat} {fa : List Fb} {fn : List He.DefD} {g : Addr → Option Obj} {s : Shared} (h : ∀ a, g a = s.heap.get? a) : obsXG n fa fn g = (hookX n fa fn).obs s := by
  have e : g = s.heap.get? := funext h
  rw [e] <;> rfl
section
variable {fa : List Fb} {fn : List He.DefD} {K : PySem.W.Frag}
theorem SaysX.fact (c : SaysX fa fn K) (i : Nat) (f : Fb) (h : fa[i]? = some f := by rfl) : f K = true := by
  have c1 := (ba (show ((fa.all fun f => f K) && fn.all fun d => d.ok K) = true from congrArg (fun z : He.AlD => z.1) c)).1
  exact List.all_eq_true.mp c1 f (List.mem_of_getElem? h)
theorem SaysX.def_ (c : SaysX fa fn K) (i : Nat) (d : He.DefD) (h : fn[i]? = some d := by rfl) : ∃ fd, FunD K d.name d.qual d.params d.body d.scope (d.dvs K) (d.kws K) (fAd K d.at_) fd := by
  have c2 := (ba (show ((fa.all fun f => f K) && fn.all fun d => d.ok K) = true from congrArg (fun z : He.AlD => z.1) c)).2
  have e : fn.map (fun d => He.fnW K d.at_) = fn.map He.DefD.val := congrArg (fun z : He.AlD => z.2) c
  have e2 : (fn.map fun d => He.fnW K d.at_)[i]? = (fn.map He.DefD.val)[i]? := by rw [e]
  rw [List.getElem?_map, List.getElem?_map, h] at e2
  exact He.DefD.funD (Option.some.inj e2) (List.all_eq_true.mp c2 d (List.mem_of_getElem? h))
end
/-- a law's end over a head by facts -/
theorem walk_ofGE {l : PySem.W.OpenLaw} {n k : Nat} {q : Program} {loose : List Str} {XP : (Str → Option Value) → Heap → Prop} {YP : World → Heap → Prop} {d : DefRec} {x : Str} (hn : l.most = some n) (hn2 : n ≤ sizeLine) (h63 : n ≤ 63) (hdf : d.params.defaults = []) (hr : Room k callerA)
    (F : ∀ (w : World) (mg : Str → Option Value) (fa : Addr) (h : Heap), YP w h → h.Ns mainGlobals mg → mg d.name = some (.ref fa) → ∃ (K : PySem.W.Frag) (fd : FuncData), K.In h ∧ (∀ (s : Shared) (u : Value), BindsTo s fd ⟨[u], []⟩ [(x, u)]) ∧
      ∀ base : Heap, K.In base → base.Ns mainGlobals mg → FnG l.prog w K mg base CX0 k fa fd [x] (spScr K)) : PySem.W.WalkO q loose XP YP l.row.toRowW d [] (fun f vs => PySem.call f vs) := by
  refine Att.attach_callB hn hdf fun w s₀ s₁ mg mb fa o pm cd doc a vs ns G Y ho hd hcd hmg hobj hints hlen hbits hg => ?_
  obtain ⟨K, fd, KX, hb, hF⟩ := F w mg fa _ Y G.T.g hmg
  exact law_callG KX G.T.g G.T.b G.T.builtins G.T.nolimit hg hobj hints (Nat.le_trans hlen hn2) hr hF hb fun H hO hS => ⟨a, ns, rfl, hS, Nat.le_trans hlen h63, fun _ => rfl⟩
end Fx
namespace K99
open PySem L2 Co Fx
def FL : String → List Str
  | "BadRow" => ["row"]
  | "BadBox" => ["what", "at"]
  | "BadColumn" => ["column"]
  | "BadText" => ["place"]
  | "BadPage" => ["what"]
  | "BadIndex" => ["what"]
  | "BadLayer" => ["what", "at"]
  | "NoIndex" => ["index"]
  | "BadTable" => ["what", "at"]
  | "NoLayer" => ["layer"]
  | "BadStore" => ["what", "at"]
  | "NoTable" => ["name"]
  | "BadChange" => ["at"]
  | "LayersFull" => ["name"]
  | "BadNumber" => ["number"]
  | "BadQuestion" => ["what", "at"]
  | "NoPage" => ["name"]
  | "NoFactor" => ["what"]
  | "BadPaper" => ["line", "what"]
  | "TooMany" => ["most"]
  | "KnownRow" => ["name", "row"]
  | "BadFoe" => ["what"]
  | "BadDead" => ["at"]
  | "NoSpread" => ["what"]
  | "NotInDoubt" => ["point"]
  | "Unfit" => ["name"]
  | "NotKnown" => ["at"]
  | "BadStory" => ["line"]
  | _ => []
def ERM : List String := ["BadWidths", "BadRow", "BadBox", "UnlikeBoxes", "BadColumn", "BadData", "BadText", "BadPage", "BadIndex", "BadLayer", "NoIndex", "BadTable", "NoLayer", "BadStore", "NoTable", "BadChange", "BadKinds", "LayersFull", "BadNumber", "NotBefore", "BadQuestion", "Again", "Foreign", "NoPage", "NoFactor", "NotUniform", "NotDecided", "Undetermined", "BadPaper", "NotDone", "Unasked", "TooMany", "NotEnough", "KnownRow", "BadFoe", "BadPolicy", "BadDead", "NoSpread", "NotInDoubt", "BadDeed", "NotNewest", "NothingCut", "Unfit", "NotKnown", "BadStory"]
def isAll : String → Option Bool := fun c => if c ∈ ERM then some true else none
theorem isAll_ok {K : PySem.W.Frag} {AD : String → Addr} {fl : String → List Str} {er : String → Bool} {cu : Value} (hr : ∀ c ∈ ERM, er c = true) (h1 : ∀ c ∈ ERM, L2.ExcC K (AD c)) (h2 : ∀ c ∈ ERM, PySem.W.kitOne K (.ref (AD c)) cu = some true) : ∀ c b, isAll c = some b → (⟨K, AD, fl, er⟩ : Md).er c = true ∧ L2.ExcC (⟨K, AD, fl, er⟩ : Md).K ((⟨K, AD, fl, er⟩ : Md).AD c) ∧ PySem.W.kitOne (⟨K, AD, fl, er⟩ : Md).K (.ref ((⟨K, AD, fl, er⟩ : Md).AD c)) cu = some b := fun c b e => by
  unfold isAll at e
  split at e
  · rename_i hm; cases e; exact ⟨hr c hm, h1 c hm, h2 c hm⟩
  · cases e
def isE (C : String) : String → Option Bool := fun c => if c ∈ ERM then some (decide (c = C)) else none
theorem isE_ok {K : PySem.W.Frag} {AD : String → Addr} {fl : String → List Str} {er : String → Bool} {C : String} (hr : ∀ c ∈ ERM, er c = true) (h1 : ∀ c ∈ ERM, L2.ExcC K (AD c)) (h2 : ∀ d ∈ ERM, ∀ c ∈ ERM, PySem.W.kitOne K (.ref (AD d)) (.ref (AD c)) = some (decide (d = c))) (hC : C ∈ ERM) : ∀ c b, isE C c = some b → (⟨K, AD, fl, er⟩ : Md).er c = true ∧ L2.ExcC (⟨K, AD, fl, er⟩ : Md).K ((⟨K, AD, fl, er⟩ : Md).AD c) ∧ PySem.W.kitOne (⟨K, AD, fl, er⟩ : Md).K (.ref ((⟨K, AD, fl, er⟩ : Md).AD c)) (.ref (AD C)) = some b := fun c b e => by
  unfold isE at e
  split at e
  · rename_i hm; cases e; exact ⟨hr c hm, h1 c hm, h2 c hm C hC⟩
  · cases e
def ER (c : String) : Bool := ["FetchError", "BadWidths", "BadRow", "BadBox", "UnlikeBoxes", "BadColumn", "BadData", "BadText", "BadPage", "BadIndex", "BadLayer", "NoIndex", "BadTable", "NoLayer", "BadStore", "NoTable", "BadChange", "BadKinds", "LayersFull", "BadNumber", "NotBefore", "BadQuestion", "Again", "Foreign", "NoPage", "NoFactor", "NotUniform", "NotDecided", "Undetermined", "BadPaper", "NotDone", "Unasked", "TooMany", "NotEnough", "KnownRow", "BadFoe", "BadPolicy", "BadDead", "NoSpread", "NotInDoubt", "BadDeed", "NotNewest", "NothingCut", "Unfit", "NotKnown", "BadStory"].contains c
theorem er_ok : ∀ c ∈ ERM, ER c = true := by decide
def m__law_bag : FC := calmF (defM true 1 2 (RetS (LmuE (ConsA (LcE (SeqI (SlE (VarE 0) NoO (PartO (CE (.int 63))))) (NameG 1) YesT (CbE fInt (ConsA (VarE 1) NilA)) [1]) (ConsA (CE (.int 0)) (ConsA (CE (.int 0)) (ConsA (CE (.int 0)) (ConsA (CE (.int 20021)) NilA))))))))
def m__law_classes : FC := calmF (defM false 1 1 (RetS (LstE (ConsA (IsvE (isE "BadWidths") (VarE 0)) (ConsA (IsvE (isE "BadRow") (VarE 0)) (ConsA (IsvE (isE "BadBox") (VarE 0)) (ConsA (IsvE (isE "UnlikeBoxes") (VarE 0)) (ConsA (IsvE (isE "BadColumn") (VarE 0)) (ConsA (IsvE (isE "BadData") (VarE 0)) (ConsA (IsvE (isE "BadText") (VarE 0)) (ConsA (IsvE (isE "BadPage") (VarE 0)) (ConsA (IsvE (isE "BadIndex") (VarE 0)) (ConsA (IsvE (isE "BadLayer") (VarE 0)) (ConsA (IsvE (isE "NoIndex") (VarE 0)) (ConsA (IsvE (isE "BadTable") (VarE 0)) (ConsA (IsvE (isE "NoLayer") (VarE 0)) (ConsA (IsvE (isE "BadStore") (VarE 0)) (ConsA (IsvE (isE "NoTable") (VarE 0)) (ConsA (IsvE (isE "BadChange") (VarE 0)) (ConsA (IsvE (isE "BadKinds") (VarE 0)) (ConsA (IsvE (isE "LayersFull") (VarE 0)) (ConsA (IsvE (isE "BadNumber") (VarE 0)) (ConsA (IsvE (isE "NotBefore") (VarE 0)) (ConsA (IsvE (isE "BadQuestion") (VarE 0)) (ConsA (IsvE (isE "Again") (VarE 0)) (ConsA (IsvE (isE "Foreign") (VarE 0)) (ConsA (IsvE (isE "NoPage") (VarE 0)) (ConsA (IsvE (isE "NoFactor") (VarE 0)) (ConsA (IsvE (isE "NotUniform") (VarE 0)) (ConsA (IsvE (isE "NotDecided") (VarE 0)) (ConsA (IsvE (isE "Undetermined") (VarE 0)) (ConsA (IsvE (isE "BadPaper") (VarE 0)) (ConsA (IsvE (isE "NotDone") (VarE 0)) (ConsA (IsvE (isE "Unasked") (VarE 0)) (ConsA (IsvE (isE "TooMany") (VarE 0)) (ConsA (IsvE (isE "NotEnough") (VarE 0)) (ConsA (IsvE (isE "KnownRow") (VarE 0)) (ConsA (IsvE (isE "BadFoe") (VarE 0)) (ConsA (IsvE (isE "BadPolicy") (VarE 0)) (ConsA (IsvE (isE "BadDead") (VarE 0)) (ConsA (IsvE (isE "NoSpread") (VarE 0)) (ConsA (IsvE (isE "NotInDoubt") (VarE 0)) (ConsA (IsvE (isE "BadDeed") (VarE 0)) (ConsA (IsvE (isE "NotNewest") (VarE 0)) (ConsA (IsvE (isE "NothingCut") (VarE 0)) (ConsA (IsvE (isE "Unfit") (VarE 0)) (ConsA (IsvE (isE "NotKnown") (VarE 0)) (ConsA (IsvE (isE "BadStory") (VarE 0)) NilA))))))))))))))))))))))))))))))))))))))))))))))))
def m__law_draw : FC := calmF (defM false 2 6 (SeqS (AsgS (OpE fAdd (OpE fIx (VarE 0) (CE (.int 3))) (CE (.int 1))) (SubG (VarE 0) (CE (.int 3))))
  (SeqS (IfS (TestE (OpE fGt (OpE fIx (VarE 0) (CE (.int 2))) (CE (.int 0)))) (SeqS (SetS 2 (OpE fMod (CbE fInt (ConsA (OpE fIx (VarE 0) (CE (.int 2))) NilA)) (VarE 1)))
  (SeqS (AsgS (OpE fDiv (OpE fIx (VarE 0) (CE (.int 2))) (VarE 1)) (SubG (VarE 0) (CE (.int 2))))
  (RetS (VarE 2)))) NextS)
  (SeqS (SetS 3 (OpE fIx (VarE 0) (CE (.int 3))))
  (SeqS (IfS (TestE (OpE fLt (OpE fIx (VarE 0) (CE (.int 1))) (CbE fLen (ConsA (OpE fIx (VarE 0) (CE (.int 0))) NilA)))) (SeqS (SetS 3 (OpE fIx (OpE fIx (VarE 0) (CE (.int 0))) (OpE fIx (VarE 0) (CE (.int 1)))))
  (SeqS (AsgS (OpE fAdd (OpE fIx (VarE 0) (CE (.int 1))) (CE (.int 1))) (SubG (VarE 0) (CE (.int 1))))
  (IfS (TestE (OpE fGe (CbE fAbs (ConsA (VarE 3) NilA)) (OpE fPow (CE (.int 10)) (CE (.int 18))))) (SeqS (AsgS (OpE fDiv (CbE fAbs (ConsA (VarE 3) NilA)) (VarE 1)) (SubG (VarE 0) (CE (.int 2))))
  (RetS (OpE fMod (CbE fInt (ConsA (CbE fAbs (ConsA (VarE 3) NilA)) NilA)) (VarE 1)))) NextS))) NextS)
  (SeqS (SetS 4 (OpE fMod (CbE fInt (ConsA (OpE fAdd (OpE fAdd (OpE fAdd (OpE fMul (OpE fIx (VarE 0) (CE (.int 4))) (CE (.int 48271))) (OpE fMul (OpE fMod (CbE fInt (ConsA (VarE 3) NilA)) (CE (.int 2147483629))) (CE (.int 69621)))) (OpE fMul (OpE fIx (VarE 0) (CE (.int 3))) (CE (.int 7919)))) (CE (.int 11))) NilA)) (CE (.int 2147483647))))
  (SeqS (AsgS (VarE 4) (SubG (VarE 0) (CE (.int 4))))
  (SeqS (SetS 5 (OpE fMod (CbE fInt (ConsA (OpE fAdd (OpE fAdd (OpE fMul (VarE 4) (CE (.int 16807))) (OpE fMul (OpE fMul (OpE fIx (VarE 0) (CE (.int 3))) (OpE fIx (VarE 0) (CE (.int 3)))) (CE (.int 104729)))) (OpE fDiv (VarE 4) (CE (.int 65536)))) NilA)) (CE (.int 998244353))))
  (RetS (OpE fMod (CbE fInt (ConsA (OpE fDiv (VarE 5) (CE (.int 7))) NilA)) (VarE 1)))))))))))
def L_law_1 : Fx.Env → Sta → Fx.Flow := (scopeS (SeqS (SetS 9 (OpE fIx (VarE 8) (VarE 3)))
  (SeqS (IfS (TOr (TNot (TestE (IsvE isAll (VarE 9)))) (TNot (TestE (IsvE isAll (VarE 9))))) (RetS (CE (.bl false))) NextS)
  (SeqS (SetS 10 (CallE m__law_classes [] (ConsA (VarE 9) NilA)))
  (IfS (TestE (OpE fNeA (LcE (Rng1I (ConsA (CbE fLen (ConsA (VarE 8) NilA)) NilA)) (NameG 11) (TestE (OpE fIx (VarE 10) (VarE 11))) (VarE 11) [11]) (LstE (ConsA (VarE 3) NilA)))) (RetS (CE (.bl false))) NextS)))))
def m_law : FC := calmF (defM false 1 13 (SeqS (SetS 1 (CallE m__law_bag [] (ConsA (VarE 0) NilA)))
  (SeqS (SetS 2 (JoinE (CE (.str "")) (LcE (Rng1I (ConsA (OpE fAdd (CE (.int 1)) (CallE m__law_draw [] (ConsA (VarE 1) (ConsA (CE (.int 9)) NilA)))) NilA)) (NameG 3) YesT (OpE fIx (CE (.str "abcdefghijklmnopqrstuvwxyz")) (CallE m__law_draw [] (ConsA (VarE 1) (ConsA (CE (.int 26)) NilA)))) [3])))
  (SeqS (SetS 4 (OpE fAdd (VarE 2) (CE (.str "x"))))
  (SeqS (SetS 5 (OpE fSub (CallE m__law_draw [] (ConsA (VarE 1) (ConsA (OpE fPow (CE (.int 10)) (CE (.int 30))) NilA))) (OpE fPow (CE (.int 10)) (CE (.int 29)))))
  (SeqS (SetS 6 (CbE fTuple (ConsA (LcE (Rng1I (ConsA (CallE m__law_draw [] (ConsA (VarE 1) (ConsA (CE (.int 4)) NilA))) NilA)) (NameG 3) YesT (CallE m__law_draw [] (ConsA (VarE 1) (ConsA (CE (.int 64)) NilA))) [3]) NilA)))
  (SeqS (SetS 7 (TupE (ConsA (VarE 4) (ConsA (CallE m__law_draw [] (ConsA (VarE 1) (ConsA (CE (.int 3)) NilA))) (ConsA (CallE m__law_draw [] (ConsA (VarE 1) (ConsA (CE (.int 3)) NilA))) (ConsA (VarE 6) NilA))))))
  (SeqS (SetS 8 (LstE (ConsA (NewX0E "BadWidths") (ConsA (NewXE "BadRow" ["row"] (ConsA (VarE 6) NilA)) (ConsA (NewXE "BadBox" ["what", "at"] (ConsA (VarE 2) (ConsA (VarE 5) NilA))) (ConsA (NewX0E "UnlikeBoxes") (ConsA (NewXE "BadColumn" ["column"] (ConsA (VarE 5) NilA)) (ConsA (NewX0E "BadData") (ConsA (NewXE "BadText" ["place"] (ConsA (VarE 5) NilA)) (ConsA (NewXE "BadPage" ["what"] (ConsA (VarE 2) NilA)) (ConsA (NewXE "BadIndex" ["what"] (ConsA (VarE 2) NilA)) (ConsA (NewXE "BadLayer" ["what", "at"] (ConsA (VarE 2) (ConsA (VarE 5) NilA))) (ConsA (NewXE "NoIndex" ["index"] (ConsA (VarE 5) NilA)) (ConsA (NewXE "BadTable" ["what", "at"] (ConsA (VarE 2) (ConsA (VarE 5) NilA))) (ConsA (NewXE "NoLayer" ["layer"] (ConsA (VarE 5) NilA)) (ConsA (NewXE "BadStore" ["what", "at"] (ConsA (VarE 2) (ConsA (VarE 5) NilA))) (ConsA (NewXE "NoTable" ["name"] (ConsA (VarE 4) NilA)) (ConsA (NewXE "BadChange" ["at"] (ConsA (VarE 5) NilA)) (ConsA (NewX0E "BadKinds") (ConsA (NewXE "LayersFull" ["name"] (ConsA (VarE 4) NilA)) (ConsA (NewXE "BadNumber" ["number"] (ConsA (VarE 5) NilA)) (ConsA (NewX0E "NotBefore") (ConsA (NewXE "BadQuestion" ["what", "at"] (ConsA (VarE 2) (ConsA (VarE 5) NilA))) (ConsA (NewX0E "Again") (ConsA (NewX0E "Foreign") (ConsA (NewXE "NoPage" ["name"] (ConsA (VarE 7) NilA)) (ConsA (NewXE "NoFactor" ["what"] (ConsA (VarE 2) NilA)) (ConsA (NewX0E "NotUniform") (ConsA (NewX0E "NotDecided") (ConsA (NewX0E "Undetermined") (ConsA (NewXE "BadPaper" ["line", "what"] (ConsA (VarE 5) (ConsA (VarE 2) NilA))) (ConsA (NewX0E "NotDone") (ConsA (NewX0E "Unasked") (ConsA (NewXE "TooMany" ["most"] (ConsA (VarE 5) NilA)) (ConsA (NewX0E "NotEnough") (ConsA (NewXE "KnownRow" ["name", "row"] (ConsA (VarE 4) (ConsA (VarE 6) NilA))) (ConsA (NewXE "BadFoe" ["what"] (ConsA (VarE 2) NilA)) (ConsA (NewX0E "BadPolicy") (ConsA (NewXE "BadDead" ["at"] (ConsA (VarE 5) NilA)) (ConsA (NewXE "NoSpread" ["what"] (ConsA (VarE 2) NilA)) (ConsA (NewXE "NotInDoubt" ["point"] (ConsA (VarE 6) NilA)) (ConsA (NewX0E "BadDeed") (ConsA (NewX0E "NotNewest") (ConsA (NewX0E "NothingCut") (ConsA (NewXE "Unfit" ["name"] (ConsA (VarE 4) NilA)) (ConsA (NewXE "NotKnown" ["at"] (ConsA (VarE 5) NilA)) (ConsA (NewXE "BadStory" ["line"] (ConsA (VarE 5) NilA)) NilA)))))))))))))))))))))))))))))))))))))))))))))))
  (SeqS (ForS (Rng1I (ConsA (CbE fLen (ConsA (VarE 8) NilA)) NilA)) (NameG 3) L_law_1)
  (SeqS (SetS 12 (LstE (ConsA (OpE fEqA (XvE ["BadRow", "KnownRow"] "row" (OpE fIx (VarE 8) (CE (.int 1)))) (VarE 6)) (ConsA (OpE fEqA (XvE ["BadBox", "BadPage", "BadIndex", "BadLayer", "BadTable", "BadStore", "BadQuestion", "NoFactor", "BadPaper", "BadFoe", "NoSpread"] "what" (OpE fIx (VarE 8) (CE (.int 2)))) (VarE 2)) (ConsA (OpE fEqA (XvE ["BadBox", "BadLayer", "BadTable", "BadStore", "BadChange", "BadQuestion", "BadDead", "NotKnown"] "at" (OpE fIx (VarE 8) (CE (.int 2)))) (VarE 5)) (ConsA (OpE fEqA (XvE ["BadColumn"] "column" (OpE fIx (VarE 8) (CE (.int 4)))) (VarE 5)) (ConsA (OpE fEqA (XvE ["BadText"] "place" (OpE fIx (VarE 8) (CE (.int 6)))) (VarE 5)) (ConsA (OpE fEqA (XvE ["BadBox", "BadPage", "BadIndex", "BadLayer", "BadTable", "BadStore", "BadQuestion", "NoFactor", "BadPaper", "BadFoe", "NoSpread"] "what" (OpE fIx (VarE 8) (CE (.int 7)))) (VarE 2)) (ConsA (OpE fEqA (XvE ["BadBox", "BadPage", "BadIndex", "BadLayer", "BadTable", "BadStore", "BadQuestion", "NoFactor", "BadPaper", "BadFoe", "NoSpread"] "what" (OpE fIx (VarE 8) (CE (.int 8)))) (VarE 2)) (ConsA (OpE fEqA (XvE ["BadBox", "BadPage", "BadIndex", "BadLayer", "BadTable", "BadStore", "BadQuestion", "NoFactor", "BadPaper", "BadFoe", "NoSpread"] "what" (OpE fIx (VarE 8) (CE (.int 9)))) (VarE 2)) (ConsA (OpE fEqA (XvE ["BadBox", "BadLayer", "BadTable", "BadStore", "BadChange", "BadQuestion", "BadDead", "NotKnown"] "at" (OpE fIx (VarE 8) (CE (.int 9)))) (VarE 5)) (ConsA (OpE fEqA (XvE ["NoIndex"] "index" (OpE fIx (VarE 8) (CE (.int 10)))) (VarE 5)) (ConsA (OpE fEqA (XvE ["BadBox", "BadPage", "BadIndex", "BadLayer", "BadTable", "BadStore", "BadQuestion", "NoFactor", "BadPaper", "BadFoe", "NoSpread"] "what" (OpE fIx (VarE 8) (CE (.int 11)))) (VarE 2)) (ConsA (OpE fEqA (XvE ["BadBox", "BadLayer", "BadTable", "BadStore", "BadChange", "BadQuestion", "BadDead", "NotKnown"] "at" (OpE fIx (VarE 8) (CE (.int 11)))) (VarE 5)) (ConsA (OpE fEqA (XvE ["NoLayer"] "layer" (OpE fIx (VarE 8) (CE (.int 12)))) (VarE 5)) (ConsA (OpE fEqA (XvE ["BadBox", "BadPage", "BadIndex", "BadLayer", "BadTable", "BadStore", "BadQuestion", "NoFactor", "BadPaper", "BadFoe", "NoSpread"] "what" (OpE fIx (VarE 8) (CE (.int 13)))) (VarE 2)) (ConsA (OpE fEqA (XvE ["BadBox", "BadLayer", "BadTable", "BadStore", "BadChange", "BadQuestion", "BadDead", "NotKnown"] "at" (OpE fIx (VarE 8) (CE (.int 13)))) (VarE 5)) (ConsA (OpE fEqA (XvE ["NoTable", "LayersFull", "NoPage", "KnownRow", "Unfit"] "name" (OpE fIx (VarE 8) (CE (.int 14)))) (VarE 4)) (ConsA (OpE fEqA (XvE ["BadBox", "BadLayer", "BadTable", "BadStore", "BadChange", "BadQuestion", "BadDead", "NotKnown"] "at" (OpE fIx (VarE 8) (CE (.int 15)))) (VarE 5)) (ConsA (OpE fEqA (XvE ["NoTable", "LayersFull", "NoPage", "KnownRow", "Unfit"] "name" (OpE fIx (VarE 8) (CE (.int 17)))) (VarE 4)) (ConsA (OpE fEqA (XvE ["BadNumber"] "number" (OpE fIx (VarE 8) (CE (.int 18)))) (VarE 5)) (ConsA (OpE fEqA (XvE ["BadBox", "BadPage", "BadIndex", "BadLayer", "BadTable", "BadStore", "BadQuestion", "NoFactor", "BadPaper", "BadFoe", "NoSpread"] "what" (OpE fIx (VarE 8) (CE (.int 20)))) (VarE 2)) (ConsA (OpE fEqA (XvE ["BadBox", "BadLayer", "BadTable", "BadStore", "BadChange", "BadQuestion", "BadDead", "NotKnown"] "at" (OpE fIx (VarE 8) (CE (.int 20)))) (VarE 5)) (ConsA (OpE fEqA (XvE ["NoTable", "LayersFull", "NoPage", "KnownRow", "Unfit"] "name" (OpE fIx (VarE 8) (CE (.int 23)))) (VarE 7)) (ConsA (OpE fEqA (XvE ["BadBox", "BadPage", "BadIndex", "BadLayer", "BadTable", "BadStore", "BadQuestion", "NoFactor", "BadPaper", "BadFoe", "NoSpread"] "what" (OpE fIx (VarE 8) (CE (.int 24)))) (VarE 2)) (ConsA (OpE fEqA (XvE ["BadPaper", "BadStory"] "line" (OpE fIx (VarE 8) (CE (.int 28)))) (VarE 5)) (ConsA (OpE fEqA (XvE ["BadBox", "BadPage", "BadIndex", "BadLayer", "BadTable", "BadStore", "BadQuestion", "NoFactor", "BadPaper", "BadFoe", "NoSpread"] "what" (OpE fIx (VarE 8) (CE (.int 28)))) (VarE 2)) (ConsA (OpE fEqA (XvE ["TooMany"] "most" (OpE fIx (VarE 8) (CE (.int 31)))) (VarE 5)) (ConsA (OpE fEqA (XvE ["NoTable", "LayersFull", "NoPage", "KnownRow", "Unfit"] "name" (OpE fIx (VarE 8) (CE (.int 33)))) (VarE 4)) (ConsA (OpE fEqA (XvE ["BadRow", "KnownRow"] "row" (OpE fIx (VarE 8) (CE (.int 33)))) (VarE 6)) (ConsA (OpE fEqA (XvE ["BadBox", "BadPage", "BadIndex", "BadLayer", "BadTable", "BadStore", "BadQuestion", "NoFactor", "BadPaper", "BadFoe", "NoSpread"] "what" (OpE fIx (VarE 8) (CE (.int 34)))) (VarE 2)) (ConsA (OpE fEqA (XvE ["BadBox", "BadLayer", "BadTable", "BadStore", "BadChange", "BadQuestion", "BadDead", "NotKnown"] "at" (OpE fIx (VarE 8) (CE (.int 36)))) (VarE 5)) (ConsA (OpE fEqA (XvE ["BadBox", "BadPage", "BadIndex", "BadLayer", "BadTable", "BadStore", "BadQuestion", "NoFactor", "BadPaper", "BadFoe", "NoSpread"] "what" (OpE fIx (VarE 8) (CE (.int 37)))) (VarE 2)) (ConsA (OpE fEqA (XvE ["NotInDoubt"] "point" (OpE fIx (VarE 8) (CE (.int 38)))) (VarE 6)) (ConsA (OpE fEqA (XvE ["NoTable", "LayersFull", "NoPage", "KnownRow", "Unfit"] "name" (OpE fIx (VarE 8) (CE (.int 42)))) (VarE 4)) (ConsA (OpE fEqA (XvE ["BadBox", "BadLayer", "BadTable", "BadStore", "BadChange", "BadQuestion", "BadDead", "NotKnown"] "at" (OpE fIx (VarE 8) (CE (.int 43)))) (VarE 5)) (ConsA (OpE fEqA (XvE ["BadPaper", "BadStory"] "line" (OpE fIx (VarE 8) (CE (.int 44)))) (VarE 5)) NilA)))))))))))))))))))))))))))))))))))))
  (RetS (CbE fAll (ConsA (VarE 12) NilA)))))))))))))
abbrev md (K : PySem.W.Frag) (AD : String → Addr) : Md := ⟨K, AD, FL, ER⟩
end K99
namespace K99
open PySem L2 Co
def topS (i : Nat) : Stmt := PySem.Challenge.pw_fewfetches_k99_errors_stand_apart.main.body.getD i (.Pass ⟨0, 0, 0, 0⟩)
abbrev s_BadRow___init__ : Stmt := inClass (topS 3) 0
abbrev s_BadBox___init__ : Stmt := inClass (topS 4) 0
abbrev s_BadColumn___init__ : Stmt := inClass (topS 6) 0
abbrev s_BadText___init__ : Stmt := inClass (topS 8) 0
abbrev s_BadPage___init__ : Stmt := inClass (topS 9) 0
abbrev s_BadIndex___init__ : Stmt := inClass (topS 10) 0
abbrev s_BadLayer___init__ : Stmt := inClass (topS 11) 0
abbrev s_NoIndex___init__ : Stmt := inClass (topS 12) 0
abbrev s_BadTable___init__ : Stmt := inClass (topS 13) 0
abbrev s_NoLayer___init__ : Stmt := inClass (topS 14) 0
abbrev s_BadStore___init__ : Stmt := inClass (topS 15) 0
abbrev s_NoTable___init__ : Stmt := inClass (topS 16) 0
abbrev s_BadChange___init__ : Stmt := inClass (topS 17) 0
abbrev s_LayersFull___init__ : Stmt := inClass (topS 19) 0
abbrev s_BadNumber___init__ : Stmt := inClass (topS 20) 0
abbrev s_BadQuestion___init__ : Stmt := inClass (topS 22) 0
abbrev s_NoPage___init__ : Stmt := inClass (topS 25) 0
abbrev s_NoFactor___init__ : Stmt := inClass (topS 26) 0
abbrev s_BadPaper___init__ : Stmt := inClass (topS 30) 0
abbrev s_TooMany___init__ : Stmt := inClass (topS 33) 0
abbrev s_KnownRow___init__ : Stmt := inClass (topS 35) 0
abbrev s_BadFoe___init__ : Stmt := inClass (topS 36) 0
abbrev s_BadDead___init__ : Stmt := inClass (topS 38) 0
abbrev s_NoSpread___init__ : Stmt := inClass (topS 39) 0
abbrev s_NotInDoubt___init__ : Stmt := inClass (topS 40) 0
abbrev s_Unfit___init__ : Stmt := inClass (topS 44) 0
abbrev s_NotKnown___init__ : Stmt := inClass (topS 45) 0
abbrev s_BadStory___init__ : Stmt := inClass (topS 46) 0
abbrev s__law_bag : Stmt := topS 48
abbrev s__law_draw : Stmt := topS 49
abbrev s__law_classes : Stmt := topS 50
abbrev s_law : Stmt := topS 51
theorem sc_BadRow___init__ : FnScope ["self", "row"] ["self", "row"] (defScope s_BadRow___init__) := ⟨rfl, rfl, rfl, by decide +kernel, rfl, by decide +kernel, by decide +kernel⟩
theorem sc_BadBox___init__ : FnScope ["self", "what", "at"] ["self", "what", "at"] (defScope s_BadBox___init__) := ⟨rfl, rfl, rfl, by decide +kernel, rfl, by decide +kernel, by decide +kernel⟩
theorem sc_BadColumn___init__ : FnScope ["self", "column"] ["self", "column"] (defScope s_BadColumn___init__) := ⟨rfl, rfl, rfl, by decide +kernel, rfl, by decide +kernel, by decide +kernel⟩
theorem sc_BadText___init__ : FnScope ["self", "place"] ["self", "place"] (defScope s_BadText___init__) := ⟨rfl, rfl, rfl, by decide +kernel, rfl, by decide +kernel, by decide +kernel⟩
theorem sc_BadPage___init__ : FnScope ["self", "what"] ["self", "what"] (defScope s_BadPage___init__) := ⟨rfl, rfl, rfl, by decide +kernel, rfl, by decide +kernel, by decide +kernel⟩
theorem sc_BadIndex___init__ : FnScope ["self", "what"] ["self", "what"] (defScope s_BadIndex___init__) := ⟨rfl, rfl, rfl, by decide +kernel, rfl, by decide +kernel, by decide +kernel⟩
theorem sc_BadLayer___init__ : FnScope ["self", "what", "at"] ["self", "what", "at"] (defScope s_BadLayer___init__) := ⟨rfl, rfl, rfl, by decide +kernel, rfl, by decide +kernel, by decide +kernel⟩
theorem sc_NoIndex___init__ : FnScope ["self", "index"] ["self", "index"] (defScope s_NoIndex___init__) := ⟨rfl, rfl, rfl, by decide +kernel, rfl, by decide +kernel, by decide +kernel⟩
theorem sc_BadTable___init__ : FnScope ["self", "what", "at"] ["self", "what", "at"] (defScope s_BadTable___init__) := ⟨rfl, rfl, rfl, by decide +kernel, rfl, by decide +kernel, by decide +kernel⟩
theorem sc_NoLayer___init__ : FnScope ["self", "layer"] ["self", "layer"] (defScope s_NoLayer___init__) := ⟨rfl, rfl, rfl, by decide +kernel, rfl, by decide +kernel, by decide +kernel⟩
theorem sc_BadStore___init__ : FnScope ["self", "what", "at"] ["self", "what", "at"] (defScope s_BadStore___init__) := ⟨rfl, rfl, rfl, by decide +kernel, rfl, by decide +kernel, by decide +kernel⟩
theorem sc_NoTable___init__ : FnScope ["self", "name"] ["self", "name"] (defScope s_NoTable___init__) := ⟨rfl, rfl, rfl, by decide +kernel, rfl, by decide +kernel, by decide +kernel⟩
theorem sc_BadChange___init__ : FnScope ["self", "at"] ["self", "at"] (defScope s_BadChange___init__) := ⟨rfl, rfl, rfl, by decide +kernel, rfl, by decide +kernel, by decide +kernel⟩
theorem sc_LayersFull___init__ : FnScope ["self", "name"] ["self", "name"] (defScope s_LayersFull___init__) := ⟨rfl, rfl, rfl, by decide +kernel, rfl, by decide +kernel, by decide +kernel⟩
theorem sc_BadNumber___init__ : FnScope ["self", "number"] ["self", "number"] (defScope s_BadNumber___init__) := ⟨rfl, rfl, rfl, by decide +kernel, rfl, by decide +kernel, by decide +kernel⟩
theorem sc_BadQuestion___init__ : FnScope ["self", "what", "at"] ["self", "what", "at"] (defScope s_BadQuestion___init__) := ⟨rfl, rfl, rfl, by decide +kernel, rfl, by decide +kernel, by decide +kernel⟩
theorem sc_NoPage___init__ : FnScope ["self", "name"] ["self", "name"] (defScope s_NoPage___init__) := ⟨rfl, rfl, rfl, by decide +kernel, rfl, by decide +kernel, by decide +kernel⟩
theorem sc_NoFactor___init__ : FnScope ["self", "what"] ["self", "what"] (defScope s_NoFactor___init__) := ⟨rfl, rfl, rfl, by decide +kernel, rfl, by decide +kernel, by decide +kernel⟩
theorem sc_BadPaper___init__ : FnScope ["self", "line", "what"] ["self", "line", "what"] (defScope s_BadPaper___init__) := ⟨rfl, rfl, rfl, by decide +kernel, rfl, by decide +kernel, by decide +kernel⟩
theorem sc_TooMany___init__ : FnScope ["self", "most"] ["self", "most"] (defScope s_TooMany___init__) := ⟨rfl, rfl, rfl, by decide +kernel, rfl, by decide +kernel, by decide +kernel⟩
theorem sc_KnownRow___init__ : FnScope ["self", "name", "row"] ["self", "name", "row"] (defScope s_KnownRow___init__) := ⟨rfl, rfl, rfl, by decide +kernel, rfl, by decide +kernel, by decide +kernel⟩
theorem sc_BadFoe___init__ : FnScope ["self", "what"] ["self", "what"] (defScope s_BadFoe___init__) := ⟨rfl, rfl, rfl, by decide +kernel, rfl, by decide +kernel, by decide +kernel⟩
theorem sc_BadDead___init__ : FnScope ["self", "at"] ["self", "at"] (defScope s_BadDead___init__) := ⟨rfl, rfl, rfl, by decide +kernel, rfl, by decide +kernel, by decide +kernel⟩
theorem sc_NoSpread___init__ : FnScope ["self", "what"] ["self", "what"] (defScope s_NoSpread___init__) := ⟨rfl, rfl, rfl, by decide +kernel, rfl, by decide +kernel, by decide +kernel⟩
theorem sc_NotInDoubt___init__ : FnScope ["self", "point"] ["self", "point"] (defScope s_NotInDoubt___init__) := ⟨rfl, rfl, rfl, by decide +kernel, rfl, by decide +kernel, by decide +kernel⟩
theorem sc_Unfit___init__ : FnScope ["self", "name"] ["self", "name"] (defScope s_Unfit___init__) := ⟨rfl, rfl, rfl, by decide +kernel, rfl, by decide +kernel, by decide +kernel⟩
theorem sc_NotKnown___init__ : FnScope ["self", "at"] ["self", "at"] (defScope s_NotKnown___init__) := ⟨rfl, rfl, rfl, by decide +kernel, rfl, by decide +kernel, by decide +kernel⟩
theorem sc_BadStory___init__ : FnScope ["self", "line"] ["self", "line"] (defScope s_BadStory___init__) := ⟨rfl, rfl, rfl, by decide +kernel, rfl, by decide +kernel, by decide +kernel⟩
theorem sc__law_bag : FnScope ["script", "cell"] ["script"] (defScope s__law_bag) := ⟨rfl, rfl, rfl, by decide +kernel, rfl, by decide +kernel, by decide +kernel⟩
theorem sc__law_draw : FnScope ["bag", "limit", "digit", "cell", "mixed", "twice"] ["bag", "limit"] (defScope s__law_draw) := ⟨rfl, rfl, rfl, by decide +kernel, rfl, by decide +kernel, by decide +kernel⟩
theorem sc__law_classes : FnScope ["e"] ["e"] (defScope s__law_classes) := ⟨rfl, rfl, rfl, by decide +kernel, rfl, by decide +kernel, by decide +kernel⟩
theorem sc_law : FnScope ["script", "bag", "word", "k", "name", "at", "row", "page", "errors", "e", "told", "j", "right"] ["script"] (defScope s_law) := ⟨rfl, rfl, rfl, by decide +kernel, rfl, by decide +kernel, by decide +kernel⟩
def ERN : List String := ["BadWidths", "BadRow", "BadBox", "UnlikeBoxes", "BadColumn", "BadData", "BadText", "BadPage", "BadIndex", "BadLayer", "NoIndex", "BadTable", "NoLayer", "BadStore", "NoTable", "BadChange", "BadKinds", "LayersFull", "BadNumber", "NotBefore", "BadQuestion", "Again", "Foreign", "NoPage", "NoFactor", "NotUniform", "NotDecided", "Undetermined", "BadPaper", "NotDone", "Unasked", "TooMany", "NotEnough", "KnownRow", "BadFoe", "BadPolicy", "BadDead", "NoSpread", "NotInDoubt", "BadDeed", "NotNewest", "NothingCut", "Unfit", "NotKnown", "BadStory"]
structure Txt (K : PySem.W.Frag) (mg : Str → Option Value) (AD : String → Addr) (FD : String → FuncData) (TK : String → Tok) : Prop where
  b_ValueError : mg "ValueError" = none
  b_abs : mg "abs" = none
  b_all : mg "all" = none
  b_int : mg "int" = none
  b_isinstance : mg "isinstance" = none
  b_len : mg "len" = none
  b_range : mg "range" = none
  b_tuple : mg "tuple" = none
  f_BadRow___init__ : Fun K "__init__" "BadRow.__init__" s_BadRow___init__ (AD "BadRow.__init__") (FD "BadRow.__init__")
  f_BadBox___init__ : Fun K "__init__" "BadBox.__init__" s_BadBox___init__ (AD "BadBox.__init__") (FD "BadBox.__init__")
  f_BadColumn___init__ : Fun K "__init__" "BadColumn.__init__" s_BadColumn___init__ (AD "BadColumn.__init__") (FD "BadColumn.__init__")
  f_BadText___init__ : Fun K "__init__" "BadText.__init__" s_BadText___init__ (AD "BadText.__init__") (FD "BadText.__init__")
  f_BadPage___init__ : Fun K "__init__" "BadPage.__init__" s_BadPage___init__ (AD "BadPage.__init__") (FD "BadPage.__init__")
  f_BadIndex___init__ : Fun K "__init__" "BadIndex.__init__" s_BadIndex___init__ (AD "BadIndex.__init__") (FD "BadIndex.__init__")
  f_BadLayer___init__ : Fun K "__init__" "BadLayer.__init__" s_BadLayer___init__ (AD "BadLayer.__init__") (FD "BadLayer.__init__")
  f_NoIndex___init__ : Fun K "__init__" "NoIndex.__init__" s_NoIndex___init__ (AD "NoIndex.__init__") (FD "NoIndex.__init__")
  f_BadTable___init__ : Fun K "__init__" "BadTable.__init__" s_BadTable___init__ (AD "BadTable.__init__") (FD "BadTable.__init__")
  f_NoLayer___init__ : Fun K "__init__" "NoLayer.__init__" s_NoLayer___init__ (AD "NoLayer.__init__") (FD "NoLayer.__init__")
  f_BadStore___init__ : Fun K "__init__" "BadStore.__init__" s_BadStore___init__ (AD "BadStore.__init__") (FD "BadStore.__init__")
  f_NoTable___init__ : Fun K "__init__" "NoTable.__init__" s_NoTable___init__ (AD "NoTable.__init__") (FD "NoTable.__init__")
  f_BadChange___init__ : Fun K "__init__" "BadChange.__init__" s_BadChange___init__ (AD "BadChange.__init__") (FD "BadChange.__init__")
  f_LayersFull___init__ : Fun K "__init__" "LayersFull.__init__" s_LayersFull___init__ (AD "LayersFull.__init__") (FD "LayersFull.__init__")
  f_BadNumber___init__ : Fun K "__init__" "BadNumber.__init__" s_BadNumber___init__ (AD "BadNumber.__init__") (FD "BadNumber.__init__")
  f_BadQuestion___init__ : Fun K "__init__" "BadQuestion.__init__" s_BadQuestion___init__ (AD "BadQuestion.__init__") (FD "BadQuestion.__init__")
  f_NoPage___init__ : Fun K "__init__" "NoPage.__init__" s_NoPage___init__ (AD "NoPage.__init__") (FD "NoPage.__init__")
  f_NoFactor___init__ : Fun K "__init__" "NoFactor.__init__" s_NoFactor___init__ (AD "NoFactor.__init__") (FD "NoFactor.__init__")
  f_BadPaper___init__ : Fun K "__init__" "BadPaper.__init__" s_BadPaper___init__ (AD "BadPaper.__init__") (FD "BadPaper.__init__")
  f_TooMany___init__ : Fun K "__init__" "TooMany.__init__" s_TooMany___init__ (AD "TooMany.__init__") (FD "TooMany.__init__")
  f_KnownRow___init__ : Fun K "__init__" "KnownRow.__init__" s_KnownRow___init__ (AD "KnownRow.__init__") (FD "KnownRow.__init__")
  f_BadFoe___init__ : Fun K "__init__" "BadFoe.__init__" s_BadFoe___init__ (AD "BadFoe.__init__") (FD "BadFoe.__init__")
  f_BadDead___init__ : Fun K "__init__" "BadDead.__init__" s_BadDead___init__ (AD "BadDead.__init__") (FD "BadDead.__init__")
  f_NoSpread___init__ : Fun K "__init__" "NoSpread.__init__" s_NoSpread___init__ (AD "NoSpread.__init__") (FD "NoSpread.__init__")
  f_NotInDoubt___init__ : Fun K "__init__" "NotInDoubt.__init__" s_NotInDoubt___init__ (AD "NotInDoubt.__init__") (FD "NotInDoubt.__init__")
  f_Unfit___init__ : Fun K "__init__" "Unfit.__init__" s_Unfit___init__ (AD "Unfit.__init__") (FD "Unfit.__init__")
  f_NotKnown___init__ : Fun K "__init__" "NotKnown.__init__" s_NotKnown___init__ (AD "NotKnown.__init__") (FD "NotKnown.__init__")
  f_BadStory___init__ : Fun K "__init__" "BadStory.__init__" s_BadStory___init__ (AD "BadStory.__init__") (FD "BadStory.__init__")
  f__law_bag : Fun K "_law_bag" "_law_bag" s__law_bag (AD "_law_bag") (FD "_law_bag")
  g__law_bag : mg "_law_bag" = some (.ref (AD "_law_bag"))
  f__law_draw : Fun K "_law_draw" "_law_draw" s__law_draw (AD "_law_draw") (FD "_law_draw")
  g__law_draw : mg "_law_draw" = some (.ref (AD "_law_draw"))
  f__law_classes : Fun K "_law_classes" "_law_classes" s__law_classes (AD "_law_classes") (FD "_law_classes")
  g__law_classes : mg "_law_classes" = some (.ref (AD "_law_classes"))
  f_law : Fun K "law" "law" s_law (AD "law") (FD "law")
  g_law : mg "law" = some (.ref (AD "law"))
  g_FetchError : mg "FetchError" = some (.ref (AD "FetchError"))
  x_FetchError : PySem.W.excIn K (AD "FetchError") [.type "ValueError", .type "Exception", .type "BaseException", .type "object"] "ValueError.__new__" = true
  k_FetchError : PySem.W.keepIn K (.ref (AD "FetchError")) = true
  s_FetchError : PySem.W.subIn K (.ref (AD "FetchError")) (.type "BaseException") = some true
  t_FetchError : PySem.W.typeIn K (.ref (AD "FetchError")) = some (.type "type")
  g_BadWidths : mg "BadWidths" = some (.ref (AD "BadWidths"))
  x_BadWidths : PySem.W.excIn K (AD "BadWidths") [.type "ValueError", .type "Exception", .type "BaseException", .type "object"] "ValueError.__new__" = true
  k_BadWidths : PySem.W.keepIn K (.ref (AD "BadWidths")) = true
  s_BadWidths : PySem.W.subIn K (.ref (AD "BadWidths")) (.type "BaseException") = some true
  t_BadWidths : PySem.W.typeIn K (.ref (AD "BadWidths")) = some (.type "type")
  g_BadRow : mg "BadRow" = some (.ref (AD "BadRow"))
  o_BadRow : OexC K (AD "BadRow")
  i_BadRow : PySem.W.findIn K (.ref (AD "BadRow")) "__init__" = some (some (.ref (AD "BadRow.__init__")))
  ti_BadRow : PySem.W.typeIn K (.ref (AD "BadRow.__init__")) = some (.type "function")
  xf_BadRow : XfC K (AD "BadRow")
  n_BadRow_row : PySem.W.findIn K (.ref (AD "BadRow")) "row" = some none
  g_BadBox : mg "BadBox" = some (.ref (AD "BadBox"))
  o_BadBox : OexC K (AD "BadBox")
  i_BadBox : PySem.W.findIn K (.ref (AD "BadBox")) "__init__" = some (some (.ref (AD "BadBox.__init__")))
  ti_BadBox : PySem.W.typeIn K (.ref (AD "BadBox.__init__")) = some (.type "function")
  xf_BadBox : XfC K (AD "BadBox")
  n_BadBox_what : PySem.W.findIn K (.ref (AD "BadBox")) "what" = some none
  n_BadBox_at : PySem.W.findIn K (.ref (AD "BadBox")) "at" = some none
  g_UnlikeBoxes : mg "UnlikeBoxes" = some (.ref (AD "UnlikeBoxes"))
  x_UnlikeBoxes : PySem.W.excIn K (AD "UnlikeBoxes") [.type "ValueError", .type "Exception", .type "BaseException", .type "object"] "ValueError.__new__" = true
  k_UnlikeBoxes : PySem.W.keepIn K (.ref (AD "UnlikeBoxes")) = true
  s_UnlikeBoxes : PySem.W.subIn K (.ref (AD "UnlikeBoxes")) (.type "BaseException") = some true
  t_UnlikeBoxes : PySem.W.typeIn K (.ref (AD "UnlikeBoxes")) = some (.type "type")
  g_BadColumn : mg "BadColumn" = some (.ref (AD "BadColumn"))
  o_BadColumn : OexC K (AD "BadColumn")
  i_BadColumn : PySem.W.findIn K (.ref (AD "BadColumn")) "__init__" = some (some (.ref (AD "BadColumn.__init__")))
  ti_BadColumn : PySem.W.typeIn K (.ref (AD "BadColumn.__init__")) = some (.type "function")
  xf_BadColumn : XfC K (AD "BadColumn")
  n_BadColumn_column : PySem.W.findIn K (.ref (AD "BadColumn")) "column" = some none
  g_BadData : mg "BadData" = some (.ref (AD "BadData"))
  x_BadData : PySem.W.excIn K (AD "BadData") [.type "ValueError", .type "Exception", .type "BaseException", .type "object"] "ValueError.__new__" = true
  k_BadData : PySem.W.keepIn K (.ref (AD "BadData")) = true
  s_BadData : PySem.W.subIn K (.ref (AD "BadData")) (.type "BaseException") = some true
  t_BadData : PySem.W.typeIn K (.ref (AD "BadData")) = some (.type "type")
  g_BadText : mg "BadText" = some (.ref (AD "BadText"))
  o_BadText : OexC K (AD "BadText")
  i_BadText : PySem.W.findIn K (.ref (AD "BadText")) "__init__" = some (some (.ref (AD "BadText.__init__")))
  ti_BadText : PySem.W.typeIn K (.ref (AD "BadText.__init__")) = some (.type "function")
  xf_BadText : XfC K (AD "BadText")
  n_BadText_place : PySem.W.findIn K (.ref (AD "BadText")) "place" = some none
  g_BadPage : mg "BadPage" = some (.ref (AD "BadPage"))
  o_BadPage : OexC K (AD "BadPage")
  i_BadPage : PySem.W.findIn K (.ref (AD "BadPage")) "__init__" = some (some (.ref (AD "BadPage.__init__")))
  ti_BadPage : PySem.W.typeIn K (.ref (AD "BadPage.__init__")) = some (.type "function")
  xf_BadPage : XfC K (AD "BadPage")
  n_BadPage_what : PySem.W.findIn K (.ref (AD "BadPage")) "what" = some none
  g_BadIndex : mg "BadIndex" = some (.ref (AD "BadIndex"))
  o_BadIndex : OexC K (AD "BadIndex")
  i_BadIndex : PySem.W.findIn K (.ref (AD "BadIndex")) "__init__" = some (some (.ref (AD "BadIndex.__init__")))
  ti_BadIndex : PySem.W.typeIn K (.ref (AD "BadIndex.__init__")) = some (.type "function")
  xf_BadIndex : XfC K (AD "BadIndex")
  n_BadIndex_what : PySem.W.findIn K (.ref (AD "BadIndex")) "what" = some none
  g_BadLayer : mg "BadLayer" = some (.ref (AD "BadLayer"))
  o_BadLayer : OexC K (AD "BadLayer")
  i_BadLayer : PySem.W.findIn K (.ref (AD "BadLayer")) "__init__" = some (some (.ref (AD "BadLayer.__init__")))
  ti_BadLayer : PySem.W.typeIn K (.ref (AD "BadLayer.__init__")) = some (.type "function")
  xf_BadLayer : XfC K (AD "BadLayer")
  n_BadLayer_what : PySem.W.findIn K (.ref (AD "BadLayer")) "what" = some none
  n_BadLayer_at : PySem.W.findIn K (.ref (AD "BadLayer")) "at" = some none
  g_NoIndex : mg "NoIndex" = some (.ref (AD "NoIndex"))
  o_NoIndex : OexC K (AD "NoIndex")
  i_NoIndex : PySem.W.findIn K (.ref (AD "NoIndex")) "__init__" = some (some (.ref (AD "NoIndex.__init__")))
  ti_NoIndex : PySem.W.typeIn K (.ref (AD "NoIndex.__init__")) = some (.type "function")
  xf_NoIndex : XfC K (AD "NoIndex")
  n_NoIndex_index : PySem.W.findIn K (.ref (AD "NoIndex")) "index" = some none
  g_BadTable : mg "BadTable" = some (.ref (AD "BadTable"))
  o_BadTable : OexC K (AD "BadTable")
  i_BadTable : PySem.W.findIn K (.ref (AD "BadTable")) "__init__" = some (some (.ref (AD "BadTable.__init__")))
  ti_BadTable : PySem.W.typeIn K (.ref (AD "BadTable.__init__")) = some (.type "function")
  xf_BadTable : XfC K (AD "BadTable")
  n_BadTable_what : PySem.W.findIn K (.ref (AD "BadTable")) "what" = some none
  n_BadTable_at : PySem.W.findIn K (.ref (AD "BadTable")) "at" = some none
  g_NoLayer : mg "NoLayer" = some (.ref (AD "NoLayer"))
  o_NoLayer : OexC K (AD "NoLayer")
  i_NoLayer : PySem.W.findIn K (.ref (AD "NoLayer")) "__init__" = some (some (.ref (AD "NoLayer.__init__")))
  ti_NoLayer : PySem.W.typeIn K (.ref (AD "NoLayer.__init__")) = some (.type "function")
  xf_NoLayer : XfC K (AD "NoLayer")
  n_NoLayer_layer : PySem.W.findIn K (.ref (AD "NoLayer")) "layer" = some none
  g_BadStore : mg "BadStore" = some (.ref (AD "BadStore"))
  o_BadStore : OexC K (AD "BadStore")
  i_BadStore : PySem.W.findIn K (.ref (AD "BadStore")) "__init__" = some (some (.ref (AD "BadStore.__init__")))
  ti_BadStore : PySem.W.typeIn K (.ref (AD "BadStore.__init__")) = some (.type "function")
  xf_BadStore : XfC K (AD "BadStore")
  n_BadStore_what : PySem.W.findIn K (.ref (AD "BadStore")) "what" = some none
  n_BadStore_at : PySem.W.findIn K (.ref (AD "BadStore")) "at" = some none
  g_NoTable : mg "NoTable" = some (.ref (AD "NoTable"))
  o_NoTable : OexC K (AD "NoTable")
  i_NoTable : PySem.W.findIn K (.ref (AD "NoTable")) "__init__" = some (some (.ref (AD "NoTable.__init__")))
  ti_NoTable : PySem.W.typeIn K (.ref (AD "NoTable.__init__")) = some (.type "function")
  xf_NoTable : XfC K (AD "NoTable")
  n_NoTable_name : PySem.W.findIn K (.ref (AD "NoTable")) "name" = some none
  g_BadChange : mg "BadChange" = some (.ref (AD "BadChange"))
  o_BadChange : OexC K (AD "BadChange")
  i_BadChange : PySem.W.findIn K (.ref (AD "BadChange")) "__init__" = some (some (.ref (AD "BadChange.__init__")))
  ti_BadChange : PySem.W.typeIn K (.ref (AD "BadChange.__init__")) = some (.type "function")
  xf_BadChange : XfC K (AD "BadChange")
  n_BadChange_at : PySem.W.findIn K (.ref (AD "BadChange")) "at" = some none
  g_BadKinds : mg "BadKinds" = some (.ref (AD "BadKinds"))
  x_BadKinds : PySem.W.excIn K (AD "BadKinds") [.type "ValueError", .type "Exception", .type "BaseException", .type "object"] "ValueError.__new__" = true
  k_BadKinds : PySem.W.keepIn K (.ref (AD "BadKinds")) = true
  s_BadKinds : PySem.W.subIn K (.ref (AD "BadKinds")) (.type "BaseException") = some true
  t_BadKinds : PySem.W.typeIn K (.ref (AD "BadKinds")) = some (.type "type")
  g_LayersFull : mg "LayersFull" = some (.ref (AD "LayersFull"))
  o_LayersFull : OexC K (AD "LayersFull")
  i_LayersFull : PySem.W.findIn K (.ref (AD "LayersFull")) "__init__" = some (some (.ref (AD "LayersFull.__init__")))
  ti_LayersFull : PySem.W.typeIn K (.ref (AD "LayersFull.__init__")) = some (.type "function")
  xf_LayersFull : XfC K (AD "LayersFull")
  n_LayersFull_name : PySem.W.findIn K (.ref (AD "LayersFull")) "name" = some none
  g_BadNumber : mg "BadNumber" = some (.ref (AD "BadNumber"))
  o_BadNumber : OexC K (AD "BadNumber")
  i_BadNumber : PySem.W.findIn K (.ref (AD "BadNumber")) "__init__" = some (some (.ref (AD "BadNumber.__init__")))
  ti_BadNumber : PySem.W.typeIn K (.ref (AD "BadNumber.__init__")) = some (.type "function")
  xf_BadNumber : XfC K (AD "BadNumber")
  n_BadNumber_number : PySem.W.findIn K (.ref (AD "BadNumber")) "number" = some none
  g_NotBefore : mg "NotBefore" = some (.ref (AD "NotBefore"))
  x_NotBefore : PySem.W.excIn K (AD "NotBefore") [.type "ValueError", .type "Exception", .type "BaseException", .type "object"] "ValueError.__new__" = true
  k_NotBefore : PySem.W.keepIn K (.ref (AD "NotBefore")) = true
  s_NotBefore : PySem.W.subIn K (.ref (AD "NotBefore")) (.type "BaseException") = some true
  t_NotBefore : PySem.W.typeIn K (.ref (AD "NotBefore")) = some (.type "type")
  g_BadQuestion : mg "BadQuestion" = some (.ref (AD "BadQuestion"))
  o_BadQuestion : OexC K (AD "BadQuestion")
  i_BadQuestion : PySem.W.findIn K (.ref (AD "BadQuestion")) "__init__" = some (some (.ref (AD "BadQuestion.__init__")))
  ti_BadQuestion : PySem.W.typeIn K (.ref (AD "BadQuestion.__init__")) = some (.type "function")
  xf_BadQuestion : XfC K (AD "BadQuestion")
  n_BadQuestion_what : PySem.W.findIn K (.ref (AD "BadQuestion")) "what" = some none
  n_BadQuestion_at : PySem.W.findIn K (.ref (AD "BadQuestion")) "at" = some none
  g_Again : mg "Again" = some (.ref (AD "Again"))
  x_Again : PySem.W.excIn K (AD "Again") [.type "ValueError", .type "Exception", .type "BaseException", .type "object"] "ValueError.__new__" = true
  k_Again : PySem.W.keepIn K (.ref (AD "Again")) = true
  s_Again : PySem.W.subIn K (.ref (AD "Again")) (.type "BaseException") = some true
  t_Again : PySem.W.typeIn K (.ref (AD "Again")) = some (.type "type")
  g_Foreign : mg "Foreign" = some (.ref (AD "Foreign"))
  x_Foreign : PySem.W.excIn K (AD "Foreign") [.type "ValueError", .type "Exception", .type "BaseException", .type "object"] "ValueError.__new__" = true
  k_Foreign : PySem.W.keepIn K (.ref (AD "Foreign")) = true
  s_Foreign : PySem.W.subIn K (.ref (AD "Foreign")) (.type "BaseException") = some true
  t_Foreign : PySem.W.typeIn K (.ref (AD "Foreign")) = some (.type "type")
  g_NoPage : mg "NoPage" = some (.ref (AD "NoPage"))
  o_NoPage : OexC K (AD "NoPage")
  i_NoPage : PySem.W.findIn K (.ref (AD "NoPage")) "__init__" = some (some (.ref (AD "NoPage.__init__")))
  ti_NoPage : PySem.W.typeIn K (.ref (AD "NoPage.__init__")) = some (.type "function")
  xf_NoPage : XfC K (AD "NoPage")
  n_NoPage_name : PySem.W.findIn K (.ref (AD "NoPage")) "name" = some none
  g_NoFactor : mg "NoFactor" = some (.ref (AD "NoFactor"))
  o_NoFactor : OexC K (AD "NoFactor")
  i_NoFactor : PySem.W.findIn K (.ref (AD "NoFactor")) "__init__" = some (some (.ref (AD "NoFactor.__init__")))
  ti_NoFactor : PySem.W.typeIn K (.ref (AD "NoFactor.__init__")) = some (.type "function")
  xf_NoFactor : XfC K (AD "NoFactor")
  n_NoFactor_what : PySem.W.findIn K (.ref (AD "NoFactor")) "what" = some none
  g_NotUniform : mg "NotUniform" = some (.ref (AD "NotUniform"))
  x_NotUniform : PySem.W.excIn K (AD "NotUniform") [.type "ValueError", .type "Exception", .type "BaseException", .type "object"] "ValueError.__new__" = true
  k_NotUniform : PySem.W.keepIn K (.ref (AD "NotUniform")) = true
  s_NotUniform : PySem.W.subIn K (.ref (AD "NotUniform")) (.type "BaseException") = some true
  t_NotUniform : PySem.W.typeIn K (.ref (AD "NotUniform")) = some (.type "type")
  g_NotDecided : mg "NotDecided" = some (.ref (AD "NotDecided"))
  x_NotDecided : PySem.W.excIn K (AD "NotDecided") [.type "ValueError", .type "Exception", .type "BaseException", .type "object"] "ValueError.__new__" = true
  k_NotDecided : PySem.W.keepIn K (.ref (AD "NotDecided")) = true
  s_NotDecided : PySem.W.subIn K (.ref (AD "NotDecided")) (.type "BaseException") = some true
  t_NotDecided : PySem.W.typeIn K (.ref (AD "NotDecided")) = some (.type "type")
  g_Undetermined : mg "Undetermined" = some (.ref (AD "Undetermined"))
  x_Undetermined : PySem.W.excIn K (AD "Undetermined") [.type "ValueError", .type "Exception", .type "BaseException", .type "object"] "ValueError.__new__" = true
  k_Undetermined : PySem.W.keepIn K (.ref (AD "Undetermined")) = true
  s_Undetermined : PySem.W.subIn K (.ref (AD "Undetermined")) (.type "BaseException") = some true
  t_Undetermined : PySem.W.typeIn K (.ref (AD "Undetermined")) = some (.type "type")
  g_BadPaper : mg "BadPaper" = some (.ref (AD "BadPaper"))
  o_BadPaper : OexC K (AD "BadPaper")
  i_BadPaper : PySem.W.findIn K (.ref (AD "BadPaper")) "__init__" = some (some (.ref (AD "BadPaper.__init__")))
  ti_BadPaper : PySem.W.typeIn K (.ref (AD "BadPaper.__init__")) = some (.type "function")
  xf_BadPaper : XfC K (AD "BadPaper")
  n_BadPaper_line : PySem.W.findIn K (.ref (AD "BadPaper")) "line" = some none
  n_BadPaper_what : PySem.W.findIn K (.ref (AD "BadPaper")) "what" = some none
  g_NotDone : mg "NotDone" = some (.ref (AD "NotDone"))
  x_NotDone : PySem.W.excIn K (AD "NotDone") [.type "ValueError", .type "Exception", .type "BaseException", .type "object"] "ValueError.__new__" = true
  k_NotDone : PySem.W.keepIn K (.ref (AD "NotDone")) = true
  s_NotDone : PySem.W.subIn K (.ref (AD "NotDone")) (.type "BaseException") = some true
  t_NotDone : PySem.W.typeIn K (.ref (AD "NotDone")) = some (.type "type")
  g_Unasked : mg "Unasked" = some (.ref (AD "Unasked"))
  x_Unasked : PySem.W.excIn K (AD "Unasked") [.type "ValueError", .type "Exception", .type "BaseException", .type "object"] "ValueError.__new__" = true
  k_Unasked : PySem.W.keepIn K (.ref (AD "Unasked")) = true
  s_Unasked : PySem.W.subIn K (.ref (AD "Unasked")) (.type "BaseException") = some true
  t_Unasked : PySem.W.typeIn K (.ref (AD "Unasked")) = some (.type "type")
  g_TooMany : mg "TooMany" = some (.ref (AD "TooMany"))
  o_TooMany : OexC K (AD "TooMany")
  i_TooMany : PySem.W.findIn K (.ref (AD "TooMany")) "__init__" = some (some (.ref (AD "TooMany.__init__")))
  ti_TooMany : PySem.W.typeIn K (.ref (AD "TooMany.__init__")) = some (.type "function")
  xf_TooMany : XfC K (AD "TooMany")
  n_TooMany_most : PySem.W.findIn K (.ref (AD "TooMany")) "most" = some none
  g_NotEnough : mg "NotEnough" = some (.ref (AD "NotEnough"))
  x_NotEnough : PySem.W.excIn K (AD "NotEnough") [.type "ValueError", .type "Exception", .type "BaseException", .type "object"] "ValueError.__new__" = true
  k_NotEnough : PySem.W.keepIn K (.ref (AD "NotEnough")) = true
  s_NotEnough : PySem.W.subIn K (.ref (AD "NotEnough")) (.type "BaseException") = some true
  t_NotEnough : PySem.W.typeIn K (.ref (AD "NotEnough")) = some (.type "type")
  g_KnownRow : mg "KnownRow" = some (.ref (AD "KnownRow"))
  o_KnownRow : OexC K (AD "KnownRow")
  i_KnownRow : PySem.W.findIn K (.ref (AD "KnownRow")) "__init__" = some (some (.ref (AD "KnownRow.__init__")))
  ti_KnownRow : PySem.W.typeIn K (.ref (AD "KnownRow.__init__")) = some (.type "function")
  xf_KnownRow : XfC K (AD "KnownRow")
  n_KnownRow_name : PySem.W.findIn K (.ref (AD "KnownRow")) "name" = some none
  n_KnownRow_row : PySem.W.findIn K (.ref (AD "KnownRow")) "row" = some none
  g_BadFoe : mg "BadFoe" = some (.ref (AD "BadFoe"))
  o_BadFoe : OexC K (AD "BadFoe")
  i_BadFoe : PySem.W.findIn K (.ref (AD "BadFoe")) "__init__" = some (some (.ref (AD "BadFoe.__init__")))
  ti_BadFoe : PySem.W.typeIn K (.ref (AD "BadFoe.__init__")) = some (.type "function")
  xf_BadFoe : XfC K (AD "BadFoe")
  n_BadFoe_what : PySem.W.findIn K (.ref (AD "BadFoe")) "what" = some none
  g_BadPolicy : mg "BadPolicy" = some (.ref (AD "BadPolicy"))
  x_BadPolicy : PySem.W.excIn K (AD "BadPolicy") [.type "ValueError", .type "Exception", .type "BaseException", .type "object"] "ValueError.__new__" = true
  k_BadPolicy : PySem.W.keepIn K (.ref (AD "BadPolicy")) = true
  s_BadPolicy : PySem.W.subIn K (.ref (AD "BadPolicy")) (.type "BaseException") = some true
  t_BadPolicy : PySem.W.typeIn K (.ref (AD "BadPolicy")) = some (.type "type")
  g_BadDead : mg "BadDead" = some (.ref (AD "BadDead"))
  o_BadDead : OexC K (AD "BadDead")
  i_BadDead : PySem.W.findIn K (.ref (AD "BadDead")) "__init__" = some (some (.ref (AD "BadDead.__init__")))
  ti_BadDead : PySem.W.typeIn K (.ref (AD "BadDead.__init__")) = some (.type "function")
  xf_BadDead : XfC K (AD "BadDead")
  n_BadDead_at : PySem.W.findIn K (.ref (AD "BadDead")) "at" = some none
  g_NoSpread : mg "NoSpread" = some (.ref (AD "NoSpread"))
  o_NoSpread : OexC K (AD "NoSpread")
  i_NoSpread : PySem.W.findIn K (.ref (AD "NoSpread")) "__init__" = some (some (.ref (AD "NoSpread.__init__")))
  ti_NoSpread : PySem.W.typeIn K (.ref (AD "NoSpread.__init__")) = some (.type "function")
  xf_NoSpread : XfC K (AD "NoSpread")
  n_NoSpread_what : PySem.W.findIn K (.ref (AD "NoSpread")) "what" = some none
  g_NotInDoubt : mg "NotInDoubt" = some (.ref (AD "NotInDoubt"))
  o_NotInDoubt : OexC K (AD "NotInDoubt")
  i_NotInDoubt : PySem.W.findIn K (.ref (AD "NotInDoubt")) "__init__" = some (some (.ref (AD "NotInDoubt.__init__")))
  ti_NotInDoubt : PySem.W.typeIn K (.ref (AD "NotInDoubt.__init__")) = some (.type "function")
  xf_NotInDoubt : XfC K (AD "NotInDoubt")
  n_NotInDoubt_point : PySem.W.findIn K (.ref (AD "NotInDoubt")) "point" = some none
  g_BadDeed : mg "BadDeed" = some (.ref (AD "BadDeed"))
  x_BadDeed : PySem.W.excIn K (AD "BadDeed") [.type "ValueError", .type "Exception", .type "BaseException", .type "object"] "ValueError.__new__" = true
  k_BadDeed : PySem.W.keepIn K (.ref (AD "BadDeed")) = true
  s_BadDeed : PySem.W.subIn K (.ref (AD "BadDeed")) (.type "BaseException") = some true
  t_BadDeed : PySem.W.typeIn K (.ref (AD "BadDeed")) = some (.type "type")
  g_NotNewest : mg "NotNewest" = some (.ref (AD "NotNewest"))
  x_NotNewest : PySem.W.excIn K (AD "NotNewest") [.type "ValueError", .type "Exception", .type "BaseException", .type "object"] "ValueError.__new__" = true
  k_NotNewest : PySem.W.keepIn K (.ref (AD "NotNewest")) = true
  s_NotNewest : PySem.W.subIn K (.ref (AD "NotNewest")) (.type "BaseException") = some true
  t_NotNewest : PySem.W.typeIn K (.ref (AD "NotNewest")) = some (.type "type")
  g_NothingCut : mg "NothingCut" = some (.ref (AD "NothingCut"))
  x_NothingCut : PySem.W.excIn K (AD "NothingCut") [.type "ValueError", .type "Exception", .type "BaseException", .type "object"] "ValueError.__new__" = true
  k_NothingCut : PySem.W.keepIn K (.ref (AD "NothingCut")) = true
  s_NothingCut : PySem.W.subIn K (.ref (AD "NothingCut")) (.type "BaseException") = some true
  t_NothingCut : PySem.W.typeIn K (.ref (AD "NothingCut")) = some (.type "type")
  g_Unfit : mg "Unfit" = some (.ref (AD "Unfit"))
  o_Unfit : OexC K (AD "Unfit")
  i_Unfit : PySem.W.findIn K (.ref (AD "Unfit")) "__init__" = some (some (.ref (AD "Unfit.__init__")))
  ti_Unfit : PySem.W.typeIn K (.ref (AD "Unfit.__init__")) = some (.type "function")
  xf_Unfit : XfC K (AD "Unfit")
  n_Unfit_name : PySem.W.findIn K (.ref (AD "Unfit")) "name" = some none
  g_NotKnown : mg "NotKnown" = some (.ref (AD "NotKnown"))
  o_NotKnown : OexC K (AD "NotKnown")
  i_NotKnown : PySem.W.findIn K (.ref (AD "NotKnown")) "__init__" = some (some (.ref (AD "NotKnown.__init__")))
  ti_NotKnown : PySem.W.typeIn K (.ref (AD "NotKnown.__init__")) = some (.type "function")
  xf_NotKnown : XfC K (AD "NotKnown")
  n_NotKnown_at : PySem.W.findIn K (.ref (AD "NotKnown")) "at" = some none
  g_BadStory : mg "BadStory" = some (.ref (AD "BadStory"))
  o_BadStory : OexC K (AD "BadStory")
  i_BadStory : PySem.W.findIn K (.ref (AD "BadStory")) "__init__" = some (some (.ref (AD "BadStory.__init__")))
  ti_BadStory : PySem.W.typeIn K (.ref (AD "BadStory.__init__")) = some (.type "function")
  xf_BadStory : XfC K (AD "BadStory")
  n_BadStory_line : PySem.W.findIn K (.ref (AD "BadStory")) "line" = some none
  xv : ∀ c ∈ ERN, ExcC K (AD c)
  kk : ∀ d ∈ ERN, ∀ c ∈ ERN, PySem.W.kitOne K (.ref (AD d)) (.ref (AD c)) = some (decide (d = c))
  kF : ∀ d ∈ ERN, PySem.W.kitOne K (.ref (AD d)) (.ref (AD "FetchError")) = some true
  kV : ∀ d ∈ ERN, PySem.W.kitOne K (.ref (AD d)) (.type "ValueError") = some true
theorem Txt.bd_BadRow___init__ {K : PySem.W.Frag} {mg : Str → Option Value} {AD : String → Addr} {FD : String → FuncData} {TK : String → Tok} (T : Txt K mg AD FD TK) : Binds K (FD "BadRow.__init__") ["self", "row"] [] := T.f_BadRow___init__.binds fun _ _ _ _ _ _ us hl => match us, hl with | [_, _], _ => rfl
theorem Txt.bd_BadBox___init__ {K : PySem.W.Frag} {mg : Str → Option Value} {AD : String → Addr} {FD : String → FuncData} {TK : String → Tok} (T : Txt K mg AD FD TK) : Binds K (FD "BadBox.__init__") ["self", "what", "at"] [] := T.f_BadBox___init__.binds fun _ _ _ _ _ _ us hl => match us, hl with | [_, _, _], _ => rfl
theorem Txt.bd_BadColumn___init__ {K : PySem.W.Frag} {mg : Str → Option Value} {AD : String → Addr} {FD : String → FuncData} {TK : String → Tok} (T : Txt K mg AD FD TK) : Binds K (FD "BadColumn.__init__") ["self", "column"] [] := T.f_BadColumn___init__.binds fun _ _ _ _ _ _ us hl => match us, hl with | [_, _], _ => rfl
theorem Txt.bd_BadText___init__ {K : PySem.W.Frag} {mg : Str → Option Value} {AD : String → Addr} {FD : String → FuncData} {TK : String → Tok} (T : Txt K mg AD FD TK) : Binds K (FD "BadText.__init__") ["self", "place"] [] := T.f_BadText___init__.binds fun _ _ _ _ _ _ us hl => match us, hl with | [_, _], _ => rfl
theorem Txt.bd_BadPage___init__ {K : PySem.W.Frag} {mg : Str → Option Value} {AD : String → Addr} {FD : String → FuncData} {TK : String → Tok} (T : Txt K mg AD FD TK) : Binds K (FD "BadPage.__init__") ["self", "what"] [] := T.f_BadPage___init__.binds fun _ _ _ _ _ _ us hl => match us, hl with | [_, _], _ => rfl
theorem Txt.bd_BadIndex___init__ {K : PySem.W.Frag} {mg : Str → Option Value} {AD : String → Addr} {FD : String → FuncData} {TK : String → Tok} (T : Txt K mg AD FD TK) : Binds K (FD "BadIndex.__init__") ["self", "what"] [] := T.f_BadIndex___init__.binds fun _ _ _ _ _ _ us hl => match us, hl with | [_, _], _ => rfl
theorem Txt.bd_BadLayer___init__ {K : PySem.W.Frag} {mg : Str → Option Value} {AD : String → Addr} {FD : String → FuncData} {TK : String → Tok} (T : Txt K mg AD FD TK) : Binds K (FD "BadLayer.__init__") ["self", "what", "at"] [] := T.f_BadLayer___init__.binds fun _ _ _ _ _ _ us hl => match us, hl with | [_, _, _], _ => rfl
theorem Txt.bd_NoIndex___init__ {K : PySem.W.Frag} {mg : Str → Option Value} {AD : String → Addr} {FD : String → FuncData} {TK : String → Tok} (T : Txt K mg AD FD TK) : Binds K (FD "NoIndex.__init__") ["self", "index"] [] := T.f_NoIndex___init__.binds fun _ _ _ _ _ _ us hl => match us, hl with | [_, _], _ => rfl
theorem Txt.bd_BadTable___init__ {K : PySem.W.Frag} {mg : Str → Option Value} {AD : String → Addr} {FD : String → FuncData} {TK : String → Tok} (T : Txt K mg AD FD TK) : Binds K (FD "BadTable.__init__") ["self", "what", "at"] [] := T.f_BadTable___init__.binds fun _ _ _ _ _ _ us hl => match us, hl with | [_, _, _], _ => rfl
theorem Txt.bd_NoLayer___init__ {K : PySem.W.Frag} {mg : Str → Option Value} {AD : String → Addr} {FD : String → FuncData} {TK : String → Tok} (T : Txt K mg AD FD TK) : Binds K (FD "NoLayer.__init__") ["self", "layer"] [] := T.f_NoLayer___init__.binds fun _ _ _ _ _ _ us hl => match us, hl with | [_, _], _ => rfl
theorem Txt.bd_BadStore___init__ {K : PySem.W.Frag} {mg : Str → Option Value} {AD : String → Addr} {FD : String → FuncData} {TK : String → Tok} (T : Txt K mg AD FD TK) : Binds K (FD "BadStore.__init__") ["self", "what", "at"] [] := T.f_BadStore___init__.binds fun _ _ _ _ _ _ us hl => match us, hl with | [_, _, _], _ => rfl
theorem Txt.bd_NoTable___init__ {K : PySem.W.Frag} {mg : Str → Option Value} {AD : String → Addr} {FD : String → FuncData} {TK : String → Tok} (T : Txt K mg AD FD TK) : Binds K (FD "NoTable.__init__") ["self", "name"] [] := T.f_NoTable___init__.binds fun _ _ _ _ _ _ us hl => match us, hl with | [_, _], _ => rfl
theorem Txt.bd_BadChange___init__ {K : PySem.W.Frag} {mg : Str → Option Value} {AD : String → Addr} {FD : String → FuncData} {TK : String → Tok} (T : Txt K mg AD FD TK) : Binds K (FD "BadChange.__init__") ["self", "at"] [] := T.f_BadChange___init__.binds fun _ _ _ _ _ _ us hl => match us, hl with | [_, _], _ => rfl
theorem Txt.bd_LayersFull___init__ {K : PySem.W.Frag} {mg : Str → Option Value} {AD : String → Addr} {FD : String → FuncData} {TK : String → Tok} (T : Txt K mg AD FD TK) : Binds K (FD "LayersFull.__init__") ["self", "name"] [] := T.f_LayersFull___init__.binds fun _ _ _ _ _ _ us hl => match us, hl with | [_, _], _ => rfl
theorem Txt.bd_BadNumber___init__ {K : PySem.W.Frag} {mg : Str → Option Value} {AD : String → Addr} {FD : String → FuncData} {TK : String → Tok} (T : Txt K mg AD FD TK) : Binds K (FD "BadNumber.__init__") ["self", "number"] [] := T.f_BadNumber___init__.binds fun _ _ _ _ _ _ us hl => match us, hl with | [_, _], _ => rfl
theorem Txt.bd_BadQuestion___init__ {K : PySem.W.Frag} {mg : Str → Option Value} {AD : String → Addr} {FD : String → FuncData} {TK : String → Tok} (T : Txt K mg AD FD TK) : Binds K (FD "BadQuestion.__init__") ["self", "what", "at"] [] := T.f_BadQuestion___init__.binds fun _ _ _ _ _ _ us hl => match us, hl with | [_, _, _], _ => rfl
theorem Txt.bd_NoPage___init__ {K : PySem.W.Frag} {mg : Str → Option Value} {AD : String → Addr} {FD : String → FuncData} {TK : String → Tok} (T : Txt K mg AD FD TK) : Binds K (FD "NoPage.__init__") ["self", "name"] [] := T.f_NoPage___init__.binds fun _ _ _ _ _ _ us hl => match us, hl with | [_, _], _ => rfl
theorem Txt.bd_NoFactor___init__ {K : PySem.W.Frag} {mg : Str → Option Value} {AD : String → Addr} {FD : String → FuncData} {TK : String → Tok} (T : Txt K mg AD FD TK) : Binds K (FD "NoFactor.__init__") ["self", "what"] [] := T.f_NoFactor___init__.binds fun _ _ _ _ _ _ us hl => match us, hl with | [_, _], _ => rfl
theorem Txt.bd_BadPaper___init__ {K : PySem.W.Frag} {mg : Str → Option Value} {AD : String → Addr} {FD : String → FuncData} {TK : String → Tok} (T : Txt K mg AD FD TK) : Binds K (FD "BadPaper.__init__") ["self", "line", "what"] [] := T.f_BadPaper___init__.binds fun _ _ _ _ _ _ us hl => match us, hl with | [_, _, _], _ => rfl
theorem Txt.bd_TooMany___init__ {K : PySem.W.Frag} {mg : Str → Option Value} {AD : String → Addr} {FD : String → FuncData} {TK : String → Tok} (T : Txt K mg AD FD TK) : Binds K (FD "TooMany.__init__") ["self", "most"] [] := T.f_TooMany___init__.binds fun _ _ _ _ _ _ us hl => match us, hl with | [_, _], _ => rfl
theorem Txt.bd_KnownRow___init__ {K : PySem.W.Frag} {mg : Str → Option Value} {AD : String → Addr} {FD : String → FuncData} {TK : String → Tok} (T : Txt K mg AD FD TK) : Binds K (FD "KnownRow.__init__") ["self", "name", "row"] [] := T.f_KnownRow___init__.binds fun _ _ _ _ _ _ us hl => match us, hl with | [_, _, _], _ => rfl
theorem Txt.bd_BadFoe___init__ {K : PySem.W.Frag} {mg : Str → Option Value} {AD : String → Addr} {FD : String → FuncData} {TK : String → Tok} (T : Txt K mg AD FD TK) : Binds K (FD "BadFoe.__init__") ["self", "what"] [] := T.f_BadFoe___init__.binds fun _ _ _ _ _ _ us hl => match us, hl with | [_, _], _ => rfl
theorem Txt.bd_BadDead___init__ {K : PySem.W.Frag} {mg : Str → Option Value} {AD : String → Addr} {FD : String → FuncData} {TK : String → Tok} (T : Txt K mg AD FD TK) : Binds K (FD "BadDead.__init__") ["self", "at"] [] := T.f_BadDead___init__.binds fun _ _ _ _ _ _ us hl => match us, hl with | [_, _], _ => rfl
theorem Txt.bd_NoSpread___init__ {K : PySem.W.Frag} {mg : Str → Option Value} {AD : String → Addr} {FD : String → FuncData} {TK : String → Tok} (T : Txt K mg AD FD TK) : Binds K (FD "NoSpread.__init__") ["self", "what"] [] := T.f_NoSpread___init__.binds fun _ _ _ _ _ _ us hl => match us, hl with | [_, _], _ => rfl
theorem Txt.bd_NotInDoubt___init__ {K : PySem.W.Frag} {mg : Str → Option Value} {AD : String → Addr} {FD : String → FuncData} {TK : String → Tok} (T : Txt K mg AD FD TK) : Binds K (FD "NotInDoubt.__init__") ["self", "point"] [] := T.f_NotInDoubt___init__.binds fun _ _ _ _ _ _ us hl => match us, hl with | [_, _], _ => rfl
theorem Txt.bd_Unfit___init__ {K : PySem.W.Frag} {mg : Str → Option Value} {AD : String → Addr} {FD : String → FuncData} {TK : String → Tok} (T : Txt K mg AD FD TK) : Binds K (FD "Unfit.__init__") ["self", "name"] [] := T.f_Unfit___init__.binds fun _ _ _ _ _ _ us hl => match us, hl with | [_, _], _ => rfl
theorem Txt.bd_NotKnown___init__ {K : PySem.W.Frag} {mg : Str → Option Value} {AD : String → Addr} {FD : String → FuncData} {TK : String → Tok} (T : Txt K mg AD FD TK) : Binds K (FD "NotKnown.__init__") ["self", "at"] [] := T.f_NotKnown___init__.binds fun _ _ _ _ _ _ us hl => match us, hl with | [_, _], _ => rfl
theorem Txt.bd_BadStory___init__ {K : PySem.W.Frag} {mg : Str → Option Value} {AD : String → Addr} {FD : String → FuncData} {TK : String → Tok} (T : Txt K mg AD FD TK) : Binds K (FD "BadStory.__init__") ["self", "line"] [] := T.f_BadStory___init__.binds fun _ _ _ _ _ _ us hl => match us, hl with | [_, _], _ => rfl
theorem Txt.bd__law_bag {K : PySem.W.Frag} {mg : Str → Option Value} {AD : String → Addr} {FD : String → FuncData} {TK : String → Tok} (T : Txt K mg AD FD TK) : Binds K (FD "_law_bag") ["script"] [] := T.f__law_bag.binds fun _ _ _ _ _ _ us hl => match us, hl with | [_], _ => rfl
theorem Txt.bd__law_draw {K : PySem.W.Frag} {mg : Str → Option Value} {AD : String → Addr} {FD : String → FuncData} {TK : String → Tok} (T : Txt K mg AD FD TK) : Binds K (FD "_law_draw") ["bag", "limit"] [] := T.f__law_draw.binds fun _ _ _ _ _ _ us hl => match us, hl with | [_, _], _ => rfl
theorem Txt.bd__law_classes {K : PySem.W.Frag} {mg : Str → Option Value} {AD : String → Addr} {FD : String → FuncData} {TK : String → Tok} (T : Txt K mg AD FD TK) : Binds K (FD "_law_classes") ["e"] [] := T.f__law_classes.binds fun _ _ _ _ _ _ us hl => match us, hl with | [_], _ => rfl
theorem Txt.bd_law {K : PySem.W.Frag} {mg : Str → Option Value} {AD : String → Addr} {FD : String → FuncData} {TK : String → Tok} (T : Txt K mg AD FD TK) : Binds K (FD "law") ["script"] [] := T.f_law.binds fun _ _ _ _ _ _ us hl => match us, hl with | [_], _ => rfl
end K99
namespace K99
open PySem L2 Co Fx
section
variable {P : Program} {w : World} {K : PySem.W.Frag} {mg : Str → Option Value} {base : Heap} {AD : String → Addr} {FD : String → FuncData} {TK : String → Tok}
theorem ok_BadBox___init__ (T : Txt K mg AD FD TK) : FnOk P w K mg base CX0 1 (AD "BadBox.__init__") (FD "BadBox.__init__") ["self", "what", "at"] (spIni (AD "BadBox") ["what", "at"]) := by
  refine T.f_BadBox___init__.ok sc_BadBox___init__ (fun vs H Q E h => spIni_len h) (fun cdv A outer s H vs Q E hr h => ?_)
  obtain ⟨a, ws, rfl, hl, ha, k⟩ := h
  obtain ⟨v0, v1, rfl⟩ : ∃ v0 v1, ws = [v0, v1] := by
    match ws, hl with
    | [v0, v1], _ => exact ⟨v0, v1, rfl⟩
  refine ⟨_, (pss_cons (ps_ost (pv 0) (pv 1))
  (pss_one (ps_ost (pv 0) (pv 2)))), ?_⟩
  refine ⟨v0, rfl, .ref a, rfl, a, AD "BadBox", rfl, T.o_BadBox, T.n_BadBox_what, .inl ⟨ha, fun dx h1 h2 => ?_⟩⟩
  refine ⟨v1, rfl, .ref a, rfl, a, AD "BadBox", rfl, T.o_BadBox, T.n_BadBox_at, .inr ⟨dx, [("what", v0)], upd_same, by rw [upd_ne h2, upd_same], (show 1 ≤ 900 by decide), ?_⟩⟩
  rw [ini_put h2]
  exact k dx h1 h2
theorem ok_BadChange___init__ (T : Txt K mg AD FD TK) : FnOk P w K mg base CX0 1 (AD "BadChange.__init__") (FD "BadChange.__init__") ["self", "at"] (spIni (AD "BadChange") ["at"]) := by
  refine T.f_BadChange___init__.ok sc_BadChange___init__ (fun vs H Q E h => spIni_len h) (fun cdv A outer s H vs Q E hr h => ?_)
  obtain ⟨a, ws, rfl, hl, ha, k⟩ := h
  obtain ⟨v0, rfl⟩ : ∃ v0, ws = [v0] := by
    match ws, hl with
    | [v0], _ => exact ⟨v0, rfl⟩
  refine ⟨_, (pss_one (ps_ost (pv 0) (pv 1))), ?_⟩
  exact ⟨v0, rfl, .ref a, rfl, a, AD "BadChange", rfl, T.o_BadChange, T.n_BadChange_at, .inl ⟨ha, fun dx h1 h2 => k dx h1 h2⟩⟩
theorem ok_BadColumn___init__ (T : Txt K mg AD FD TK) : FnOk P w K mg base CX0 1 (AD "BadColumn.__init__") (FD "BadColumn.__init__") ["self", "column"] (spIni (AD "BadColumn") ["column"]) := by
  refine T.f_BadColumn___init__.ok sc_BadColumn___init__ (fun vs H Q E h => spIni_len h) (fun cdv A outer s H vs Q E hr h => ?_)
  obtain ⟨a, ws, rfl, hl, ha, k⟩ := h
  obtain ⟨v0, rfl⟩ : ∃ v0, ws = [v0] := by
    match ws, hl with
    | [v0], _ => exact ⟨v0, rfl⟩
  refine ⟨_, (pss_one (ps_ost (pv 0) (pv 1))), ?_⟩
  exact ⟨v0, rfl, .ref a, rfl, a, AD "BadColumn", rfl, T.o_BadColumn, T.n_BadColumn_column, .inl ⟨ha, fun dx h1 h2 => k dx h1 h2⟩⟩
theorem ok_BadDead___init__ (T : Txt K mg AD FD TK) : FnOk P w K mg base CX0 1 (AD "BadDead.__init__") (FD "BadDead.__init__") ["self", "at"] (spIni (AD "BadDead") ["at"]) := by
  refine T.f_BadDead___init__.ok sc_BadDead___init__ (fun vs H Q E h => spIni_len h) (fun cdv A outer s H vs Q E hr h => ?_)
  obtain ⟨a, ws, rfl, hl, ha, k⟩ := h
  obtain ⟨v0, rfl⟩ : ∃ v0, ws = [v0] := by
    match ws, hl with
    | [v0], _ => exact ⟨v0, rfl⟩
  refine ⟨_, (pss_one (ps_ost (pv 0) (pv 1))), ?_⟩
  exact ⟨v0, rfl, .ref a, rfl, a, AD "BadDead", rfl, T.o_BadDead, T.n_BadDead_at, .inl ⟨ha, fun dx h1 h2 => k dx h1 h2⟩⟩
theorem ok_BadFoe___init__ (T : Txt K mg AD FD TK) : FnOk P w K mg base CX0 1 (AD "BadFoe.__init__") (FD "BadFoe.__init__") ["self", "what"] (spIni (AD "BadFoe") ["what"]) := by
  refine T.f_BadFoe___init__.ok sc_BadFoe___init__ (fun vs H Q E h => spIni_len h) (fun cdv A outer s H vs Q E hr h => ?_)
  obtain ⟨a, ws, rfl, hl, ha, k⟩ := h
  obtain ⟨v0, rfl⟩ : ∃ v0, ws = [v0] := by
    match ws, hl with
    | [v0], _ => exact ⟨v0, rfl⟩
  refine ⟨_, (pss_one (ps_ost (pv 0) (pv 1))), ?_⟩
  exact ⟨v0, rfl, .ref a, rfl, a, AD "BadFoe", rfl, T.o_BadFoe, T.n_BadFoe_what, .inl ⟨ha, fun dx h1 h2 => k dx h1 h2⟩⟩
theorem ok_BadIndex___init__ (T : Txt K mg AD FD TK) : FnOk P w K mg base CX0 1 (AD "BadIndex.__init__") (FD "BadIndex.__init__") ["self", "what"] (spIni (AD "BadIndex") ["what"]) := by
  refine T.f_BadIndex___init__.ok sc_BadIndex___init__ (fun vs H Q E h => spIni_len h) (fun cdv A outer s H vs Q E hr h => ?_)
  obtain ⟨a, ws, rfl, hl, ha, k⟩ := h
  obtain ⟨v0, rfl⟩ : ∃ v0, ws = [v0] := by
    match ws, hl with
    | [v0], _ => exact ⟨v0, rfl⟩
  refine ⟨_, (pss_one (ps_ost (pv 0) (pv 1))), ?_⟩
  exact ⟨v0, rfl, .ref a, rfl, a, AD "BadIndex", rfl, T.o_BadIndex, T.n_BadIndex_what, .inl ⟨ha, fun dx h1 h2 => k dx h1 h2⟩⟩
theorem ok_BadLayer___init__ (T : Txt K mg AD FD TK) : FnOk P w K mg base CX0 1 (AD "BadLayer.__init__") (FD "BadLayer.__init__") ["self", "what", "at"] (spIni (AD "BadLayer") ["what", "at"]) := by
  refine T.f_BadLayer___init__.ok sc_BadLayer___init__ (fun vs H Q E h => spIni_len h) (fun cdv A outer s H vs Q E hr h => ?_)
  obtain ⟨a, ws, rfl, hl, ha, k⟩ := h
  obtain ⟨v0, v1, rfl⟩ : ∃ v0 v1, ws = [v0, v1] := by
    match ws, hl with
    | [v0, v1], _ => exact ⟨v0, v1, rfl⟩
  refine ⟨_, (pss_cons (ps_ost (pv 0) (pv 1))
  (pss_one (ps_ost (pv 0) (pv 2)))), ?_⟩
  refine ⟨v0, rfl, .ref a, rfl, a, AD "BadLayer", rfl, T.o_BadLayer, T.n_BadLayer_what, .inl ⟨ha, fun dx h1 h2 => ?_⟩⟩
  refine ⟨v1, rfl, .ref a, rfl, a, AD "BadLayer", rfl, T.o_BadLayer, T.n_BadLayer_at, .inr ⟨dx, [("what", v0)], upd_same, by rw [upd_ne h2, upd_same], (show 1 ≤ 900 by decide), ?_⟩⟩
  rw [ini_put h2]
  exact k dx h1 h2
theorem ok_BadNumber___init__ (T : Txt K mg AD FD TK) : FnOk P w K mg base CX0 1 (AD "BadNumber.__init__") (FD "BadNumber.__init__") ["self", "number"] (spIni (AD "BadNumber") ["number"]) := by
  refine T.f_BadNumber___init__.ok sc_BadNumber___init__ (fun vs H Q E h => spIni_len h) (fun cdv A outer s H vs Q E hr h => ?_)
  obtain ⟨a, ws, rfl, hl, ha, k⟩ := h
  obtain ⟨v0, rfl⟩ : ∃ v0, ws = [v0] := by
    match ws, hl with
    | [v0], _ => exact ⟨v0, rfl⟩
  refine ⟨_, (pss_one (ps_ost (pv 0) (pv 1))), ?_⟩
  exact ⟨v0, rfl, .ref a, rfl, a, AD "BadNumber", rfl, T.o_BadNumber, T.n_BadNumber_number, .inl ⟨ha, fun dx h1 h2 => k dx h1 h2⟩⟩
theorem ok_BadPage___init__ (T : Txt K mg AD FD TK) : FnOk P w K mg base CX0 1 (AD "BadPage.__init__") (FD "BadPage.__init__") ["self", "what"] (spIni (AD "BadPage") ["what"]) := by
  refine T.f_BadPage___init__.ok sc_BadPage___init__ (fun vs H Q E h => spIni_len h) (fun cdv A outer s H vs Q E hr h => ?_)
  obtain ⟨a, ws, rfl, hl, ha, k⟩ := h
  obtain ⟨v0, rfl⟩ : ∃ v0, ws = [v0] := by
    match ws, hl with
    | [v0], _ => exact ⟨v0, rfl⟩
  refine ⟨_, (pss_one (ps_ost (pv 0) (pv 1))), ?_⟩
  exact ⟨v0, rfl, .ref a, rfl, a, AD "BadPage", rfl, T.o_BadPage, T.n_BadPage_what, .inl ⟨ha, fun dx h1 h2 => k dx h1 h2⟩⟩
theorem ok_BadPaper___init__ (T : Txt K mg AD FD TK) : FnOk P w K mg base CX0 1 (AD "BadPaper.__init__") (FD "BadPaper.__init__") ["self", "line", "what"] (spIni (AD "BadPaper") ["line", "what"]) := by
  refine T.f_BadPaper___init__.ok sc_BadPaper___init__ (fun vs H Q E h => spIni_len h) (fun cdv A outer s H vs Q E hr h => ?_)
  obtain ⟨a, ws, rfl, hl, ha, k⟩ := h
  obtain ⟨v0, v1, rfl⟩ : ∃ v0 v1, ws = [v0, v1] := by
    match ws, hl with
    | [v0, v1], _ => exact ⟨v0, v1, rfl⟩
  refine ⟨_, (pss_cons (ps_ost (pv 0) (pv 1))
  (pss_one (ps_ost (pv 0) (pv 2)))), ?_⟩
  refine ⟨v0, rfl, .ref a, rfl, a, AD "BadPaper", rfl, T.o_BadPaper, T.n_BadPaper_line, .inl ⟨ha, fun dx h1 h2 => ?_⟩⟩
  refine ⟨v1, rfl, .ref a, rfl, a, AD "BadPaper", rfl, T.o_BadPaper, T.n_BadPaper_what, .inr ⟨dx, [("line", v0)], upd_same, by rw [upd_ne h2, upd_same], (show 1 ≤ 900 by decide), ?_⟩⟩
  rw [ini_put h2]
  exact k dx h1 h2
theorem ok_BadQuestion___init__ (T : Txt K mg AD FD TK) : FnOk P w K mg base CX0 1 (AD "BadQuestion.__init__") (FD "BadQuestion.__init__") ["self", "what", "at"] (spIni (AD "BadQuestion") ["what", "at"]) := by
  refine T.f_BadQuestion___init__.ok sc_BadQuestion___init__ (fun vs H Q E h => spIni_len h) (fun cdv A outer s H vs Q E hr h => ?_)
  obtain ⟨a, ws, rfl, hl, ha, k⟩ := h
  obtain ⟨v0, v1, rfl⟩ : ∃ v0 v1, ws = [v0, v1] := by
    match ws, hl with
    | [v0, v1], _ => exact ⟨v0, v1, rfl⟩
  refine ⟨_, (pss_cons (ps_ost (pv 0) (pv 1))
  (pss_one (ps_ost (pv 0) (pv 2)))), ?_⟩
  refine ⟨v0, rfl, .ref a, rfl, a, AD "BadQuestion", rfl, T.o_BadQuestion, T.n_BadQuestion_what, .inl ⟨ha, fun dx h1 h2 => ?_⟩⟩
  refine ⟨v1, rfl, .ref a, rfl, a, AD "BadQuestion", rfl, T.o_BadQuestion, T.n_BadQuestion_at, .inr ⟨dx, [("what", v0)], upd_same, by rw [upd_ne h2, upd_same], (show 1 ≤ 900 by decide), ?_⟩⟩
  rw [ini_put h2]
  exact k dx h1 h2
theorem ok_BadRow___init__ (T : Txt K mg AD FD TK) : FnOk P w K mg base CX0 1 (AD "BadRow.__init__") (FD "BadRow.__init__") ["self", "row"] (spIni (AD "BadRow") ["row"]) := by
  refine T.f_BadRow___init__.ok sc_BadRow___init__ (fun vs H Q E h => spIni_len h) (fun cdv A outer s H vs Q E hr h => ?_)
  obtain ⟨a, ws, rfl, hl, ha, k⟩ := h
  obtain ⟨v0, rfl⟩ : ∃ v0, ws = [v0] := by
    match ws, hl with
    | [v0], _ => exact ⟨v0, rfl⟩
  refine ⟨_, (pss_one (ps_ost (pv 0) (pv 1))), ?_⟩
  exact ⟨v0, rfl, .ref a, rfl, a, AD "BadRow", rfl, T.o_BadRow, T.n_BadRow_row, .inl ⟨ha, fun dx h1 h2 => k dx h1 h2⟩⟩
theorem ok_BadStore___init__ (T : Txt K mg AD FD TK) : FnOk P w K mg base CX0 1 (AD "BadStore.__init__") (FD "BadStore.__init__") ["self", "what", "at"] (spIni (AD "BadStore") ["what", "at"]) := by
  refine T.f_BadStore___init__.ok sc_BadStore___init__ (fun vs H Q E h => spIni_len h) (fun cdv A outer s H vs Q E hr h => ?_)
  obtain ⟨a, ws, rfl, hl, ha, k⟩ := h
  obtain ⟨v0, v1, rfl⟩ : ∃ v0 v1, ws = [v0, v1] := by
    match ws, hl with
    | [v0, v1], _ => exact ⟨v0, v1, rfl⟩
  refine ⟨_, (pss_cons (ps_ost (pv 0) (pv 1))
  (pss_one (ps_ost (pv 0) (pv 2)))), ?_⟩
  refine ⟨v0, rfl, .ref a, rfl, a, AD "BadStore", rfl, T.o_BadStore, T.n_BadStore_what, .inl ⟨ha, fun dx h1 h2 => ?_⟩⟩
  refine ⟨v1, rfl, .ref a, rfl, a, AD "BadStore", rfl, T.o_BadStore, T.n_BadStore_at, .inr ⟨dx, [("what", v0)], upd_same, by rw [upd_ne h2, upd_same], (show 1 ≤ 900 by decide), ?_⟩⟩
  rw [ini_put h2]
  exact k dx h1 h2
theorem ok_BadStory___init__ (T : Txt K mg AD FD TK) : FnOk P w K mg base CX0 1 (AD "BadStory.__init__") (FD "BadStory.__init__") ["self", "line"] (spIni (AD "BadStory") ["line"]) := by
  refine T.f_BadStory___init__.ok sc_BadStory___init__ (fun vs H Q E h => spIni_len h) (fun cdv A outer s H vs Q E hr h => ?_)
  obtain ⟨a, ws, rfl, hl, ha, k⟩ := h
  obtain ⟨v0, rfl⟩ : ∃ v0, ws = [v0] := by
    match ws, hl with
    | [v0], _ => exact ⟨v0, rfl⟩
  refine ⟨_, (pss_one (ps_ost (pv 0) (pv 1))), ?_⟩
  exact ⟨v0, rfl, .ref a, rfl, a, AD "BadStory", rfl, T.o_BadStory, T.n_BadStory_line, .inl ⟨ha, fun dx h1 h2 => k dx h1 h2⟩⟩
theorem ok_BadTable___init__ (T : Txt K mg AD FD TK) : FnOk P w K mg base CX0 1 (AD "BadTable.__init__") (FD "BadTable.__init__") ["self", "what", "at"] (spIni (AD "BadTable") ["what", "at"]) := by
  refine T.f_BadTable___init__.ok sc_BadTable___init__ (fun vs H Q E h => spIni_len h) (fun cdv A outer s H vs Q E hr h => ?_)
  obtain ⟨a, ws, rfl, hl, ha, k⟩ := h
  obtain ⟨v0, v1, rfl⟩ : ∃ v0 v1, ws = [v0, v1] := by
    match ws, hl with
    | [v0, v1], _ => exact ⟨v0, v1, rfl⟩
  refine ⟨_, (pss_cons (ps_ost (pv 0) (pv 1))
  (pss_one (ps_ost (pv 0) (pv 2)))), ?_⟩
  refine ⟨v0, rfl, .ref a, rfl, a, AD "BadTable", rfl, T.o_BadTable, T.n_BadTable_what, .inl ⟨ha, fun dx h1 h2 => ?_⟩⟩
  refine ⟨v1, rfl, .ref a, rfl, a, AD "BadTable", rfl, T.o_BadTable, T.n_BadTable_at, .inr ⟨dx, [("what", v0)], upd_same, by rw [upd_ne h2, upd_same], (show 1 ≤ 900 by decide), ?_⟩⟩
  rw [ini_put h2]
  exact k dx h1 h2
theorem ok_BadText___init__ (T : Txt K mg AD FD TK) : FnOk P w K mg base CX0 1 (AD "BadText.__init__") (FD "BadText.__init__") ["self", "place"] (spIni (AD "BadText") ["place"]) := by
  refine T.f_BadText___init__.ok sc_BadText___init__ (fun vs H Q E h => spIni_len h) (fun cdv A outer s H vs Q E hr h => ?_)
  obtain ⟨a, ws, rfl, hl, ha, k⟩ := h
  obtain ⟨v0, rfl⟩ : ∃ v0, ws = [v0] := by
    match ws, hl with
    | [v0], _ => exact ⟨v0, rfl⟩
  refine ⟨_, (pss_one (ps_ost (pv 0) (pv 1))), ?_⟩
  exact ⟨v0, rfl, .ref a, rfl, a, AD "BadText", rfl, T.o_BadText, T.n_BadText_place, .inl ⟨ha, fun dx h1 h2 => k dx h1 h2⟩⟩
theorem ok_KnownRow___init__ (T : Txt K mg AD FD TK) : FnOk P w K mg base CX0 1 (AD "KnownRow.__init__") (FD "KnownRow.__init__") ["self", "name", "row"] (spIni (AD "KnownRow") ["name", "row"]) := by
  refine T.f_KnownRow___init__.ok sc_KnownRow___init__ (fun vs H Q E h => spIni_len h) (fun cdv A outer s H vs Q E hr h => ?_)
  obtain ⟨a, ws, rfl, hl, ha, k⟩ := h
  obtain ⟨v0, v1, rfl⟩ : ∃ v0 v1, ws = [v0, v1] := by
    match ws, hl with
    | [v0, v1], _ => exact ⟨v0, v1, rfl⟩
  refine ⟨_, (pss_cons (ps_ost (pv 0) (pv 1))
  (pss_one (ps_ost (pv 0) (pv 2)))), ?_⟩
  refine ⟨v0, rfl, .ref a, rfl, a, AD "KnownRow", rfl, T.o_KnownRow, T.n_KnownRow_name, .inl ⟨ha, fun dx h1 h2 => ?_⟩⟩
  refine ⟨v1, rfl, .ref a, rfl, a, AD "KnownRow", rfl, T.o_KnownRow, T.n_KnownRow_row, .inr ⟨dx, [("name", v0)], upd_same, by rw [upd_ne h2, upd_same], (show 1 ≤ 900 by decide), ?_⟩⟩
  rw [ini_put h2]
  exact k dx h1 h2
theorem ok_LayersFull___init__ (T : Txt K mg AD FD TK) : FnOk P w K mg base CX0 1 (AD "LayersFull.__init__") (FD "LayersFull.__init__") ["self", "name"] (spIni (AD "LayersFull") ["name"]) := by
  refine T.f_LayersFull___init__.ok sc_LayersFull___init__ (fun vs H Q E h => spIni_len h) (fun cdv A outer s H vs Q E hr h => ?_)
  obtain ⟨a, ws, rfl, hl, ha, k⟩ := h
  obtain ⟨v0, rfl⟩ : ∃ v0, ws = [v0] := by
    match ws, hl with
    | [v0], _ => exact ⟨v0, rfl⟩
  refine ⟨_, (pss_one (ps_ost (pv 0) (pv 1))), ?_⟩
  exact ⟨v0, rfl, .ref a, rfl, a, AD "LayersFull", rfl, T.o_LayersFull, T.n_LayersFull_name, .inl ⟨ha, fun dx h1 h2 => k dx h1 h2⟩⟩
theorem ok_NoFactor___init__ (T : Txt K mg AD FD TK) : FnOk P w K mg base CX0 1 (AD "NoFactor.__init__") (FD "NoFactor.__init__") ["self", "what"] (spIni (AD "NoFactor") ["what"]) := by
  refine T.f_NoFactor___init__.ok sc_NoFactor___init__ (fun vs H Q E h => spIni_len h) (fun cdv A outer s H vs Q E hr h => ?_)
  obtain ⟨a, ws, rfl, hl, ha, k⟩ := h
  obtain ⟨v0, rfl⟩ : ∃ v0, ws = [v0] := by
    match ws, hl with
    | [v0], _ => exact ⟨v0, rfl⟩
  refine ⟨_, (pss_one (ps_ost (pv 0) (pv 1))), ?_⟩
  exact ⟨v0, rfl, .ref a, rfl, a, AD "NoFactor", rfl, T.o_NoFactor, T.n_NoFactor_what, .inl ⟨ha, fun dx h1 h2 => k dx h1 h2⟩⟩
theorem ok_NoIndex___init__ (T : Txt K mg AD FD TK) : FnOk P w K mg base CX0 1 (AD "NoIndex.__init__") (FD "NoIndex.__init__") ["self", "index"] (spIni (AD "NoIndex") ["index"]) := by
  refine T.f_NoIndex___init__.ok sc_NoIndex___init__ (fun vs H Q E h => spIni_len h) (fun cdv A outer s H vs Q E hr h => ?_)
  obtain ⟨a, ws, rfl, hl, ha, k⟩ := h
  obtain ⟨v0, rfl⟩ : ∃ v0, ws = [v0] := by
    match ws, hl with
    | [v0], _ => exact ⟨v0, rfl⟩
  refine ⟨_, (pss_one (ps_ost (pv 0) (pv 1))), ?_⟩
  exact ⟨v0, rfl, .ref a, rfl, a, AD "NoIndex", rfl, T.o_NoIndex, T.n_NoIndex_index, .inl ⟨ha, fun dx h1 h2 => k dx h1 h2⟩⟩
theorem ok_NoLayer___init__ (T : Txt K mg AD FD TK) : FnOk P w K mg base CX0 1 (AD "NoLayer.__init__") (FD "NoLayer.__init__") ["self", "layer"] (spIni (AD "NoLayer") ["layer"]) := by
  refine T.f_NoLayer___init__.ok sc_NoLayer___init__ (fun vs H Q E h => spIni_len h) (fun cdv A outer s H vs Q E hr h => ?_)
  obtain ⟨a, ws, rfl, hl, ha, k⟩ := h
  obtain ⟨v0, rfl⟩ : ∃ v0, ws = [v0] := by
    match ws, hl with
    | [v0], _ => exact ⟨v0, rfl⟩
  refine ⟨_, (pss_one (ps_ost (pv 0) (pv 1))), ?_⟩
  exact ⟨v0, rfl, .ref a, rfl, a, AD "NoLayer", rfl, T.o_NoLayer, T.n_NoLayer_layer, .inl ⟨ha, fun dx h1 h2 => k dx h1 h2⟩⟩
theorem ok_NoPage___init__ (T : Txt K mg AD FD TK) : FnOk P w K mg base CX0 1 (AD "NoPage.__init__") (FD "NoPage.__init__") ["self", "name"] (spIni (AD "NoPage") ["name"]) := by
  refine T.f_NoPage___init__.ok sc_NoPage___init__ (fun vs H Q E h => spIni_len h) (fun cdv A outer s H vs Q E hr h => ?_)
  obtain ⟨a, ws, rfl, hl, ha, k⟩ := h
  obtain ⟨v0, rfl⟩ : ∃ v0, ws = [v0] := by
    match ws, hl with
    | [v0], _ => exact ⟨v0, rfl⟩
  refine ⟨_, (pss_one (ps_ost (pv 0) (pv 1))), ?_⟩
  exact ⟨v0, rfl, .ref a, rfl, a, AD "NoPage", rfl, T.o_NoPage, T.n_NoPage_name, .inl ⟨ha, fun dx h1 h2 => k dx h1 h2⟩⟩
theorem ok_NoSpread___init__ (T : Txt K mg AD FD TK) : FnOk P w K mg base CX0 1 (AD "NoSpread.__init__") (FD "NoSpread.__init__") ["self", "what"] (spIni (AD "NoSpread") ["what"]) := by
  refine T.f_NoSpread___init__.ok sc_NoSpread___init__ (fun vs H Q E h => spIni_len h) (fun cdv A outer s H vs Q E hr h => ?_)
  obtain ⟨a, ws, rfl, hl, ha, k⟩ := h
  obtain ⟨v0, rfl⟩ : ∃ v0, ws = [v0] := by
    match ws, hl with
    | [v0], _ => exact ⟨v0, rfl⟩
  refine ⟨_, (pss_one (ps_ost (pv 0) (pv 1))), ?_⟩
  exact ⟨v0, rfl, .ref a, rfl, a, AD "NoSpread", rfl, T.o_NoSpread, T.n_NoSpread_what, .inl ⟨ha, fun dx h1 h2 => k dx h1 h2⟩⟩
theorem ok_NoTable___init__ (T : Txt K mg AD FD TK) : FnOk P w K mg base CX0 1 (AD "NoTable.__init__") (FD "NoTable.__init__") ["self", "name"] (spIni (AD "NoTable") ["name"]) := by
  refine T.f_NoTable___init__.ok sc_NoTable___init__ (fun vs H Q E h => spIni_len h) (fun cdv A outer s H vs Q E hr h => ?_)
  obtain ⟨a, ws, rfl, hl, ha, k⟩ := h
  obtain ⟨v0, rfl⟩ : ∃ v0, ws = [v0] := by
    match ws, hl with
    | [v0], _ => exact ⟨v0, rfl⟩
  refine ⟨_, (pss_one (ps_ost (pv 0) (pv 1))), ?_⟩
  exact ⟨v0, rfl, .ref a, rfl, a, AD "NoTable", rfl, T.o_NoTable, T.n_NoTable_name, .inl ⟨ha, fun dx h1 h2 => k dx h1 h2⟩⟩
theorem ok_NotInDoubt___init__ (T : Txt K mg AD FD TK) : FnOk P w K mg base CX0 1 (AD "NotInDoubt.__init__") (FD "NotInDoubt.__init__") ["self", "point"] (spIni (AD "NotInDoubt") ["point"]) := by
  refine T.f_NotInDoubt___init__.ok sc_NotInDoubt___init__ (fun vs H Q E h => spIni_len h) (fun cdv A outer s H vs Q E hr h => ?_)
  obtain ⟨a, ws, rfl, hl, ha, k⟩ := h
  obtain ⟨v0, rfl⟩ : ∃ v0, ws = [v0] := by
    match ws, hl with
    | [v0], _ => exact ⟨v0, rfl⟩
  refine ⟨_, (pss_one (ps_ost (pv 0) (pv 1))), ?_⟩
  exact ⟨v0, rfl, .ref a, rfl, a, AD "NotInDoubt", rfl, T.o_NotInDoubt, T.n_NotInDoubt_point, .inl ⟨ha, fun dx h1 h2 => k dx h1 h2⟩⟩
theorem ok_NotKnown___init__ (T : Txt K mg AD FD TK) : FnOk P w K mg base CX0 1 (AD "NotKnown.__init__") (FD "NotKnown.__init__") ["self", "at"] (spIni (AD "NotKnown") ["at"]) := by
  refine T.f_NotKnown___init__.ok sc_NotKnown___init__ (fun vs H Q E h => spIni_len h) (fun cdv A outer s H vs Q E hr h => ?_)
  obtain ⟨a, ws, rfl, hl, ha, k⟩ := h
  obtain ⟨v0, rfl⟩ : ∃ v0, ws = [v0] := by
    match ws, hl with
    | [v0], _ => exact ⟨v0, rfl⟩
  refine ⟨_, (pss_one (ps_ost (pv 0) (pv 1))), ?_⟩
  exact ⟨v0, rfl, .ref a, rfl, a, AD "NotKnown", rfl, T.o_NotKnown, T.n_NotKnown_at, .inl ⟨ha, fun dx h1 h2 => k dx h1 h2⟩⟩
theorem ok_TooMany___init__ (T : Txt K mg AD FD TK) : FnOk P w K mg base CX0 1 (AD "TooMany.__init__") (FD "TooMany.__init__") ["self", "most"] (spIni (AD "TooMany") ["most"]) := by
  refine T.f_TooMany___init__.ok sc_TooMany___init__ (fun vs H Q E h => spIni_len h) (fun cdv A outer s H vs Q E hr h => ?_)
  obtain ⟨a, ws, rfl, hl, ha, k⟩ := h
  obtain ⟨v0, rfl⟩ : ∃ v0, ws = [v0] := by
    match ws, hl with
    | [v0], _ => exact ⟨v0, rfl⟩
  refine ⟨_, (pss_one (ps_ost (pv 0) (pv 1))), ?_⟩
  exact ⟨v0, rfl, .ref a, rfl, a, AD "TooMany", rfl, T.o_TooMany, T.n_TooMany_most, .inl ⟨ha, fun dx h1 h2 => k dx h1 h2⟩⟩
theorem ok_Unfit___init__ (T : Txt K mg AD FD TK) : FnOk P w K mg base CX0 1 (AD "Unfit.__init__") (FD "Unfit.__init__") ["self", "name"] (spIni (AD "Unfit") ["name"]) := by
  refine T.f_Unfit___init__.ok sc_Unfit___init__ (fun vs H Q E h => spIni_len h) (fun cdv A outer s H vs Q E hr h => ?_)
  obtain ⟨a, ws, rfl, hl, ha, k⟩ := h
  obtain ⟨v0, rfl⟩ : ∃ v0, ws = [v0] := by
    match ws, hl with
    | [v0], _ => exact ⟨v0, rfl⟩
  refine ⟨_, (pss_one (ps_ost (pv 0) (pv 1))), ?_⟩
  exact ⟨v0, rfl, .ref a, rfl, a, AD "Unfit", rfl, T.o_Unfit, T.n_Unfit_name, .inl ⟨ha, fun dx h1 h2 => k dx h1 h2⟩⟩
theorem ok__law_bag (T : Txt K mg AD FD TK) : FnOk P w K mg base CX0 1 (AD "_law_bag") (FD "_law_bag") ["script"] (spM (md K AD) m__law_bag) := by
  refine T.f__law_bag.ok sc__law_bag (fun vs H Q E h => spM_len (calmF_len defM_len) h) (fun cdv A outer s H vs Q E hr h => ?_)
  refine ⟨_, (pss_one (ps_ret (pe_lst (pa_cons (pe_lc (own := [("cell", 1)]) rfl sc__law_bag.nd (pi_seq (pe_slice (r := rSlX K) sl_any (pv 0) po_none (po_some pe_int))) (blkOk_by (own := [("cell", 1)]) (N := ["script", "cell"]) (sc := defScope s__law_bag) (by decide +kernel)) (fun _ _ _ _ _ => (pg_name (i := 1) sc__law_bag.nd rfl (by first | exact Or.inl rfl | exact Or.inr rfl))) (fun _ _ _ _ _ => pts_nil) (fun _ _ _ _ _ => (pe_callTy call_int1A (by rfl) T.b_int (by decide +kernel) (pa_cons (pv 1) pa_nil)))) (pa_cons pe_int (pa_cons pe_int (pa_cons pe_int (pa_cons pe_int pa_nil)))))))), ?_⟩
  exact def_ok0 (N := ["script", "cell"]) rfl ((rs_ret (re_lmu (ra_cons (re_lc (ri_seq (re_sl re_var ro_none (ro_part re_int))) (rn_name (by decide)) rt_yes (re_cb (ra_cons re_var ra_nil) k_int) (fun _ _ _ _ _ z => z)) (ra_cons re_int (ra_cons re_int (ra_cons re_int (ra_cons re_int ra_nil)))))))) h
theorem ok__law_classes (T : Txt K mg AD FD TK) : FnOk P w K mg base CX0 1 (AD "_law_classes") (FD "_law_classes") ["e"] (spM (md K AD) m__law_classes) := by
  refine T.f__law_classes.ok sc__law_classes (fun vs H Q E h => spM_len (calmF_len defM_len) h) (fun cdv A outer s H vs Q E hr h => ?_)
  refine ⟨_, (pss_one (ps_ret (pe_lst (pa_cons (pe_callB (r := rIsV K) call_isV (by rfl) T.b_isinstance (by decide +kernel) (pa_cons (pv 0) (pa_cons (pe_glob (v := .ref (AD "BadWidths")) rfl T.g_BadWidths rfl) pa_nil))) (pa_cons (pe_callB (r := rIsV K) call_isV (by rfl) T.b_isinstance (by decide +kernel) (pa_cons (pv 0) (pa_cons (pe_glob (v := .ref (AD "BadRow")) rfl T.g_BadRow rfl) pa_nil))) (pa_cons (pe_callB (r := rIsV K) call_isV (by rfl) T.b_isinstance (by decide +kernel) (pa_cons (pv 0) (pa_cons (pe_glob (v := .ref (AD "BadBox")) rfl T.g_BadBox rfl) pa_nil))) (pa_cons (pe_callB (r := rIsV K) call_isV (by rfl) T.b_isinstance (by decide +kernel) (pa_cons (pv 0) (pa_cons (pe_glob (v := .ref (AD "UnlikeBoxes")) rfl T.g_UnlikeBoxes rfl) pa_nil))) (pa_cons (pe_callB (r := rIsV K) call_isV (by rfl) T.b_isinstance (by decide +kernel) (pa_cons (pv 0) (pa_cons (pe_glob (v := .ref (AD "BadColumn")) rfl T.g_BadColumn rfl) pa_nil))) (pa_cons (pe_callB (r := rIsV K) call_isV (by rfl) T.b_isinstance (by decide +kernel) (pa_cons (pv 0) (pa_cons (pe_glob (v := .ref (AD "BadData")) rfl T.g_BadData rfl) pa_nil))) (pa_cons (pe_callB (r := rIsV K) call_isV (by rfl) T.b_isinstance (by decide +kernel) (pa_cons (pv 0) (pa_cons (pe_glob (v := .ref (AD "BadText")) rfl T.g_BadText rfl) pa_nil))) (pa_cons (pe_callB (r := rIsV K) call_isV (by rfl) T.b_isinstance (by decide +kernel) (pa_cons (pv 0) (pa_cons (pe_glob (v := .ref (AD "BadPage")) rfl T.g_BadPage rfl) pa_nil))) (pa_cons (pe_callB (r := rIsV K) call_isV (by rfl) T.b_isinstance (by decide +kernel) (pa_cons (pv 0) (pa_cons (pe_glob (v := .ref (AD "BadIndex")) rfl T.g_BadIndex rfl) pa_nil))) (pa_cons (pe_callB (r := rIsV K) call_isV (by rfl) T.b_isinstance (by decide +kernel) (pa_cons (pv 0) (pa_cons (pe_glob (v := .ref (AD "BadLayer")) rfl T.g_BadLayer rfl) pa_nil))) (pa_cons (pe_callB (r := rIsV K) call_isV (by rfl) T.b_isinstance (by decide +kernel) (pa_cons (pv 0) (pa_cons (pe_glob (v := .ref (AD "NoIndex")) rfl T.g_NoIndex rfl) pa_nil))) (pa_cons (pe_callB (r := rIsV K) call_isV (by rfl) T.b_isinstance (by decide +kernel) (pa_cons (pv 0) (pa_cons (pe_glob (v := .ref (AD "BadTable")) rfl T.g_BadTable rfl) pa_nil))) (pa_cons (pe_callB (r := rIsV K) call_isV (by rfl) T.b_isinstance (by decide +kernel) (pa_cons (pv 0) (pa_cons (pe_glob (v := .ref (AD "NoLayer")) rfl T.g_NoLayer rfl) pa_nil))) (pa_cons (pe_callB (r := rIsV K) call_isV (by rfl) T.b_isinstance (by decide +kernel) (pa_cons (pv 0) (pa_cons (pe_glob (v := .ref (AD "BadStore")) rfl T.g_BadStore rfl) pa_nil))) (pa_cons (pe_callB (r := rIsV K) call_isV (by rfl) T.b_isinstance (by decide +kernel) (pa_cons (pv 0) (pa_cons (pe_glob (v := .ref (AD "NoTable")) rfl T.g_NoTable rfl) pa_nil))) (pa_cons (pe_callB (r := rIsV K) call_isV (by rfl) T.b_isinstance (by decide +kernel) (pa_cons (pv 0) (pa_cons (pe_glob (v := .ref (AD "BadChange")) rfl T.g_BadChange rfl) pa_nil))) (pa_cons (pe_callB (r := rIsV K) call_isV (by rfl) T.b_isinstance (by decide +kernel) (pa_cons (pv 0) (pa_cons (pe_glob (v := .ref (AD "BadKinds")) rfl T.g_BadKinds rfl) pa_nil))) (pa_cons (pe_callB (r := rIsV K) call_isV (by rfl) T.b_isinstance (by decide +kernel) (pa_cons (pv 0) (pa_cons (pe_glob (v := .ref (AD "LayersFull")) rfl T.g_LayersFull rfl) pa_nil))) (pa_cons (pe_callB (r := rIsV K) call_isV (by rfl) T.b_isinstance (by decide +kernel) (pa_cons (pv 0) (pa_cons (pe_glob (v := .ref (AD "BadNumber")) rfl T.g_BadNumber rfl) pa_nil))) (pa_cons (pe_callB (r := rIsV K) call_isV (by rfl) T.b_isinstance (by decide +kernel) (pa_cons (pv 0) (pa_cons (pe_glob (v := .ref (AD "NotBefore")) rfl T.g_NotBefore rfl) pa_nil))) (pa_cons (pe_callB (r := rIsV K) call_isV (by rfl) T.b_isinstance (by decide +kernel) (pa_cons (pv 0) (pa_cons (pe_glob (v := .ref (AD "BadQuestion")) rfl T.g_BadQuestion rfl) pa_nil))) (pa_cons (pe_callB (r := rIsV K) call_isV (by rfl) T.b_isinstance (by decide +kernel) (pa_cons (pv 0) (pa_cons (pe_glob (v := .ref (AD "Again")) rfl T.g_Again rfl) pa_nil))) (pa_cons (pe_callB (r := rIsV K) call_isV (by rfl) T.b_isinstance (by decide +kernel) (pa_cons (pv 0) (pa_cons (pe_glob (v := .ref (AD "Foreign")) rfl T.g_Foreign rfl) pa_nil))) (pa_cons (pe_callB (r := rIsV K) call_isV (by rfl) T.b_isinstance (by decide +kernel) (pa_cons (pv 0) (pa_cons (pe_glob (v := .ref (AD "NoPage")) rfl T.g_NoPage rfl) pa_nil))) (pa_cons (pe_callB (r := rIsV K) call_isV (by rfl) T.b_isinstance (by decide +kernel) (pa_cons (pv 0) (pa_cons (pe_glob (v := .ref (AD "NoFactor")) rfl T.g_NoFactor rfl) pa_nil))) (pa_cons (pe_callB (r := rIsV K) call_isV (by rfl) T.b_isinstance (by decide +kernel) (pa_cons (pv 0) (pa_cons (pe_glob (v := .ref (AD "NotUniform")) rfl T.g_NotUniform rfl) pa_nil))) (pa_cons (pe_callB (r := rIsV K) call_isV (by rfl) T.b_isinstance (by decide +kernel) (pa_cons (pv 0) (pa_cons (pe_glob (v := .ref (AD "NotDecided")) rfl T.g_NotDecided rfl) pa_nil))) (pa_cons (pe_callB (r := rIsV K) call_isV (by rfl) T.b_isinstance (by decide +kernel) (pa_cons (pv 0) (pa_cons (pe_glob (v := .ref (AD "Undetermined")) rfl T.g_Undetermined rfl) pa_nil))) (pa_cons (pe_callB (r := rIsV K) call_isV (by rfl) T.b_isinstance (by decide +kernel) (pa_cons (pv 0) (pa_cons (pe_glob (v := .ref (AD "BadPaper")) rfl T.g_BadPaper rfl) pa_nil))) (pa_cons (pe_callB (r := rIsV K) call_isV (by rfl) T.b_isinstance (by decide +kernel) (pa_cons (pv 0) (pa_cons (pe_glob (v := .ref (AD "NotDone")) rfl T.g_NotDone rfl) pa_nil))) (pa_cons (pe_callB (r := rIsV K) call_isV (by rfl) T.b_isinstance (by decide +kernel) (pa_cons (pv 0) (pa_cons (pe_glob (v := .ref (AD "Unasked")) rfl T.g_Unasked rfl) pa_nil))) (pa_cons (pe_callB (r := rIsV K) call_isV (by rfl) T.b_isinstance (by decide +kernel) (pa_cons (pv 0) (pa_cons (pe_glob (v := .ref (AD "TooMany")) rfl T.g_TooMany rfl) pa_nil))) (pa_cons (pe_callB (r := rIsV K) call_isV (by rfl) T.b_isinstance (by decide +kernel) (pa_cons (pv 0) (pa_cons (pe_glob (v := .ref (AD "NotEnough")) rfl T.g_NotEnough rfl) pa_nil))) (pa_cons (pe_callB (r := rIsV K) call_isV (by rfl) T.b_isinstance (by decide +kernel) (pa_cons (pv 0) (pa_cons (pe_glob (v := .ref (AD "KnownRow")) rfl T.g_KnownRow rfl) pa_nil))) (pa_cons (pe_callB (r := rIsV K) call_isV (by rfl) T.b_isinstance (by decide +kernel) (pa_cons (pv 0) (pa_cons (pe_glob (v := .ref (AD "BadFoe")) rfl T.g_BadFoe rfl) pa_nil))) (pa_cons (pe_callB (r := rIsV K) call_isV (by rfl) T.b_isinstance (by decide +kernel) (pa_cons (pv 0) (pa_cons (pe_glob (v := .ref (AD "BadPolicy")) rfl T.g_BadPolicy rfl) pa_nil))) (pa_cons (pe_callB (r := rIsV K) call_isV (by rfl) T.b_isinstance (by decide +kernel) (pa_cons (pv 0) (pa_cons (pe_glob (v := .ref (AD "BadDead")) rfl T.g_BadDead rfl) pa_nil))) (pa_cons (pe_callB (r := rIsV K) call_isV (by rfl) T.b_isinstance (by decide +kernel) (pa_cons (pv 0) (pa_cons (pe_glob (v := .ref (AD "NoSpread")) rfl T.g_NoSpread rfl) pa_nil))) (pa_cons (pe_callB (r := rIsV K) call_isV (by rfl) T.b_isinstance (by decide +kernel) (pa_cons (pv 0) (pa_cons (pe_glob (v := .ref (AD "NotInDoubt")) rfl T.g_NotInDoubt rfl) pa_nil))) (pa_cons (pe_callB (r := rIsV K) call_isV (by rfl) T.b_isinstance (by decide +kernel) (pa_cons (pv 0) (pa_cons (pe_glob (v := .ref (AD "BadDeed")) rfl T.g_BadDeed rfl) pa_nil))) (pa_cons (pe_callB (r := rIsV K) call_isV (by rfl) T.b_isinstance (by decide +kernel) (pa_cons (pv 0) (pa_cons (pe_glob (v := .ref (AD "NotNewest")) rfl T.g_NotNewest rfl) pa_nil))) (pa_cons (pe_callB (r := rIsV K) call_isV (by rfl) T.b_isinstance (by decide +kernel) (pa_cons (pv 0) (pa_cons (pe_glob (v := .ref (AD "NothingCut")) rfl T.g_NothingCut rfl) pa_nil))) (pa_cons (pe_callB (r := rIsV K) call_isV (by rfl) T.b_isinstance (by decide +kernel) (pa_cons (pv 0) (pa_cons (pe_glob (v := .ref (AD "Unfit")) rfl T.g_Unfit rfl) pa_nil))) (pa_cons (pe_callB (r := rIsV K) call_isV (by rfl) T.b_isinstance (by decide +kernel) (pa_cons (pv 0) (pa_cons (pe_glob (v := .ref (AD "NotKnown")) rfl T.g_NotKnown rfl) pa_nil))) (pa_cons (pe_callB (r := rIsV K) call_isV (by rfl) T.b_isinstance (by decide +kernel) (pa_cons (pv 0) (pa_cons (pe_glob (v := .ref (AD "BadStory")) rfl T.g_BadStory rfl) pa_nil))) pa_nil)))))))))))))))))))))))))))))))))))))))))))))))), ?_⟩
  exact def_ok0 (N := ["e"]) rfl ((rs_ret (re_lst (ra_cons (re_isv (cv := .ref (AD "BadWidths")) (cu := .ref (AD "BadWidths")) re_var (fun _ h => h) (isE_ok er_ok T.xv T.kk (by decide))) (ra_cons (re_isv (cv := .ref (AD "BadRow")) (cu := .ref (AD "BadRow")) re_var (fun _ h => h) (isE_ok er_ok T.xv T.kk (by decide))) (ra_cons (re_isv (cv := .ref (AD "BadBox")) (cu := .ref (AD "BadBox")) re_var (fun _ h => h) (isE_ok er_ok T.xv T.kk (by decide))) (ra_cons (re_isv (cv := .ref (AD "UnlikeBoxes")) (cu := .ref (AD "UnlikeBoxes")) re_var (fun _ h => h) (isE_ok er_ok T.xv T.kk (by decide))) (ra_cons (re_isv (cv := .ref (AD "BadColumn")) (cu := .ref (AD "BadColumn")) re_var (fun _ h => h) (isE_ok er_ok T.xv T.kk (by decide))) (ra_cons (re_isv (cv := .ref (AD "BadData")) (cu := .ref (AD "BadData")) re_var (fun _ h => h) (isE_ok er_ok T.xv T.kk (by decide))) (ra_cons (re_isv (cv := .ref (AD "BadText")) (cu := .ref (AD "BadText")) re_var (fun _ h => h) (isE_ok er_ok T.xv T.kk (by decide))) (ra_cons (re_isv (cv := .ref (AD "BadPage")) (cu := .ref (AD "BadPage")) re_var (fun _ h => h) (isE_ok er_ok T.xv T.kk (by decide))) (ra_cons (re_isv (cv := .ref (AD "BadIndex")) (cu := .ref (AD "BadIndex")) re_var (fun _ h => h) (isE_ok er_ok T.xv T.kk (by decide))) (ra_cons (re_isv (cv := .ref (AD "BadLayer")) (cu := .ref (AD "BadLayer")) re_var (fun _ h => h) (isE_ok er_ok T.xv T.kk (by decide))) (ra_cons (re_isv (cv := .ref (AD "NoIndex")) (cu := .ref (AD "NoIndex")) re_var (fun _ h => h) (isE_ok er_ok T.xv T.kk (by decide))) (ra_cons (re_isv (cv := .ref (AD "BadTable")) (cu := .ref (AD "BadTable")) re_var (fun _ h => h) (isE_ok er_ok T.xv T.kk (by decide))) (ra_cons (re_isv (cv := .ref (AD "NoLayer")) (cu := .ref (AD "NoLayer")) re_var (fun _ h => h) (isE_ok er_ok T.xv T.kk (by decide))) (ra_cons (re_isv (cv := .ref (AD "BadStore")) (cu := .ref (AD "BadStore")) re_var (fun _ h => h) (isE_ok er_ok T.xv T.kk (by decide))) (ra_cons (re_isv (cv := .ref (AD "NoTable")) (cu := .ref (AD "NoTable")) re_var (fun _ h => h) (isE_ok er_ok T.xv T.kk (by decide))) (ra_cons (re_isv (cv := .ref (AD "BadChange")) (cu := .ref (AD "BadChange")) re_var (fun _ h => h) (isE_ok er_ok T.xv T.kk (by decide))) (ra_cons (re_isv (cv := .ref (AD "BadKinds")) (cu := .ref (AD "BadKinds")) re_var (fun _ h => h) (isE_ok er_ok T.xv T.kk (by decide))) (ra_cons (re_isv (cv := .ref (AD "LayersFull")) (cu := .ref (AD "LayersFull")) re_var (fun _ h => h) (isE_ok er_ok T.xv T.kk (by decide))) (ra_cons (re_isv (cv := .ref (AD "BadNumber")) (cu := .ref (AD "BadNumber")) re_var (fun _ h => h) (isE_ok er_ok T.xv T.kk (by decide))) (ra_cons (re_isv (cv := .ref (AD "NotBefore")) (cu := .ref (AD "NotBefore")) re_var (fun _ h => h) (isE_ok er_ok T.xv T.kk (by decide))) (ra_cons (re_isv (cv := .ref (AD "BadQuestion")) (cu := .ref (AD "BadQuestion")) re_var (fun _ h => h) (isE_ok er_ok T.xv T.kk (by decide))) (ra_cons (re_isv (cv := .ref (AD "Again")) (cu := .ref (AD "Again")) re_var (fun _ h => h) (isE_ok er_ok T.xv T.kk (by decide))) (ra_cons (re_isv (cv := .ref (AD "Foreign")) (cu := .ref (AD "Foreign")) re_var (fun _ h => h) (isE_ok er_ok T.xv T.kk (by decide))) (ra_cons (re_isv (cv := .ref (AD "NoPage")) (cu := .ref (AD "NoPage")) re_var (fun _ h => h) (isE_ok er_ok T.xv T.kk (by decide))) (ra_cons (re_isv (cv := .ref (AD "NoFactor")) (cu := .ref (AD "NoFactor")) re_var (fun _ h => h) (isE_ok er_ok T.xv T.kk (by decide))) (ra_cons (re_isv (cv := .ref (AD "NotUniform")) (cu := .ref (AD "NotUniform")) re_var (fun _ h => h) (isE_ok er_ok T.xv T.kk (by decide))) (ra_cons (re_isv (cv := .ref (AD "NotDecided")) (cu := .ref (AD "NotDecided")) re_var (fun _ h => h) (isE_ok er_ok T.xv T.kk (by decide))) (ra_cons (re_isv (cv := .ref (AD "Undetermined")) (cu := .ref (AD "Undetermined")) re_var (fun _ h => h) (isE_ok er_ok T.xv T.kk (by decide))) (ra_cons (re_isv (cv := .ref (AD "BadPaper")) (cu := .ref (AD "BadPaper")) re_var (fun _ h => h) (isE_ok er_ok T.xv T.kk (by decide))) (ra_cons (re_isv (cv := .ref (AD "NotDone")) (cu := .ref (AD "NotDone")) re_var (fun _ h => h) (isE_ok er_ok T.xv T.kk (by decide))) (ra_cons (re_isv (cv := .ref (AD "Unasked")) (cu := .ref (AD "Unasked")) re_var (fun _ h => h) (isE_ok er_ok T.xv T.kk (by decide))) (ra_cons (re_isv (cv := .ref (AD "TooMany")) (cu := .ref (AD "TooMany")) re_var (fun _ h => h) (isE_ok er_ok T.xv T.kk (by decide))) (ra_cons (re_isv (cv := .ref (AD "NotEnough")) (cu := .ref (AD "NotEnough")) re_var (fun _ h => h) (isE_ok er_ok T.xv T.kk (by decide))) (ra_cons (re_isv (cv := .ref (AD "KnownRow")) (cu := .ref (AD "KnownRow")) re_var (fun _ h => h) (isE_ok er_ok T.xv T.kk (by decide))) (ra_cons (re_isv (cv := .ref (AD "BadFoe")) (cu := .ref (AD "BadFoe")) re_var (fun _ h => h) (isE_ok er_ok T.xv T.kk (by decide))) (ra_cons (re_isv (cv := .ref (AD "BadPolicy")) (cu := .ref (AD "BadPolicy")) re_var (fun _ h => h) (isE_ok er_ok T.xv T.kk (by decide))) (ra_cons (re_isv (cv := .ref (AD "BadDead")) (cu := .ref (AD "BadDead")) re_var (fun _ h => h) (isE_ok er_ok T.xv T.kk (by decide))) (ra_cons (re_isv (cv := .ref (AD "NoSpread")) (cu := .ref (AD "NoSpread")) re_var (fun _ h => h) (isE_ok er_ok T.xv T.kk (by decide))) (ra_cons (re_isv (cv := .ref (AD "NotInDoubt")) (cu := .ref (AD "NotInDoubt")) re_var (fun _ h => h) (isE_ok er_ok T.xv T.kk (by decide))) (ra_cons (re_isv (cv := .ref (AD "BadDeed")) (cu := .ref (AD "BadDeed")) re_var (fun _ h => h) (isE_ok er_ok T.xv T.kk (by decide))) (ra_cons (re_isv (cv := .ref (AD "NotNewest")) (cu := .ref (AD "NotNewest")) re_var (fun _ h => h) (isE_ok er_ok T.xv T.kk (by decide))) (ra_cons (re_isv (cv := .ref (AD "NothingCut")) (cu := .ref (AD "NothingCut")) re_var (fun _ h => h) (isE_ok er_ok T.xv T.kk (by decide))) (ra_cons (re_isv (cv := .ref (AD "Unfit")) (cu := .ref (AD "Unfit")) re_var (fun _ h => h) (isE_ok er_ok T.xv T.kk (by decide))) (ra_cons (re_isv (cv := .ref (AD "NotKnown")) (cu := .ref (AD "NotKnown")) re_var (fun _ h => h) (isE_ok er_ok T.xv T.kk (by decide))) (ra_cons (re_isv (cv := .ref (AD "BadStory")) (cu := .ref (AD "BadStory")) re_var (fun _ h => h) (isE_ok er_ok T.xv T.kk (by decide))) ra_nil)))))))))))))))))))))))))))))))))))))))))))))))) h
theorem ok__law_draw (T : Txt K mg AD FD TK) : FnOk P w K mg base CX0 1 (AD "_law_draw") (FD "_law_draw") ["bag", "limit"] (spM (md K AD) m__law_draw) := by
  refine T.f__law_draw.ok sc__law_draw (fun vs H Q E h => spM_len (calmF_len defM_len) h) (fun cdv A outer s H vs Q E hr h => ?_)
  refine ⟨_, (pss_cons (ps_asg (pe_op (r := rAddA K) op_addA (pe_ix (r := rIx K) ix_seq (pv 0) pe_int (fun _ _ => rfl)) pe_int) (pg_sub (pv 0) pe_int set_list))
  (pss_cons (ps_if (pt_cmpR op_gt (pe_ix (r := rIx K) ix_seq (pv 0) pe_int (fun _ _ => rfl)) pe_int (nomark _)) (pss_cons (ps_set (i := 2) sc__law_draw.nd rfl (by first | exact Or.inl rfl | exact Or.inr rfl) (pe_op op_mod (pe_callTy call_int1A (by rfl) T.b_int (by decide +kernel) (pa_cons (pe_ix (r := rIx K) ix_seq (pv 0) pe_int (fun _ _ => rfl)) pa_nil)) (pv 1)))
  (pss_cons (ps_asg (pe_op op_fdivW (pe_ix (r := rIx K) ix_seq (pv 0) pe_int (fun _ _ => rfl)) (pv 1)) (pg_sub (pv 0) pe_int set_list))
  (pss_one (ps_ret (pv 2))))) pss_nil)
  (pss_cons (ps_set (i := 3) sc__law_draw.nd rfl (by first | exact Or.inl rfl | exact Or.inr rfl) (pe_ix (r := rIx K) ix_seq (pv 0) pe_int (fun _ _ => rfl)))
  (pss_cons (ps_if (pt_cmpR op_lt (pe_ix (r := rIx K) ix_seq (pv 0) pe_int (fun _ _ => rfl)) (pe_callB (r := rLenA K) call_lenA (by rfl) T.b_len (by decide +kernel) (pa_cons (pe_ix (r := rIx K) ix_seq (pv 0) pe_int (fun _ _ => rfl)) pa_nil)) (nomark _)) (pss_cons (ps_set (i := 3) sc__law_draw.nd rfl (by first | exact Or.inl rfl | exact Or.inr rfl) (pe_ix (r := rIx K) ix_seq (pe_ix (r := rIx K) ix_seq (pv 0) pe_int (fun _ _ => rfl)) (pe_ix (r := rIx K) ix_seq (pv 0) pe_int (fun _ _ => rfl)) (fun _ _ => rfl)))
  (pss_cons (ps_asg (pe_op (r := rAddA K) op_addA (pe_ix (r := rIx K) ix_seq (pv 0) pe_int (fun _ _ => rfl)) pe_int) (pg_sub (pv 0) pe_int set_list))
  (pss_one (ps_if (pt_cmpR op_ge (pe_callB call_abs (by rfl) T.b_abs (by decide +kernel) (pa_cons (pv 3) pa_nil)) (pe_op op_pow pe_int pe_int) (nomark _)) (pss_cons (ps_asg (pe_op op_fdivW (pe_callB call_abs (by rfl) T.b_abs (by decide +kernel) (pa_cons (pv 3) pa_nil)) (pv 1)) (pg_sub (pv 0) pe_int set_list))
  (pss_one (ps_ret (pe_op op_mod (pe_callTy call_int1A (by rfl) T.b_int (by decide +kernel) (pa_cons (pe_callB call_abs (by rfl) T.b_abs (by decide +kernel) (pa_cons (pv 3) pa_nil)) pa_nil)) (pv 1))))) pss_nil)))) pss_nil)
  (pss_cons (ps_set (i := 4) sc__law_draw.nd rfl (by first | exact Or.inl rfl | exact Or.inr rfl) (pe_op op_mod (pe_callTy call_int1A (by rfl) T.b_int (by decide +kernel) (pa_cons (pe_op (r := rAddA K) op_addA (pe_op (r := rAddA K) op_addA (pe_op (r := rAddA K) op_addA (pe_op op_mul (pe_ix (r := rIx K) ix_seq (pv 0) pe_int (fun _ _ => rfl)) pe_int) (pe_op op_mul (pe_op op_mod (pe_callTy call_int1A (by rfl) T.b_int (by decide +kernel) (pa_cons (pv 3) pa_nil)) pe_int) pe_int)) (pe_op op_mul (pe_ix (r := rIx K) ix_seq (pv 0) pe_int (fun _ _ => rfl)) pe_int)) pe_int) pa_nil)) pe_int))
  (pss_cons (ps_asg (pv 4) (pg_sub (pv 0) pe_int set_list))
  (pss_cons (ps_set (i := 5) sc__law_draw.nd rfl (by first | exact Or.inl rfl | exact Or.inr rfl) (pe_op op_mod (pe_callTy call_int1A (by rfl) T.b_int (by decide +kernel) (pa_cons (pe_op (r := rAddA K) op_addA (pe_op (r := rAddA K) op_addA (pe_op op_mul (pv 4) pe_int) (pe_op op_mul (pe_op op_mul (pe_ix (r := rIx K) ix_seq (pv 0) pe_int (fun _ _ => rfl)) (pe_ix (r := rIx K) ix_seq (pv 0) pe_int (fun _ _ => rfl))) pe_int)) (pe_op op_fdivW (pv 4) pe_int)) pa_nil)) pe_int))
  (pss_one (ps_ret (pe_op op_mod (pe_callTy call_int1A (by rfl) T.b_int (by decide +kernel) (pa_cons (pe_op op_fdivW (pv 5) pe_int) pa_nil)) (pv 1))))))))))), ?_⟩
  exact def_ok0 (N := ["bag", "limit", "digit", "cell", "mixed", "twice"]) rfl ((rs_seq (rs_asg (re_op (re_op re_var re_int k_ix) re_int k_add) (rg_sub re_var re_int))
  (rs_seq (rs_if (rt_test (re_op (re_op re_var re_int k_ix) re_int k_gt)) (rs_seq (rs_set (re_op (re_cb (ra_cons (re_op re_var re_int k_ix) ra_nil) k_int) re_var k_mod))
  (rs_seq (rs_asg (re_op (re_op re_var re_int k_ix) re_var k_div) (rg_sub re_var re_int))
  (rs_ret re_var))) rs_next)
  (rs_seq (rs_set (re_op re_var re_int k_ix))
  (rs_seq (rs_if (rt_test (re_op (re_op re_var re_int k_ix) (re_cb (ra_cons (re_op re_var re_int k_ix) ra_nil) k_len) k_lt)) (rs_seq (rs_set (re_op (re_op re_var re_int k_ix) (re_op re_var re_int k_ix) k_ix))
  (rs_seq (rs_asg (re_op (re_op re_var re_int k_ix) re_int k_add) (rg_sub re_var re_int))
  (rs_if (rt_test (re_op (re_cb (ra_cons re_var ra_nil) k_abs) (re_op re_int re_int k_pow) k_ge)) (rs_seq (rs_asg (re_op (re_cb (ra_cons re_var ra_nil) k_abs) re_var k_div) (rg_sub re_var re_int))
  (rs_ret (re_op (re_cb (ra_cons (re_cb (ra_cons re_var ra_nil) k_abs) ra_nil) k_int) re_var k_mod))) rs_next))) rs_next)
  (rs_seq (rs_set (re_op (re_cb (ra_cons (re_op (re_op (re_op (re_op (re_op re_var re_int k_ix) re_int k_mul) (re_op (re_op (re_cb (ra_cons re_var ra_nil) k_int) re_int k_mod) re_int k_mul) k_add) (re_op (re_op re_var re_int k_ix) re_int k_mul) k_add) re_int k_add) ra_nil) k_int) re_int k_mod))
  (rs_seq (rs_asg re_var (rg_sub re_var re_int))
  (rs_seq (rs_set (re_op (re_cb (ra_cons (re_op (re_op (re_op re_var re_int k_mul) (re_op (re_op (re_op re_var re_int k_ix) (re_op re_var re_int k_ix) k_mul) re_int k_mul) k_add) (re_op re_var re_int k_div) k_add) ra_nil) k_int) re_int k_mod))
  (rs_ret (re_op (re_cb (ra_cons (re_op re_var re_int k_div) ra_nil) k_int) re_var k_mod)))))))))) h
theorem ok_law (T : Txt K mg AD FD TK) : FnOk P w K mg base CX0 3 (AD "law") (FD "law") ["script"] (spM (md K AD) m_law) := by
  have G_BadBox___init__ : FnOk P w K mg base CX0 _ _ _ _ _ := ok_BadBox___init__ T
  have G_BadChange___init__ : FnOk P w K mg base CX0 _ _ _ _ _ := ok_BadChange___init__ T
  have G_BadColumn___init__ : FnOk P w K mg base CX0 _ _ _ _ _ := ok_BadColumn___init__ T
  have G_BadDead___init__ : FnOk P w K mg base CX0 _ _ _ _ _ := ok_BadDead___init__ T
  have G_BadFoe___init__ : FnOk P w K mg base CX0 _ _ _ _ _ := ok_BadFoe___init__ T
  have G_BadIndex___init__ : FnOk P w K mg base CX0 _ _ _ _ _ := ok_BadIndex___init__ T
  have G_BadLayer___init__ : FnOk P w K mg base CX0 _ _ _ _ _ := ok_BadLayer___init__ T
  have G_BadNumber___init__ : FnOk P w K mg base CX0 _ _ _ _ _ := ok_BadNumber___init__ T
  have G_BadPage___init__ : FnOk P w K mg base CX0 _ _ _ _ _ := ok_BadPage___init__ T
  have G_BadPaper___init__ : FnOk P w K mg base CX0 _ _ _ _ _ := ok_BadPaper___init__ T
  have G_BadQuestion___init__ : FnOk P w K mg base CX0 _ _ _ _ _ := ok_BadQuestion___init__ T
  have G_BadRow___init__ : FnOk P w K mg base CX0 _ _ _ _ _ := ok_BadRow___init__ T
  have G_BadStore___init__ : FnOk P w K mg base CX0 _ _ _ _ _ := ok_BadStore___init__ T
  have G_BadStory___init__ : FnOk P w K mg base CX0 _ _ _ _ _ := ok_BadStory___init__ T
  have G_BadTable___init__ : FnOk P w K mg base CX0 _ _ _ _ _ := ok_BadTable___init__ T
  have G_BadText___init__ : FnOk P w K mg base CX0 _ _ _ _ _ := ok_BadText___init__ T
  have G_KnownRow___init__ : FnOk P w K mg base CX0 _ _ _ _ _ := ok_KnownRow___init__ T
  have G_LayersFull___init__ : FnOk P w K mg base CX0 _ _ _ _ _ := ok_LayersFull___init__ T
  have G_NoFactor___init__ : FnOk P w K mg base CX0 _ _ _ _ _ := ok_NoFactor___init__ T
  have G_NoIndex___init__ : FnOk P w K mg base CX0 _ _ _ _ _ := ok_NoIndex___init__ T
  have G_NoLayer___init__ : FnOk P w K mg base CX0 _ _ _ _ _ := ok_NoLayer___init__ T
  have G_NoPage___init__ : FnOk P w K mg base CX0 _ _ _ _ _ := ok_NoPage___init__ T
  have G_NoSpread___init__ : FnOk P w K mg base CX0 _ _ _ _ _ := ok_NoSpread___init__ T
  have G_NoTable___init__ : FnOk P w K mg base CX0 _ _ _ _ _ := ok_NoTable___init__ T
  have G_NotInDoubt___init__ : FnOk P w K mg base CX0 _ _ _ _ _ := ok_NotInDoubt___init__ T
  have G_NotKnown___init__ : FnOk P w K mg base CX0 _ _ _ _ _ := ok_NotKnown___init__ T
  have G_TooMany___init__ : FnOk P w K mg base CX0 _ _ _ _ _ := ok_TooMany___init__ T
  have G_Unfit___init__ : FnOk P w K mg base CX0 _ _ _ _ _ := ok_Unfit___init__ T
  have G__law_bag : FnOk P w K mg base CX0 _ _ _ _ _ := ok__law_bag T
  have G__law_classes : FnOk P w K mg base CX0 _ _ _ _ _ := ok__law_classes T
  have G__law_draw : FnOk P w K mg base CX0 _ _ _ _ _ := ok__law_draw T
  refine T.f_law.ok sc_law (fun vs H Q E h => spM_len (calmF_len defM_len) h) (fun cdv A outer s H vs Q E hr h => ?_)
  refine ⟨_, (pss_cons (ps_set (i := 1) sc_law.nd rfl (by first | exact Or.inl rfl | exact Or.inr rfl) (pe_call (G__law_bag) (hr.mono (by decide)) rfl T.g__law_bag T.f__law_bag.kp T.bd__law_bag .nil pass0 (pa_cons (pv 0) pa_nil)))
  (pss_cons (ps_set (i := 2) sc_law.nd rfl (by first | exact Or.inl rfl | exact Or.inr rfl) (pe_joinA pe_str (pe_lc (own := [("k", 3)]) rfl sc_law.nd (pi_range1 (by rfl) T.b_range (pa_cons (pe_op (r := rAddA K) op_addA pe_int (pe_call (G__law_draw) (hr.mono (by decide)) rfl T.g__law_draw T.f__law_draw.kp T.bd__law_draw .nil pass0 (pa_cons (pv 1) (pa_cons pe_int pa_nil)))) pa_nil)) (blkOk_by (own := [("k", 3)]) (N := ["script", "bag", "word", "k", "name", "at", "row", "page", "errors", "e", "told", "j", "right"]) (sc := defScope s_law) (by decide +kernel)) (fun _ _ _ _ _ => (pg_name (i := 3) sc_law.nd rfl (by first | exact Or.inl rfl | exact Or.inr rfl))) (fun _ _ _ _ _ => pts_nil) (fun _ _ _ _ _ => (pe_ix (r := rIx K) ix_seq pe_str (pe_call (G__law_draw) (hr.mono (by decide)) rfl T.g__law_draw T.f__law_draw.kp T.bd__law_draw .nil pass0 (pa_cons (pv 1) (pa_cons pe_int pa_nil))) (fun _ _ => rfl))))))
  (pss_cons (ps_set (i := 4) sc_law.nd rfl (by first | exact Or.inl rfl | exact Or.inr rfl) (pe_op (r := rAddA K) op_addA (pv 2) pe_str))
  (pss_cons (ps_set (i := 5) sc_law.nd rfl (by first | exact Or.inl rfl | exact Or.inr rfl) (pe_op op_sub (pe_call (G__law_draw) (hr.mono (by decide)) rfl T.g__law_draw T.f__law_draw.kp T.bd__law_draw .nil pass0 (pa_cons (pv 1) (pa_cons (pe_op op_pow pe_int pe_int) pa_nil))) (pe_op op_pow pe_int pe_int)))
  (pss_cons (ps_set (i := 6) sc_law.nd rfl (by first | exact Or.inl rfl | exact Or.inr rfl) (pe_callTy (r := rTupO K) call_tupO (by rfl) T.b_tuple (by decide +kernel) (pa_cons (pe_lc (own := [("k", 3)]) rfl sc_law.nd (pi_range1 (by rfl) T.b_range (pa_cons (pe_call (G__law_draw) (hr.mono (by decide)) rfl T.g__law_draw T.f__law_draw.kp T.bd__law_draw .nil pass0 (pa_cons (pv 1) (pa_cons pe_int pa_nil))) pa_nil)) (blkOk_by (own := [("k", 3)]) (N := ["script", "bag", "word", "k", "name", "at", "row", "page", "errors", "e", "told", "j", "right"]) (sc := defScope s_law) (by decide +kernel)) (fun _ _ _ _ _ => (pg_name (i := 3) sc_law.nd rfl (by first | exact Or.inl rfl | exact Or.inr rfl))) (fun _ _ _ _ _ => pts_nil) (fun _ _ _ _ _ => (pe_call (G__law_draw) (hr.mono (by decide)) rfl T.g__law_draw T.f__law_draw.kp T.bd__law_draw .nil pass0 (pa_cons (pv 1) (pa_cons pe_int pa_nil))))) pa_nil)))
  (pss_cons (ps_set (i := 7) sc_law.nd rfl (by first | exact Or.inl rfl | exact Or.inr rfl) (pe_tup (pa_cons (pv 4) (pa_cons (pe_call (G__law_draw) (hr.mono (by decide)) rfl T.g__law_draw T.f__law_draw.kp T.bd__law_draw .nil pass0 (pa_cons (pv 1) (pa_cons pe_int pa_nil))) (pa_cons (pe_call (G__law_draw) (hr.mono (by decide)) rfl T.g__law_draw T.f__law_draw.kp T.bd__law_draw .nil pass0 (pa_cons (pv 1) (pa_cons pe_int pa_nil))) (pa_cons (pv 6) pa_nil))))))
  (pss_cons (ps_set (i := 8) sc_law.nd rfl (by first | exact Or.inl rfl | exact Or.inr rfl) (pe_lst (pa_cons (pe_oex0 PySem.F.excBase_ValueError T.x_BadWidths T.g_BadWidths T.k_BadWidths (by rfl)) (pa_cons (pe_oexv T.o_BadRow T.i_BadRow T.ti_BadRow (G_BadRow___init__) (hr.mono (by decide)) T.bd_BadRow___init__ pass0 rfl T.g_BadRow (pa_cons (pv 6) pa_nil)) (pa_cons (pe_oexv T.o_BadBox T.i_BadBox T.ti_BadBox (G_BadBox___init__) (hr.mono (by decide)) T.bd_BadBox___init__ pass0 rfl T.g_BadBox (pa_cons (pv 2) (pa_cons (pv 5) pa_nil))) (pa_cons (pe_oex0 PySem.F.excBase_ValueError T.x_UnlikeBoxes T.g_UnlikeBoxes T.k_UnlikeBoxes (by rfl)) (pa_cons (pe_oexv T.o_BadColumn T.i_BadColumn T.ti_BadColumn (G_BadColumn___init__) (hr.mono (by decide)) T.bd_BadColumn___init__ pass0 rfl T.g_BadColumn (pa_cons (pv 5) pa_nil)) (pa_cons (pe_oex0 PySem.F.excBase_ValueError T.x_BadData T.g_BadData T.k_BadData (by rfl)) (pa_cons (pe_oexv T.o_BadText T.i_BadText T.ti_BadText (G_BadText___init__) (hr.mono (by decide)) T.bd_BadText___init__ pass0 rfl T.g_BadText (pa_cons (pv 5) pa_nil)) (pa_cons (pe_oexv T.o_BadPage T.i_BadPage T.ti_BadPage (G_BadPage___init__) (hr.mono (by decide)) T.bd_BadPage___init__ pass0 rfl T.g_BadPage (pa_cons (pv 2) pa_nil)) (pa_cons (pe_oexv T.o_BadIndex T.i_BadIndex T.ti_BadIndex (G_BadIndex___init__) (hr.mono (by decide)) T.bd_BadIndex___init__ pass0 rfl T.g_BadIndex (pa_cons (pv 2) pa_nil)) (pa_cons (pe_oexv T.o_BadLayer T.i_BadLayer T.ti_BadLayer (G_BadLayer___init__) (hr.mono (by decide)) T.bd_BadLayer___init__ pass0 rfl T.g_BadLayer (pa_cons (pv 2) (pa_cons (pv 5) pa_nil))) (pa_cons (pe_oexv T.o_NoIndex T.i_NoIndex T.ti_NoIndex (G_NoIndex___init__) (hr.mono (by decide)) T.bd_NoIndex___init__ pass0 rfl T.g_NoIndex (pa_cons (pv 5) pa_nil)) (pa_cons (pe_oexv T.o_BadTable T.i_BadTable T.ti_BadTable (G_BadTable___init__) (hr.mono (by decide)) T.bd_BadTable___init__ pass0 rfl T.g_BadTable (pa_cons (pv 2) (pa_cons (pv 5) pa_nil))) (pa_cons (pe_oexv T.o_NoLayer T.i_NoLayer T.ti_NoLayer (G_NoLayer___init__) (hr.mono (by decide)) T.bd_NoLayer___init__ pass0 rfl T.g_NoLayer (pa_cons (pv 5) pa_nil)) (pa_cons (pe_oexv T.o_BadStore T.i_BadStore T.ti_BadStore (G_BadStore___init__) (hr.mono (by decide)) T.bd_BadStore___init__ pass0 rfl T.g_BadStore (pa_cons (pv 2) (pa_cons (pv 5) pa_nil))) (pa_cons (pe_oexv T.o_NoTable T.i_NoTable T.ti_NoTable (G_NoTable___init__) (hr.mono (by decide)) T.bd_NoTable___init__ pass0 rfl T.g_NoTable (pa_cons (pv 4) pa_nil)) (pa_cons (pe_oexv T.o_BadChange T.i_BadChange T.ti_BadChange (G_BadChange___init__) (hr.mono (by decide)) T.bd_BadChange___init__ pass0 rfl T.g_BadChange (pa_cons (pv 5) pa_nil)) (pa_cons (pe_oex0 PySem.F.excBase_ValueError T.x_BadKinds T.g_BadKinds T.k_BadKinds (by rfl)) (pa_cons (pe_oexv T.o_LayersFull T.i_LayersFull T.ti_LayersFull (G_LayersFull___init__) (hr.mono (by decide)) T.bd_LayersFull___init__ pass0 rfl T.g_LayersFull (pa_cons (pv 4) pa_nil)) (pa_cons (pe_oexv T.o_BadNumber T.i_BadNumber T.ti_BadNumber (G_BadNumber___init__) (hr.mono (by decide)) T.bd_BadNumber___init__ pass0 rfl T.g_BadNumber (pa_cons (pv 5) pa_nil)) (pa_cons (pe_oex0 PySem.F.excBase_ValueError T.x_NotBefore T.g_NotBefore T.k_NotBefore (by rfl)) (pa_cons (pe_oexv T.o_BadQuestion T.i_BadQuestion T.ti_BadQuestion (G_BadQuestion___init__) (hr.mono (by decide)) T.bd_BadQuestion___init__ pass0 rfl T.g_BadQuestion (pa_cons (pv 2) (pa_cons (pv 5) pa_nil))) (pa_cons (pe_oex0 PySem.F.excBase_ValueError T.x_Again T.g_Again T.k_Again (by rfl)) (pa_cons (pe_oex0 PySem.F.excBase_ValueError T.x_Foreign T.g_Foreign T.k_Foreign (by rfl)) (pa_cons (pe_oexv T.o_NoPage T.i_NoPage T.ti_NoPage (G_NoPage___init__) (hr.mono (by decide)) T.bd_NoPage___init__ pass0 rfl T.g_NoPage (pa_cons (pv 7) pa_nil)) (pa_cons (pe_oexv T.o_NoFactor T.i_NoFactor T.ti_NoFactor (G_NoFactor___init__) (hr.mono (by decide)) T.bd_NoFactor___init__ pass0 rfl T.g_NoFactor (pa_cons (pv 2) pa_nil)) (pa_cons (pe_oex0 PySem.F.excBase_ValueError T.x_NotUniform T.g_NotUniform T.k_NotUniform (by rfl)) (pa_cons (pe_oex0 PySem.F.excBase_ValueError T.x_NotDecided T.g_NotDecided T.k_NotDecided (by rfl)) (pa_cons (pe_oex0 PySem.F.excBase_ValueError T.x_Undetermined T.g_Undetermined T.k_Undetermined (by rfl)) (pa_cons (pe_oexv T.o_BadPaper T.i_BadPaper T.ti_BadPaper (G_BadPaper___init__) (hr.mono (by decide)) T.bd_BadPaper___init__ pass0 rfl T.g_BadPaper (pa_cons (pv 5) (pa_cons (pv 2) pa_nil))) (pa_cons (pe_oex0 PySem.F.excBase_ValueError T.x_NotDone T.g_NotDone T.k_NotDone (by rfl)) (pa_cons (pe_oex0 PySem.F.excBase_ValueError T.x_Unasked T.g_Unasked T.k_Unasked (by rfl)) (pa_cons (pe_oexv T.o_TooMany T.i_TooMany T.ti_TooMany (G_TooMany___init__) (hr.mono (by decide)) T.bd_TooMany___init__ pass0 rfl T.g_TooMany (pa_cons (pv 5) pa_nil)) (pa_cons (pe_oex0 PySem.F.excBase_ValueError T.x_NotEnough T.g_NotEnough T.k_NotEnough (by rfl)) (pa_cons (pe_oexv T.o_KnownRow T.i_KnownRow T.ti_KnownRow (G_KnownRow___init__) (hr.mono (by decide)) T.bd_KnownRow___init__ pass0 rfl T.g_KnownRow (pa_cons (pv 4) (pa_cons (pv 6) pa_nil))) (pa_cons (pe_oexv T.o_BadFoe T.i_BadFoe T.ti_BadFoe (G_BadFoe___init__) (hr.mono (by decide)) T.bd_BadFoe___init__ pass0 rfl T.g_BadFoe (pa_cons (pv 2) pa_nil)) (pa_cons (pe_oex0 PySem.F.excBase_ValueError T.x_BadPolicy T.g_BadPolicy T.k_BadPolicy (by rfl)) (pa_cons (pe_oexv T.o_BadDead T.i_BadDead T.ti_BadDead (G_BadDead___init__) (hr.mono (by decide)) T.bd_BadDead___init__ pass0 rfl T.g_BadDead (pa_cons (pv 5) pa_nil)) (pa_cons (pe_oexv T.o_NoSpread T.i_NoSpread T.ti_NoSpread (G_NoSpread___init__) (hr.mono (by decide)) T.bd_NoSpread___init__ pass0 rfl T.g_NoSpread (pa_cons (pv 2) pa_nil)) (pa_cons (pe_oexv T.o_NotInDoubt T.i_NotInDoubt T.ti_NotInDoubt (G_NotInDoubt___init__) (hr.mono (by decide)) T.bd_NotInDoubt___init__ pass0 rfl T.g_NotInDoubt (pa_cons (pv 6) pa_nil)) (pa_cons (pe_oex0 PySem.F.excBase_ValueError T.x_BadDeed T.g_BadDeed T.k_BadDeed (by rfl)) (pa_cons (pe_oex0 PySem.F.excBase_ValueError T.x_NotNewest T.g_NotNewest T.k_NotNewest (by rfl)) (pa_cons (pe_oex0 PySem.F.excBase_ValueError T.x_NothingCut T.g_NothingCut T.k_NothingCut (by rfl)) (pa_cons (pe_oexv T.o_Unfit T.i_Unfit T.ti_Unfit (G_Unfit___init__) (hr.mono (by decide)) T.bd_Unfit___init__ pass0 rfl T.g_Unfit (pa_cons (pv 4) pa_nil)) (pa_cons (pe_oexv T.o_NotKnown T.i_NotKnown T.ti_NotKnown (G_NotKnown___init__) (hr.mono (by decide)) T.bd_NotKnown___init__ pass0 rfl T.g_NotKnown (pa_cons (pv 5) pa_nil)) (pa_cons (pe_oexv T.o_BadStory T.i_BadStory T.ti_BadStory (G_BadStory___init__) (hr.mono (by decide)) T.bd_BadStory___init__ pass0 rfl T.g_BadStory (pa_cons (pv 5) pa_nil)) pa_nil)))))))))))))))))))))))))))))))))))))))))))))))
  (pss_cons (ps_for PassesOwn.never rfl (pi_range1 (by rfl) T.b_range (pa_cons (pe_callB (r := rLenA K) call_lenA (by rfl) T.b_len (by decide +kernel) (pa_cons (pv 8) pa_nil)) pa_nil)) (pg_name (i := 3) sc_law.nd rfl (by first | exact Or.inl rfl | exact Or.inr rfl)) (pss_cons (ps_set (i := 9) sc_law.nd rfl (by first | exact Or.inl rfl | exact Or.inr rfl) (pe_ix (r := rIx K) ix_seq (pv 8) (pv 3) (fun _ _ => rfl)))
  (pss_cons (ps_if (PW.pt (pw_or (pt_not (pt_val (pe_callB (r := rIsV K) call_isV (by rfl) T.b_isinstance (by decide +kernel) (pa_cons (pv 9) (pa_cons (pe_glob (v := .ref (AD "FetchError")) rfl T.g_FetchError rfl) pa_nil))))) (pw_or1 (pt_not (pt_val (pe_callB (r := rIsV K) call_isV (by rfl) T.b_isinstance (by decide +kernel) (pa_cons (pv 9) (pa_cons (pe_bltn (v := .ty "ValueError") (by rfl) T.b_ValueError (by decide +kernel) rfl) pa_nil)))))))) (pss_one (ps_ret pe_bl)) pss_nil)
  (pss_cons (ps_set (i := 10) sc_law.nd rfl (by first | exact Or.inl rfl | exact Or.inr rfl) (pe_call (G__law_classes) (hr.mono (by decide)) rfl T.g__law_classes T.f__law_classes.kp T.bd__law_classes .nil pass0 (pa_cons (pv 9) pa_nil)))
  (pss_one (ps_if (pt_cmpR (r := rNeA K) (op_neA (by exact hr.units)) (pe_lc (own := [("j", 11)]) rfl sc_law.nd (pi_range1 (by rfl) T.b_range (pa_cons (pe_callB (r := rLenA K) call_lenA (by rfl) T.b_len (by decide +kernel) (pa_cons (pv 8) pa_nil)) pa_nil)) (blkOk_by (own := [("j", 11)]) (N := ["script", "bag", "word", "k", "name", "at", "row", "page", "errors", "e", "told", "j", "right"]) (sc := defScope s_law) (by decide +kernel)) (fun _ _ _ _ _ => (pg_name (i := 11) sc_law.nd rfl (by first | exact Or.inl rfl | exact Or.inr rfl))) (fun _ _ _ _ _ => (pts_one (pt_val (pe_ix (r := rIx K) ix_seq (pv 10) (pv 11) (fun _ _ => rfl))))) (fun _ _ _ _ _ => (pv 11))) (pe_lst (pa_cons (pv 3) pa_nil)) (nomark _)) (pss_one (ps_ret pe_bl)) pss_nil))))))
  (pss_cons (ps_set (i := 12) sc_law.nd rfl (by first | exact Or.inl rfl | exact Or.inr rfl) (pe_lst (pa_cons (pe_cmpR (r := rEqA K) (op_eqA (by exact hr.units)) (pe_xv (pe_ix (r := rIx K) ix_seq (pv 8) pe_int (fun _ _ => rfl)) rfl) (pv 6) (nomark _)) (pa_cons (pe_cmpR (r := rEqA K) (op_eqA (by exact hr.units)) (pe_xv (pe_ix (r := rIx K) ix_seq (pv 8) pe_int (fun _ _ => rfl)) rfl) (pv 2) (nomark _)) (pa_cons (pe_cmpR (r := rEqA K) (op_eqA (by exact hr.units)) (pe_xv (pe_ix (r := rIx K) ix_seq (pv 8) pe_int (fun _ _ => rfl)) rfl) (pv 5) (nomark _)) (pa_cons (pe_cmpR (r := rEqA K) (op_eqA (by exact hr.units)) (pe_xv (pe_ix (r := rIx K) ix_seq (pv 8) pe_int (fun _ _ => rfl)) rfl) (pv 5) (nomark _)) (pa_cons (pe_cmpR (r := rEqA K) (op_eqA (by exact hr.units)) (pe_xv (pe_ix (r := rIx K) ix_seq (pv 8) pe_int (fun _ _ => rfl)) rfl) (pv 5) (nomark _)) (pa_cons (pe_cmpR (r := rEqA K) (op_eqA (by exact hr.units)) (pe_xv (pe_ix (r := rIx K) ix_seq (pv 8) pe_int (fun _ _ => rfl)) rfl) (pv 2) (nomark _)) (pa_cons (pe_cmpR (r := rEqA K) (op_eqA (by exact hr.units)) (pe_xv (pe_ix (r := rIx K) ix_seq (pv 8) pe_int (fun _ _ => rfl)) rfl) (pv 2) (nomark _)) (pa_cons (pe_cmpR (r := rEqA K) (op_eqA (by exact hr.units)) (pe_xv (pe_ix (r := rIx K) ix_seq (pv 8) pe_int (fun _ _ => rfl)) rfl) (pv 2) (nomark _)) (pa_cons (pe_cmpR (r := rEqA K) (op_eqA (by exact hr.units)) (pe_xv (pe_ix (r := rIx K) ix_seq (pv 8) pe_int (fun _ _ => rfl)) rfl) (pv 5) (nomark _)) (pa_cons (pe_cmpR (r := rEqA K) (op_eqA (by exact hr.units)) (pe_xv (pe_ix (r := rIx K) ix_seq (pv 8) pe_int (fun _ _ => rfl)) rfl) (pv 5) (nomark _)) (pa_cons (pe_cmpR (r := rEqA K) (op_eqA (by exact hr.units)) (pe_xv (pe_ix (r := rIx K) ix_seq (pv 8) pe_int (fun _ _ => rfl)) rfl) (pv 2) (nomark _)) (pa_cons (pe_cmpR (r := rEqA K) (op_eqA (by exact hr.units)) (pe_xv (pe_ix (r := rIx K) ix_seq (pv 8) pe_int (fun _ _ => rfl)) rfl) (pv 5) (nomark _)) (pa_cons (pe_cmpR (r := rEqA K) (op_eqA (by exact hr.units)) (pe_xv (pe_ix (r := rIx K) ix_seq (pv 8) pe_int (fun _ _ => rfl)) rfl) (pv 5) (nomark _)) (pa_cons (pe_cmpR (r := rEqA K) (op_eqA (by exact hr.units)) (pe_xv (pe_ix (r := rIx K) ix_seq (pv 8) pe_int (fun _ _ => rfl)) rfl) (pv 2) (nomark _)) (pa_cons (pe_cmpR (r := rEqA K) (op_eqA (by exact hr.units)) (pe_xv (pe_ix (r := rIx K) ix_seq (pv 8) pe_int (fun _ _ => rfl)) rfl) (pv 5) (nomark _)) (pa_cons (pe_cmpR (r := rEqA K) (op_eqA (by exact hr.units)) (pe_xv (pe_ix (r := rIx K) ix_seq (pv 8) pe_int (fun _ _ => rfl)) rfl) (pv 4) (nomark _)) (pa_cons (pe_cmpR (r := rEqA K) (op_eqA (by exact hr.units)) (pe_xv (pe_ix (r := rIx K) ix_seq (pv 8) pe_int (fun _ _ => rfl)) rfl) (pv 5) (nomark _)) (pa_cons (pe_cmpR (r := rEqA K) (op_eqA (by exact hr.units)) (pe_xv (pe_ix (r := rIx K) ix_seq (pv 8) pe_int (fun _ _ => rfl)) rfl) (pv 4) (nomark _)) (pa_cons (pe_cmpR (r := rEqA K) (op_eqA (by exact hr.units)) (pe_xv (pe_ix (r := rIx K) ix_seq (pv 8) pe_int (fun _ _ => rfl)) rfl) (pv 5) (nomark _)) (pa_cons (pe_cmpR (r := rEqA K) (op_eqA (by exact hr.units)) (pe_xv (pe_ix (r := rIx K) ix_seq (pv 8) pe_int (fun _ _ => rfl)) rfl) (pv 2) (nomark _)) (pa_cons (pe_cmpR (r := rEqA K) (op_eqA (by exact hr.units)) (pe_xv (pe_ix (r := rIx K) ix_seq (pv 8) pe_int (fun _ _ => rfl)) rfl) (pv 5) (nomark _)) (pa_cons (pe_cmpR (r := rEqA K) (op_eqA (by exact hr.units)) (pe_xv (pe_ix (r := rIx K) ix_seq (pv 8) pe_int (fun _ _ => rfl)) rfl) (pv 7) (nomark _)) (pa_cons (pe_cmpR (r := rEqA K) (op_eqA (by exact hr.units)) (pe_xv (pe_ix (r := rIx K) ix_seq (pv 8) pe_int (fun _ _ => rfl)) rfl) (pv 2) (nomark _)) (pa_cons (pe_cmpR (r := rEqA K) (op_eqA (by exact hr.units)) (pe_xv (pe_ix (r := rIx K) ix_seq (pv 8) pe_int (fun _ _ => rfl)) rfl) (pv 5) (nomark _)) (pa_cons (pe_cmpR (r := rEqA K) (op_eqA (by exact hr.units)) (pe_xv (pe_ix (r := rIx K) ix_seq (pv 8) pe_int (fun _ _ => rfl)) rfl) (pv 2) (nomark _)) (pa_cons (pe_cmpR (r := rEqA K) (op_eqA (by exact hr.units)) (pe_xv (pe_ix (r := rIx K) ix_seq (pv 8) pe_int (fun _ _ => rfl)) rfl) (pv 5) (nomark _)) (pa_cons (pe_cmpR (r := rEqA K) (op_eqA (by exact hr.units)) (pe_xv (pe_ix (r := rIx K) ix_seq (pv 8) pe_int (fun _ _ => rfl)) rfl) (pv 4) (nomark _)) (pa_cons (pe_cmpR (r := rEqA K) (op_eqA (by exact hr.units)) (pe_xv (pe_ix (r := rIx K) ix_seq (pv 8) pe_int (fun _ _ => rfl)) rfl) (pv 6) (nomark _)) (pa_cons (pe_cmpR (r := rEqA K) (op_eqA (by exact hr.units)) (pe_xv (pe_ix (r := rIx K) ix_seq (pv 8) pe_int (fun _ _ => rfl)) rfl) (pv 2) (nomark _)) (pa_cons (pe_cmpR (r := rEqA K) (op_eqA (by exact hr.units)) (pe_xv (pe_ix (r := rIx K) ix_seq (pv 8) pe_int (fun _ _ => rfl)) rfl) (pv 5) (nomark _)) (pa_cons (pe_cmpR (r := rEqA K) (op_eqA (by exact hr.units)) (pe_xv (pe_ix (r := rIx K) ix_seq (pv 8) pe_int (fun _ _ => rfl)) rfl) (pv 2) (nomark _)) (pa_cons (pe_cmpR (r := rEqA K) (op_eqA (by exact hr.units)) (pe_xv (pe_ix (r := rIx K) ix_seq (pv 8) pe_int (fun _ _ => rfl)) rfl) (pv 6) (nomark _)) (pa_cons (pe_cmpR (r := rEqA K) (op_eqA (by exact hr.units)) (pe_xv (pe_ix (r := rIx K) ix_seq (pv 8) pe_int (fun _ _ => rfl)) rfl) (pv 4) (nomark _)) (pa_cons (pe_cmpR (r := rEqA K) (op_eqA (by exact hr.units)) (pe_xv (pe_ix (r := rIx K) ix_seq (pv 8) pe_int (fun _ _ => rfl)) rfl) (pv 5) (nomark _)) (pa_cons (pe_cmpR (r := rEqA K) (op_eqA (by exact hr.units)) (pe_xv (pe_ix (r := rIx K) ix_seq (pv 8) pe_int (fun _ _ => rfl)) rfl) (pv 5) (nomark _)) pa_nil)))))))))))))))))))))))))))))))))))))
  (pss_one (ps_ret (pe_callB (r := rAll K) (cr_all rfl) (by rfl) T.b_all (by decide +kernel) (pa_cons (pv 12) pa_nil))))))))))))), ?_⟩
  exact def_ok0 (N := ["script", "bag", "word", "k", "name", "at", "row", "page", "errors", "e", "told", "j", "right"]) rfl ((rs_seq (rs_set (re_call0 (ra_cons re_var ra_nil) (fun _ => .nil)))
  (rs_seq (rs_set (re_join re_str (re_lc (ri_rng1 (ra_cons (re_op re_int (re_call0 (ra_cons re_var (ra_cons re_int ra_nil)) (fun _ => .nil)) k_add) ra_nil)) (rn_name (by decide)) rt_yes (re_op re_str (re_call0 (ra_cons re_var (ra_cons re_int ra_nil)) (fun _ => .nil)) k_ix) (fun _ _ _ _ _ z => z))))
  (rs_seq (rs_set (re_op re_var re_str k_add))
  (rs_seq (rs_set (re_op (re_call0 (ra_cons re_var (ra_cons (re_op re_int re_int k_pow) ra_nil)) (fun _ => .nil)) (re_op re_int re_int k_pow) k_sub))
  (rs_seq (rs_set (re_cb (ra_cons (re_lc (ri_rng1 (ra_cons (re_call0 (ra_cons re_var (ra_cons re_int ra_nil)) (fun _ => .nil)) ra_nil)) (rn_name (by decide)) rt_yes (re_call0 (ra_cons re_var (ra_cons re_int ra_nil)) (fun _ => .nil)) (fun _ _ _ _ _ z => z)) ra_nil) k_tuple))
  (rs_seq (rs_set (re_tup (ra_cons re_var (ra_cons (re_call0 (ra_cons re_var (ra_cons re_int ra_nil)) (fun _ => .nil)) (ra_cons (re_call0 (ra_cons re_var (ra_cons re_int ra_nil)) (fun _ => .nil)) (ra_cons re_var ra_nil))))))
  (rs_seq (rs_set (re_lst (ra_cons (re_newx0 rfl rfl) (ra_cons (re_newx (ra_cons re_var ra_nil) rfl rfl (by decide) (by decide)) (ra_cons (re_newx (ra_cons re_var (ra_cons re_var ra_nil)) rfl rfl (by decide) (by decide)) (ra_cons (re_newx0 rfl rfl) (ra_cons (re_newx (ra_cons re_var ra_nil) rfl rfl (by decide) (by decide)) (ra_cons (re_newx0 rfl rfl) (ra_cons (re_newx (ra_cons re_var ra_nil) rfl rfl (by decide) (by decide)) (ra_cons (re_newx (ra_cons re_var ra_nil) rfl rfl (by decide) (by decide)) (ra_cons (re_newx (ra_cons re_var ra_nil) rfl rfl (by decide) (by decide)) (ra_cons (re_newx (ra_cons re_var (ra_cons re_var ra_nil)) rfl rfl (by decide) (by decide)) (ra_cons (re_newx (ra_cons re_var ra_nil) rfl rfl (by decide) (by decide)) (ra_cons (re_newx (ra_cons re_var (ra_cons re_var ra_nil)) rfl rfl (by decide) (by decide)) (ra_cons (re_newx (ra_cons re_var ra_nil) rfl rfl (by decide) (by decide)) (ra_cons (re_newx (ra_cons re_var (ra_cons re_var ra_nil)) rfl rfl (by decide) (by decide)) (ra_cons (re_newx (ra_cons re_var ra_nil) rfl rfl (by decide) (by decide)) (ra_cons (re_newx (ra_cons re_var ra_nil) rfl rfl (by decide) (by decide)) (ra_cons (re_newx0 rfl rfl) (ra_cons (re_newx (ra_cons re_var ra_nil) rfl rfl (by decide) (by decide)) (ra_cons (re_newx (ra_cons re_var ra_nil) rfl rfl (by decide) (by decide)) (ra_cons (re_newx0 rfl rfl) (ra_cons (re_newx (ra_cons re_var (ra_cons re_var ra_nil)) rfl rfl (by decide) (by decide)) (ra_cons (re_newx0 rfl rfl) (ra_cons (re_newx0 rfl rfl) (ra_cons (re_newx (ra_cons re_var ra_nil) rfl rfl (by decide) (by decide)) (ra_cons (re_newx (ra_cons re_var ra_nil) rfl rfl (by decide) (by decide)) (ra_cons (re_newx0 rfl rfl) (ra_cons (re_newx0 rfl rfl) (ra_cons (re_newx0 rfl rfl) (ra_cons (re_newx (ra_cons re_var (ra_cons re_var ra_nil)) rfl rfl (by decide) (by decide)) (ra_cons (re_newx0 rfl rfl) (ra_cons (re_newx0 rfl rfl) (ra_cons (re_newx (ra_cons re_var ra_nil) rfl rfl (by decide) (by decide)) (ra_cons (re_newx0 rfl rfl) (ra_cons (re_newx (ra_cons re_var (ra_cons re_var ra_nil)) rfl rfl (by decide) (by decide)) (ra_cons (re_newx (ra_cons re_var ra_nil) rfl rfl (by decide) (by decide)) (ra_cons (re_newx0 rfl rfl) (ra_cons (re_newx (ra_cons re_var ra_nil) rfl rfl (by decide) (by decide)) (ra_cons (re_newx (ra_cons re_var ra_nil) rfl rfl (by decide) (by decide)) (ra_cons (re_newx (ra_cons re_var ra_nil) rfl rfl (by decide) (by decide)) (ra_cons (re_newx0 rfl rfl) (ra_cons (re_newx0 rfl rfl) (ra_cons (re_newx0 rfl rfl) (ra_cons (re_newx (ra_cons re_var ra_nil) rfl rfl (by decide) (by decide)) (ra_cons (re_newx (ra_cons re_var ra_nil) rfl rfl (by decide) (by decide)) (ra_cons (re_newx (ra_cons re_var ra_nil) rfl rfl (by decide) (by decide)) ra_nil)))))))))))))))))))))))))))))))))))))))))))))))
  (rs_seq (rs_for (ri_rng1 (ra_cons (re_cb (ra_cons re_var ra_nil) k_len) ra_nil)) rg_name (RS.scope (rs_seq (rs_set (re_op re_var re_var k_ix))
  (rs_seq (rs_if (rt_or (rt_not (rt_B (re_isv (cv := .ref (AD "FetchError")) (cu := .ref (AD "FetchError")) re_var (fun _ h => h) (isAll_ok er_ok T.xv T.kF)))) (rt_not (rt_B (re_isv (cv := .ty "ValueError") (cu := .type "ValueError") re_var (fun _ h => h) (isAll_ok er_ok T.xv T.kV))))) (rs_ret re_bl) rs_next)
  (rs_seq (rs_set (re_call0 (ra_cons re_var ra_nil) (fun _ => .nil)))
  (rs_if (rt_test (re_op (re_lc (ri_rng1 (ra_cons (re_cb (ra_cons re_var ra_nil) k_len) ra_nil)) (rn_name (by decide)) (rt_B (re_op re_var re_var k_ix)) re_var (fun _ _ _ _ _ z => z)) (re_lst (ra_cons re_var ra_nil)) k_neA)) (rs_ret re_bl) rs_next))))))
  (rs_seq (rs_set (re_lst (ra_cons (re_op (re_xv (re_op re_var re_int k_ix) (xlds_cons rfl (show (FL "BadRow").Nodup by decide) T.xf_BadRow T.n_BadRow_row (xlds_cons rfl (show (FL "KnownRow").Nodup by decide) T.xf_KnownRow T.n_KnownRow_row xlds_nil))) re_var k_eqA) (ra_cons (re_op (re_xv (re_op re_var re_int k_ix) (xlds_cons rfl (show (FL "BadBox").Nodup by decide) T.xf_BadBox T.n_BadBox_what (xlds_cons rfl (show (FL "BadPage").Nodup by decide) T.xf_BadPage T.n_BadPage_what (xlds_cons rfl (show (FL "BadIndex").Nodup by decide) T.xf_BadIndex T.n_BadIndex_what (xlds_cons rfl (show (FL "BadLayer").Nodup by decide) T.xf_BadLayer T.n_BadLayer_what (xlds_cons rfl (show (FL "BadTable").Nodup by decide) T.xf_BadTable T.n_BadTable_what (xlds_cons rfl (show (FL "BadStore").Nodup by decide) T.xf_BadStore T.n_BadStore_what (xlds_cons rfl (show (FL "BadQuestion").Nodup by decide) T.xf_BadQuestion T.n_BadQuestion_what (xlds_cons rfl (show (FL "NoFactor").Nodup by decide) T.xf_NoFactor T.n_NoFactor_what (xlds_cons rfl (show (FL "BadPaper").Nodup by decide) T.xf_BadPaper T.n_BadPaper_what (xlds_cons rfl (show (FL "BadFoe").Nodup by decide) T.xf_BadFoe T.n_BadFoe_what (xlds_cons rfl (show (FL "NoSpread").Nodup by decide) T.xf_NoSpread T.n_NoSpread_what xlds_nil)))))))))))) re_var k_eqA) (ra_cons (re_op (re_xv (re_op re_var re_int k_ix) (xlds_cons rfl (show (FL "BadBox").Nodup by decide) T.xf_BadBox T.n_BadBox_at (xlds_cons rfl (show (FL "BadLayer").Nodup by decide) T.xf_BadLayer T.n_BadLayer_at (xlds_cons rfl (show (FL "BadTable").Nodup by decide) T.xf_BadTable T.n_BadTable_at (xlds_cons rfl (show (FL "BadStore").Nodup by decide) T.xf_BadStore T.n_BadStore_at (xlds_cons rfl (show (FL "BadChange").Nodup by decide) T.xf_BadChange T.n_BadChange_at (xlds_cons rfl (show (FL "BadQuestion").Nodup by decide) T.xf_BadQuestion T.n_BadQuestion_at (xlds_cons rfl (show (FL "BadDead").Nodup by decide) T.xf_BadDead T.n_BadDead_at (xlds_cons rfl (show (FL "NotKnown").Nodup by decide) T.xf_NotKnown T.n_NotKnown_at xlds_nil))))))))) re_var k_eqA) (ra_cons (re_op (re_xv (re_op re_var re_int k_ix) (xlds_cons rfl (show (FL "BadColumn").Nodup by decide) T.xf_BadColumn T.n_BadColumn_column xlds_nil)) re_var k_eqA) (ra_cons (re_op (re_xv (re_op re_var re_int k_ix) (xlds_cons rfl (show (FL "BadText").Nodup by decide) T.xf_BadText T.n_BadText_place xlds_nil)) re_var k_eqA) (ra_cons (re_op (re_xv (re_op re_var re_int k_ix) (xlds_cons rfl (show (FL "BadBox").Nodup by decide) T.xf_BadBox T.n_BadBox_what (xlds_cons rfl (show (FL "BadPage").Nodup by decide) T.xf_BadPage T.n_BadPage_what (xlds_cons rfl (show (FL "BadIndex").Nodup by decide) T.xf_BadIndex T.n_BadIndex_what (xlds_cons rfl (show (FL "BadLayer").Nodup by decide) T.xf_BadLayer T.n_BadLayer_what (xlds_cons rfl (show (FL "BadTable").Nodup by decide) T.xf_BadTable T.n_BadTable_what (xlds_cons rfl (show (FL "BadStore").Nodup by decide) T.xf_BadStore T.n_BadStore_what (xlds_cons rfl (show (FL "BadQuestion").Nodup by decide) T.xf_BadQuestion T.n_BadQuestion_what (xlds_cons rfl (show (FL "NoFactor").Nodup by decide) T.xf_NoFactor T.n_NoFactor_what (xlds_cons rfl (show (FL "BadPaper").Nodup by decide) T.xf_BadPaper T.n_BadPaper_what (xlds_cons rfl (show (FL "BadFoe").Nodup by decide) T.xf_BadFoe T.n_BadFoe_what (xlds_cons rfl (show (FL "NoSpread").Nodup by decide) T.xf_NoSpread T.n_NoSpread_what xlds_nil)))))))))))) re_var k_eqA) (ra_cons (re_op (re_xv (re_op re_var re_int k_ix) (xlds_cons rfl (show (FL "BadBox").Nodup by decide) T.xf_BadBox T.n_BadBox_what (xlds_cons rfl (show (FL "BadPage").Nodup by decide) T.xf_BadPage T.n_BadPage_what (xlds_cons rfl (show (FL "BadIndex").Nodup by decide) T.xf_BadIndex T.n_BadIndex_what (xlds_cons rfl (show (FL "BadLayer").Nodup by decide) T.xf_BadLayer T.n_BadLayer_what (xlds_cons rfl (show (FL "BadTable").Nodup by decide) T.xf_BadTable T.n_BadTable_what (xlds_cons rfl (show (FL "BadStore").Nodup by decide) T.xf_BadStore T.n_BadStore_what (xlds_cons rfl (show (FL "BadQuestion").Nodup by decide) T.xf_BadQuestion T.n_BadQuestion_what (xlds_cons rfl (show (FL "NoFactor").Nodup by decide) T.xf_NoFactor T.n_NoFactor_what (xlds_cons rfl (show (FL "BadPaper").Nodup by decide) T.xf_BadPaper T.n_BadPaper_what (xlds_cons rfl (show (FL "BadFoe").Nodup by decide) T.xf_BadFoe T.n_BadFoe_what (xlds_cons rfl (show (FL "NoSpread").Nodup by decide) T.xf_NoSpread T.n_NoSpread_what xlds_nil)))))))))))) re_var k_eqA) (ra_cons (re_op (re_xv (re_op re_var re_int k_ix) (xlds_cons rfl (show (FL "BadBox").Nodup by decide) T.xf_BadBox T.n_BadBox_what (xlds_cons rfl (show (FL "BadPage").Nodup by decide) T.xf_BadPage T.n_BadPage_what (xlds_cons rfl (show (FL "BadIndex").Nodup by decide) T.xf_BadIndex T.n_BadIndex_what (xlds_cons rfl (show (FL "BadLayer").Nodup by decide) T.xf_BadLayer T.n_BadLayer_what (xlds_cons rfl (show (FL "BadTable").Nodup by decide) T.xf_BadTable T.n_BadTable_what (xlds_cons rfl (show (FL "BadStore").Nodup by decide) T.xf_BadStore T.n_BadStore_what (xlds_cons rfl (show (FL "BadQuestion").Nodup by decide) T.xf_BadQuestion T.n_BadQuestion_what (xlds_cons rfl (show (FL "NoFactor").Nodup by decide) T.xf_NoFactor T.n_NoFactor_what (xlds_cons rfl (show (FL "BadPaper").Nodup by decide) T.xf_BadPaper T.n_BadPaper_what (xlds_cons rfl (show (FL "BadFoe").Nodup by decide) T.xf_BadFoe T.n_BadFoe_what (xlds_cons rfl (show (FL "NoSpread").Nodup by decide) T.xf_NoSpread T.n_NoSpread_what xlds_nil)))))))))))) re_var k_eqA) (ra_cons (re_op (re_xv (re_op re_var re_int k_ix) (xlds_cons rfl (show (FL "BadBox").Nodup by decide) T.xf_BadBox T.n_BadBox_at (xlds_cons rfl (show (FL "BadLayer").Nodup by decide) T.xf_BadLayer T.n_BadLayer_at (xlds_cons rfl (show (FL "BadTable").Nodup by decide) T.xf_BadTable T.n_BadTable_at (xlds_cons rfl (show (FL "BadStore").Nodup by decide) T.xf_BadStore T.n_BadStore_at (xlds_cons rfl (show (FL "BadChange").Nodup by decide) T.xf_BadChange T.n_BadChange_at (xlds_cons rfl (show (FL "BadQuestion").Nodup by decide) T.xf_BadQuestion T.n_BadQuestion_at (xlds_cons rfl (show (FL "BadDead").Nodup by decide) T.xf_BadDead T.n_BadDead_at (xlds_cons rfl (show (FL "NotKnown").Nodup by decide) T.xf_NotKnown T.n_NotKnown_at xlds_nil))))))))) re_var k_eqA) (ra_cons (re_op (re_xv (re_op re_var re_int k_ix) (xlds_cons rfl (show (FL "NoIndex").Nodup by decide) T.xf_NoIndex T.n_NoIndex_index xlds_nil)) re_var k_eqA) (ra_cons (re_op (re_xv (re_op re_var re_int k_ix) (xlds_cons rfl (show (FL "BadBox").Nodup by decide) T.xf_BadBox T.n_BadBox_what (xlds_cons rfl (show (FL "BadPage").Nodup by decide) T.xf_BadPage T.n_BadPage_what (xlds_cons rfl (show (FL "BadIndex").Nodup by decide) T.xf_BadIndex T.n_BadIndex_what (xlds_cons rfl (show (FL "BadLayer").Nodup by decide) T.xf_BadLayer T.n_BadLayer_what (xlds_cons rfl (show (FL "BadTable").Nodup by decide) T.xf_BadTable T.n_BadTable_what (xlds_cons rfl (show (FL "BadStore").Nodup by decide) T.xf_BadStore T.n_BadStore_what (xlds_cons rfl (show (FL "BadQuestion").Nodup by decide) T.xf_BadQuestion T.n_BadQuestion_what (xlds_cons rfl (show (FL "NoFactor").Nodup by decide) T.xf_NoFactor T.n_NoFactor_what (xlds_cons rfl (show (FL "BadPaper").Nodup by decide) T.xf_BadPaper T.n_BadPaper_what (xlds_cons rfl (show (FL "BadFoe").Nodup by decide) T.xf_BadFoe T.n_BadFoe_what (xlds_cons rfl (show (FL "NoSpread").Nodup by decide) T.xf_NoSpread T.n_NoSpread_what xlds_nil)))))))))))) re_var k_eqA) (ra_cons (re_op (re_xv (re_op re_var re_int k_ix) (xlds_cons rfl (show (FL "BadBox").Nodup by decide) T.xf_BadBox T.n_BadBox_at (xlds_cons rfl (show (FL "BadLayer").Nodup by decide) T.xf_BadLayer T.n_BadLayer_at (xlds_cons rfl (show (FL "BadTable").Nodup by decide) T.xf_BadTable T.n_BadTable_at (xlds_cons rfl (show (FL "BadStore").Nodup by decide) T.xf_BadStore T.n_BadStore_at (xlds_cons rfl (show (FL "BadChange").Nodup by decide) T.xf_BadChange T.n_BadChange_at (xlds_cons rfl (show (FL "BadQuestion").Nodup by decide) T.xf_BadQuestion T.n_BadQuestion_at (xlds_cons rfl (show (FL "BadDead").Nodup by decide) T.xf_BadDead T.n_BadDead_at (xlds_cons rfl (show (FL "NotKnown").Nodup by decide) T.xf_NotKnown T.n_NotKnown_at xlds_nil))))))))) re_var k_eqA) (ra_cons (re_op (re_xv (re_op re_var re_int k_ix) (xlds_cons rfl (show (FL "NoLayer").Nodup by decide) T.xf_NoLayer T.n_NoLayer_layer xlds_nil)) re_var k_eqA) (ra_cons (re_op (re_xv (re_op re_var re_int k_ix) (xlds_cons rfl (show (FL "BadBox").Nodup by decide) T.xf_BadBox T.n_BadBox_what (xlds_cons rfl (show (FL "BadPage").Nodup by decide) T.xf_BadPage T.n_BadPage_what (xlds_cons rfl (show (FL "BadIndex").Nodup by decide) T.xf_BadIndex T.n_BadIndex_what (xlds_cons rfl (show (FL "BadLayer").Nodup by decide) T.xf_BadLayer T.n_BadLayer_what (xlds_cons rfl (show (FL "BadTable").Nodup by decide) T.xf_BadTable T.n_BadTable_what (xlds_cons rfl (show (FL "BadStore").Nodup by decide) T.xf_BadStore T.n_BadStore_what (xlds_cons rfl (show (FL "BadQuestion").Nodup by decide) T.xf_BadQuestion T.n_BadQuestion_what (xlds_cons rfl (show (FL "NoFactor").Nodup by decide) T.xf_NoFactor T.n_NoFactor_what (xlds_cons rfl (show (FL "BadPaper").Nodup by decide) T.xf_BadPaper T.n_BadPaper_what (xlds_cons rfl (show (FL "BadFoe").Nodup by decide) T.xf_BadFoe T.n_BadFoe_what (xlds_cons rfl (show (FL "NoSpread").Nodup by decide) T.xf_NoSpread T.n_NoSpread_what xlds_nil)))))))))))) re_var k_eqA) (ra_cons (re_op (re_xv (re_op re_var re_int k_ix) (xlds_cons rfl (show (FL "BadBox").Nodup by decide) T.xf_BadBox T.n_BadBox_at (xlds_cons rfl (show (FL "BadLayer").Nodup by decide) T.xf_BadLayer T.n_BadLayer_at (xlds_cons rfl (show (FL "BadTable").Nodup by decide) T.xf_BadTable T.n_BadTable_at (xlds_cons rfl (show (FL "BadStore").Nodup by decide) T.xf_BadStore T.n_BadStore_at (xlds_cons rfl (show (FL "BadChange").Nodup by decide) T.xf_BadChange T.n_BadChange_at (xlds_cons rfl (show (FL "BadQuestion").Nodup by decide) T.xf_BadQuestion T.n_BadQuestion_at (xlds_cons rfl (show (FL "BadDead").Nodup by decide) T.xf_BadDead T.n_BadDead_at (xlds_cons rfl (show (FL "NotKnown").Nodup by decide) T.xf_NotKnown T.n_NotKnown_at xlds_nil))))))))) re_var k_eqA) (ra_cons (re_op (re_xv (re_op re_var re_int k_ix) (xlds_cons rfl (show (FL "NoTable").Nodup by decide) T.xf_NoTable T.n_NoTable_name (xlds_cons rfl (show (FL "LayersFull").Nodup by decide) T.xf_LayersFull T.n_LayersFull_name (xlds_cons rfl (show (FL "NoPage").Nodup by decide) T.xf_NoPage T.n_NoPage_name (xlds_cons rfl (show (FL "KnownRow").Nodup by decide) T.xf_KnownRow T.n_KnownRow_name (xlds_cons rfl (show (FL "Unfit").Nodup by decide) T.xf_Unfit T.n_Unfit_name xlds_nil)))))) re_var k_eqA) (ra_cons (re_op (re_xv (re_op re_var re_int k_ix) (xlds_cons rfl (show (FL "BadBox").Nodup by decide) T.xf_BadBox T.n_BadBox_at (xlds_cons rfl (show (FL "BadLayer").Nodup by decide) T.xf_BadLayer T.n_BadLayer_at (xlds_cons rfl (show (FL "BadTable").Nodup by decide) T.xf_BadTable T.n_BadTable_at (xlds_cons rfl (show (FL "BadStore").Nodup by decide) T.xf_BadStore T.n_BadStore_at (xlds_cons rfl (show (FL "BadChange").Nodup by decide) T.xf_BadChange T.n_BadChange_at (xlds_cons rfl (show (FL "BadQuestion").Nodup by decide) T.xf_BadQuestion T.n_BadQuestion_at (xlds_cons rfl (show (FL "BadDead").Nodup by decide) T.xf_BadDead T.n_BadDead_at (xlds_cons rfl (show (FL "NotKnown").Nodup by decide) T.xf_NotKnown T.n_NotKnown_at xlds_nil))))))))) re_var k_eqA) (ra_cons (re_op (re_xv (re_op re_var re_int k_ix) (xlds_cons rfl (show (FL "NoTable").Nodup by decide) T.xf_NoTable T.n_NoTable_name (xlds_cons rfl (show (FL "LayersFull").Nodup by decide) T.xf_LayersFull T.n_LayersFull_name (xlds_cons rfl (show (FL "NoPage").Nodup by decide) T.xf_NoPage T.n_NoPage_name (xlds_cons rfl (show (FL "KnownRow").Nodup by decide) T.xf_KnownRow T.n_KnownRow_name (xlds_cons rfl (show (FL "Unfit").Nodup by decide) T.xf_Unfit T.n_Unfit_name xlds_nil)))))) re_var k_eqA) (ra_cons (re_op (re_xv (re_op re_var re_int k_ix) (xlds_cons rfl (show (FL "BadNumber").Nodup by decide) T.xf_BadNumber T.n_BadNumber_number xlds_nil)) re_var k_eqA) (ra_cons (re_op (re_xv (re_op re_var re_int k_ix) (xlds_cons rfl (show (FL "BadBox").Nodup by decide) T.xf_BadBox T.n_BadBox_what (xlds_cons rfl (show (FL "BadPage").Nodup by decide) T.xf_BadPage T.n_BadPage_what (xlds_cons rfl (show (FL "BadIndex").Nodup by decide) T.xf_BadIndex T.n_BadIndex_what (xlds_cons rfl (show (FL "BadLayer").Nodup by decide) T.xf_BadLayer T.n_BadLayer_what (xlds_cons rfl (show (FL "BadTable").Nodup by decide) T.xf_BadTable T.n_BadTable_what (xlds_cons rfl (show (FL "BadStore").Nodup by decide) T.xf_BadStore T.n_BadStore_what (xlds_cons rfl (show (FL "BadQuestion").Nodup by decide) T.xf_BadQuestion T.n_BadQuestion_what (xlds_cons rfl (show (FL "NoFactor").Nodup by decide) T.xf_NoFactor T.n_NoFactor_what (xlds_cons rfl (show (FL "BadPaper").Nodup by decide) T.xf_BadPaper T.n_BadPaper_what (xlds_cons rfl (show (FL "BadFoe").Nodup by decide) T.xf_BadFoe T.n_BadFoe_what (xlds_cons rfl (show (FL "NoSpread").Nodup by decide) T.xf_NoSpread T.n_NoSpread_what xlds_nil)))))))))))) re_var k_eqA) (ra_cons (re_op (re_xv (re_op re_var re_int k_ix) (xlds_cons rfl (show (FL "BadBox").Nodup by decide) T.xf_BadBox T.n_BadBox_at (xlds_cons rfl (show (FL "BadLayer").Nodup by decide) T.xf_BadLayer T.n_BadLayer_at (xlds_cons rfl (show (FL "BadTable").Nodup by decide) T.xf_BadTable T.n_BadTable_at (xlds_cons rfl (show (FL "BadStore").Nodup by decide) T.xf_BadStore T.n_BadStore_at (xlds_cons rfl (show (FL "BadChange").Nodup by decide) T.xf_BadChange T.n_BadChange_at (xlds_cons rfl (show (FL "BadQuestion").Nodup by decide) T.xf_BadQuestion T.n_BadQuestion_at (xlds_cons rfl (show (FL "BadDead").Nodup by decide) T.xf_BadDead T.n_BadDead_at (xlds_cons rfl (show (FL "NotKnown").Nodup by decide) T.xf_NotKnown T.n_NotKnown_at xlds_nil))))))))) re_var k_eqA) (ra_cons (re_op (re_xv (re_op re_var re_int k_ix) (xlds_cons rfl (show (FL "NoTable").Nodup by decide) T.xf_NoTable T.n_NoTable_name (xlds_cons rfl (show (FL "LayersFull").Nodup by decide) T.xf_LayersFull T.n_LayersFull_name (xlds_cons rfl (show (FL "NoPage").Nodup by decide) T.xf_NoPage T.n_NoPage_name (xlds_cons rfl (show (FL "KnownRow").Nodup by decide) T.xf_KnownRow T.n_KnownRow_name (xlds_cons rfl (show (FL "Unfit").Nodup by decide) T.xf_Unfit T.n_Unfit_name xlds_nil)))))) re_var k_eqA) (ra_cons (re_op (re_xv (re_op re_var re_int k_ix) (xlds_cons rfl (show (FL "BadBox").Nodup by decide) T.xf_BadBox T.n_BadBox_what (xlds_cons rfl (show (FL "BadPage").Nodup by decide) T.xf_BadPage T.n_BadPage_what (xlds_cons rfl (show (FL "BadIndex").Nodup by decide) T.xf_BadIndex T.n_BadIndex_what (xlds_cons rfl (show (FL "BadLayer").Nodup by decide) T.xf_BadLayer T.n_BadLayer_what (xlds_cons rfl (show (FL "BadTable").Nodup by decide) T.xf_BadTable T.n_BadTable_what (xlds_cons rfl (show (FL "BadStore").Nodup by decide) T.xf_BadStore T.n_BadStore_what (xlds_cons rfl (show (FL "BadQuestion").Nodup by decide) T.xf_BadQuestion T.n_BadQuestion_what (xlds_cons rfl (show (FL "NoFactor").Nodup by decide) T.xf_NoFactor T.n_NoFactor_what (xlds_cons rfl (show (FL "BadPaper").Nodup by decide) T.xf_BadPaper T.n_BadPaper_what (xlds_cons rfl (show (FL "BadFoe").Nodup by decide) T.xf_BadFoe T.n_BadFoe_what (xlds_cons rfl (show (FL "NoSpread").Nodup by decide) T.xf_NoSpread T.n_NoSpread_what xlds_nil)))))))))))) re_var k_eqA) (ra_cons (re_op (re_xv (re_op re_var re_int k_ix) (xlds_cons rfl (show (FL "BadPaper").Nodup by decide) T.xf_BadPaper T.n_BadPaper_line (xlds_cons rfl (show (FL "BadStory").Nodup by decide) T.xf_BadStory T.n_BadStory_line xlds_nil))) re_var k_eqA) (ra_cons (re_op (re_xv (re_op re_var re_int k_ix) (xlds_cons rfl (show (FL "BadBox").Nodup by decide) T.xf_BadBox T.n_BadBox_what (xlds_cons rfl (show (FL "BadPage").Nodup by decide) T.xf_BadPage T.n_BadPage_what (xlds_cons rfl (show (FL "BadIndex").Nodup by decide) T.xf_BadIndex T.n_BadIndex_what (xlds_cons rfl (show (FL "BadLayer").Nodup by decide) T.xf_BadLayer T.n_BadLayer_what (xlds_cons rfl (show (FL "BadTable").Nodup by decide) T.xf_BadTable T.n_BadTable_what (xlds_cons rfl (show (FL "BadStore").Nodup by decide) T.xf_BadStore T.n_BadStore_what (xlds_cons rfl (show (FL "BadQuestion").Nodup by decide) T.xf_BadQuestion T.n_BadQuestion_what (xlds_cons rfl (show (FL "NoFactor").Nodup by decide) T.xf_NoFactor T.n_NoFactor_what (xlds_cons rfl (show (FL "BadPaper").Nodup by decide) T.xf_BadPaper T.n_BadPaper_what (xlds_cons rfl (show (FL "BadFoe").Nodup by decide) T.xf_BadFoe T.n_BadFoe_what (xlds_cons rfl (show (FL "NoSpread").Nodup by decide) T.xf_NoSpread T.n_NoSpread_what xlds_nil)))))))))))) re_var k_eqA) (ra_cons (re_op (re_xv (re_op re_var re_int k_ix) (xlds_cons rfl (show (FL "TooMany").Nodup by decide) T.xf_TooMany T.n_TooMany_most xlds_nil)) re_var k_eqA) (ra_cons (re_op (re_xv (re_op re_var re_int k_ix) (xlds_cons rfl (show (FL "NoTable").Nodup by decide) T.xf_NoTable T.n_NoTable_name (xlds_cons rfl (show (FL "LayersFull").Nodup by decide) T.xf_LayersFull T.n_LayersFull_name (xlds_cons rfl (show (FL "NoPage").Nodup by decide) T.xf_NoPage T.n_NoPage_name (xlds_cons rfl (show (FL "KnownRow").Nodup by decide) T.xf_KnownRow T.n_KnownRow_name (xlds_cons rfl (show (FL "Unfit").Nodup by decide) T.xf_Unfit T.n_Unfit_name xlds_nil)))))) re_var k_eqA) (ra_cons (re_op (re_xv (re_op re_var re_int k_ix) (xlds_cons rfl (show (FL "BadRow").Nodup by decide) T.xf_BadRow T.n_BadRow_row (xlds_cons rfl (show (FL "KnownRow").Nodup by decide) T.xf_KnownRow T.n_KnownRow_row xlds_nil))) re_var k_eqA) (ra_cons (re_op (re_xv (re_op re_var re_int k_ix) (xlds_cons rfl (show (FL "BadBox").Nodup by decide) T.xf_BadBox T.n_BadBox_what (xlds_cons rfl (show (FL "BadPage").Nodup by decide) T.xf_BadPage T.n_BadPage_what (xlds_cons rfl (show (FL "BadIndex").Nodup by decide) T.xf_BadIndex T.n_BadIndex_what (xlds_cons rfl (show (FL "BadLayer").Nodup by decide) T.xf_BadLayer T.n_BadLayer_what (xlds_cons rfl (show (FL "BadTable").Nodup by decide) T.xf_BadTable T.n_BadTable_what (xlds_cons rfl (show (FL "BadStore").Nodup by decide) T.xf_BadStore T.n_BadStore_what (xlds_cons rfl (show (FL "BadQuestion").Nodup by decide) T.xf_BadQuestion T.n_BadQuestion_what (xlds_cons rfl (show (FL "NoFactor").Nodup by decide) T.xf_NoFactor T.n_NoFactor_what (xlds_cons rfl (show (FL "BadPaper").Nodup by decide) T.xf_BadPaper T.n_BadPaper_what (xlds_cons rfl (show (FL "BadFoe").Nodup by decide) T.xf_BadFoe T.n_BadFoe_what (xlds_cons rfl (show (FL "NoSpread").Nodup by decide) T.xf_NoSpread T.n_NoSpread_what xlds_nil)))))))))))) re_var k_eqA) (ra_cons (re_op (re_xv (re_op re_var re_int k_ix) (xlds_cons rfl (show (FL "BadBox").Nodup by decide) T.xf_BadBox T.n_BadBox_at (xlds_cons rfl (show (FL "BadLayer").Nodup by decide) T.xf_BadLayer T.n_BadLayer_at (xlds_cons rfl (show (FL "BadTable").Nodup by decide) T.xf_BadTable T.n_BadTable_at (xlds_cons rfl (show (FL "BadStore").Nodup by decide) T.xf_BadStore T.n_BadStore_at (xlds_cons rfl (show (FL "BadChange").Nodup by decide) T.xf_BadChange T.n_BadChange_at (xlds_cons rfl (show (FL "BadQuestion").Nodup by decide) T.xf_BadQuestion T.n_BadQuestion_at (xlds_cons rfl (show (FL "BadDead").Nodup by decide) T.xf_BadDead T.n_BadDead_at (xlds_cons rfl (show (FL "NotKnown").Nodup by decide) T.xf_NotKnown T.n_NotKnown_at xlds_nil))))))))) re_var k_eqA) (ra_cons (re_op (re_xv (re_op re_var re_int k_ix) (xlds_cons rfl (show (FL "BadBox").Nodup by decide) T.xf_BadBox T.n_BadBox_what (xlds_cons rfl (show (FL "BadPage").Nodup by decide) T.xf_BadPage T.n_BadPage_what (xlds_cons rfl (show (FL "BadIndex").Nodup by decide) T.xf_BadIndex T.n_BadIndex_what (xlds_cons rfl (show (FL "BadLayer").Nodup by decide) T.xf_BadLayer T.n_BadLayer_what (xlds_cons rfl (show (FL "BadTable").Nodup by decide) T.xf_BadTable T.n_BadTable_what (xlds_cons rfl (show (FL "BadStore").Nodup by decide) T.xf_BadStore T.n_BadStore_what (xlds_cons rfl (show (FL "BadQuestion").Nodup by decide) T.xf_BadQuestion T.n_BadQuestion_what (xlds_cons rfl (show (FL "NoFactor").Nodup by decide) T.xf_NoFactor T.n_NoFactor_what (xlds_cons rfl (show (FL "BadPaper").Nodup by decide) T.xf_BadPaper T.n_BadPaper_what (xlds_cons rfl (show (FL "BadFoe").Nodup by decide) T.xf_BadFoe T.n_BadFoe_what (xlds_cons rfl (show (FL "NoSpread").Nodup by decide) T.xf_NoSpread T.n_NoSpread_what xlds_nil)))))))))))) re_var k_eqA) (ra_cons (re_op (re_xv (re_op re_var re_int k_ix) (xlds_cons rfl (show (FL "NotInDoubt").Nodup by decide) T.xf_NotInDoubt T.n_NotInDoubt_point xlds_nil)) re_var k_eqA) (ra_cons (re_op (re_xv (re_op re_var re_int k_ix) (xlds_cons rfl (show (FL "NoTable").Nodup by decide) T.xf_NoTable T.n_NoTable_name (xlds_cons rfl (show (FL "LayersFull").Nodup by decide) T.xf_LayersFull T.n_LayersFull_name (xlds_cons rfl (show (FL "NoPage").Nodup by decide) T.xf_NoPage T.n_NoPage_name (xlds_cons rfl (show (FL "KnownRow").Nodup by decide) T.xf_KnownRow T.n_KnownRow_name (xlds_cons rfl (show (FL "Unfit").Nodup by decide) T.xf_Unfit T.n_Unfit_name xlds_nil)))))) re_var k_eqA) (ra_cons (re_op (re_xv (re_op re_var re_int k_ix) (xlds_cons rfl (show (FL "BadBox").Nodup by decide) T.xf_BadBox T.n_BadBox_at (xlds_cons rfl (show (FL "BadLayer").Nodup by decide) T.xf_BadLayer T.n_BadLayer_at (xlds_cons rfl (show (FL "BadTable").Nodup by decide) T.xf_BadTable T.n_BadTable_at (xlds_cons rfl (show (FL "BadStore").Nodup by decide) T.xf_BadStore T.n_BadStore_at (xlds_cons rfl (show (FL "BadChange").Nodup by decide) T.xf_BadChange T.n_BadChange_at (xlds_cons rfl (show (FL "BadQuestion").Nodup by decide) T.xf_BadQuestion T.n_BadQuestion_at (xlds_cons rfl (show (FL "BadDead").Nodup by decide) T.xf_BadDead T.n_BadDead_at (xlds_cons rfl (show (FL "NotKnown").Nodup by decide) T.xf_NotKnown T.n_NotKnown_at xlds_nil))))))))) re_var k_eqA) (ra_cons (re_op (re_xv (re_op re_var re_int k_ix) (xlds_cons rfl (show (FL "BadPaper").Nodup by decide) T.xf_BadPaper T.n_BadPaper_line (xlds_cons rfl (show (FL "BadStory").Nodup by decide) T.xf_BadStory T.n_BadStory_line xlds_nil))) re_var k_eqA) ra_nil)))))))))))))))))))))))))))))))))))))
  (rs_ret (re_cb (ra_cons re_var ra_nil) k_all)))))))))))) h
end
end K99
namespace Fx
open PySem PySem.Spec PyProof.Rows L2 Co
@[simp ↓] theorem EnumZI_ap {ms : Env → Sta → Out (List PV)} {ε : Env} {S : Sta} : EnumZI ms ε S = ((ms ε S).bind fun xs S1 => match xs with
  | [x, y] => match seqIt S1 x, seqIt S1 y with
    | some (_, i1), some (_, i2) => .ok (enumIt (zipIt i1 i2)) S1
    | _, _ => .stuck
  | _ => .stuck) := id rfl
@[simp ↓] theorem FldE_ap {cs : List String} {f : Str} {me : Env → Sta → Out PV} {ε : Env} {S : Sta} : FldE cs f me ε S = ((me ε S).bind fun p S1 => match objOf S1 p with
  | some (c, ns, xs) => if c ∈ cs then lift (zlook f ns xs) S1 else .stuck
  | none => .stuck) := id rfl
@[simp ↓] theorem SetFS_ap {cs : List String} {f : Str} {mo me : Env → Sta → Out PV} {ε : Env} {S : Sta} : SetFS cs f mo me ε S = ((me ε S).flow ε fun p S1 => (mo ε S1).flow ε fun o S2 => match putO S2 cs f o p with
  | some S3 => .nx ε S3
  | none => .stuck) := id rfl
@[simp ↓] theorem MakeE_ap {c : String} {f : FC} {dps : List PV} {ms : Env → Sta → Out (List PV)} {ε : Env} {S : Sta} : MakeE c f dps ms ε S = ((ms ε S).bind fun xs S1 => mkO c f (xs ++ dps) S1) := id rfl
@[simp ↓] theorem XiE_ap {tab : String → Option Bool} {c : String} {n i : Nat} {ε : Env} {S : Sta} : XiE tab c n i ε S = (match ε[i]? with
  | some (some (.xv n')) => if n' = n then (lift (tab c) S).bind fun b S => .ok (.bl b) S else .stuck
  | _ => .stuck) := id rfl
@[simp ↓] theorem NewXE_ap {c : String} {names : List Str} {ms : Env → Sta → Out (List PV)} {ε : Env} {S : Sta} : NewXE c names ms ε S = ((ms ε S).bind fun xs S1 => if xs.length = names.length then .ok (.obj c names xs) S1 else .stuck) := id rfl
@[simp ↓] theorem NewX0E_ap {c : String} {ε : Env} {S : Sta} : NewX0E c ε S = (.ok (.obj c [] []) S) := id rfl
@[simp ↓] theorem XvE_ap {cs : List String} {f : Str} {me : Env → Sta → Out PV} {ε : Env} {S : Sta} : XvE cs f me ε S = ((me ε S).bind fun p S1 => match p with
  | .obj c ns xs => if c ∈ cs then lift (zlook f ns xs) S1 else .stuck
  | _ => .stuck) := id rfl
@[simp ↓] theorem IsvE_ap {tab : String → Option Bool} {me : Env → Sta → Out PV} {ε : Env} {S : Sta} : IsvE tab me ε S = ((me ε S).bind fun p S1 => match p with
  | .obj c _ _ => (lift (tab c) S1).bind fun b S1 => .ok (.bl b) S1
  | _ => .stuck) := id rfl
theorem map_injF {α β : Type} {f : α → β} (hf : ∀ a b, f a = f b → a = b) : ∀ {xs ys : List α}, xs.map f = ys.map f → xs = ys
  | [], [], _ => rfl
  | [], _ :: _, h => by cases h
  | _ :: _, [], h => by cases h
  | x :: xs, y :: ys, h => by
    rw [List.map_cons, List.map_cons] at h
    injection h with h1 h2
    rw [hf x y h1, map_injF hf h2]
@[simp] theorem ofStr_inj {a b : String} : (Str.ofString a = Str.ofString b) = (a = b) := by
  apply propext
  constructor
  · intro h
    rw [Str.ofString_eq_toList, Str.ofString_eq_toList] at h
    injection h with h
    injection h with h
    have h2 : a.toList = b.toList := map_injF (fun c d e => Char.ext (UInt32.toNat_inj.mp e)) h
    exact String.ext_iff.mpr h2
  · rintro rfl; rfl
section
variable {S T : Sta} {ε : Env} {c : String} {ns : List Str} {xs ys : List PV} {f n : Str} {p x : PV}
@[simp] theorem objOf_obj : objOf S (.obj c ns xs) = some (c, ns, xs) := id rfl
@[simp] theorem objOf_mu {n : Nat} : objOf S (.mu n) = (match S[n]? with
    | some (.obj c ns xs) => some (c, ns, xs)
    | _ => none) := id rfl
@[simp] theorem zlook_ap : zlook f (n :: ns) (x :: xs) = if f = n then some x else zlook f ns xs := by rw [zlook]
@[simp] theorem zput_ap : zput f p (n :: ns) (x :: xs) = if n = f then (n :: ns, p :: xs) else (n :: (zput f p ns xs).1, x :: (zput f p ns xs).2) := by rw [zput]
@[simp] theorem zput_nil : zput f p [] xs = ([f], [p]) := by rw [zput]; rintro a b c d h; cases h
@[simp] theorem putO_mu {cs : List String} {n : Nat} : putO S cs f (.mu n) p = (match S[n]? with
    | some (.obj c ns xs) => if c ∈ cs ∧ ns.length < 900 then some (S.set n (.obj c (zput f p ns xs).1 (zput f p ns xs).2)) else none
    | _ => none) := id rfl
@[simp] theorem isX_self {b : Bool} : isX c b c = some b := if_pos rfl
def mk3 (k : Nat) : Out PV → Out PV
  | .ok .non S2 => give k (.mu k) S2
  | .ex d ys S2 => giveX k d ys S2
  | _ => .stuck
@[simp ↓] theorem mkO_ap {g : FC} : mkO c g xs S = mk3 S.length (g (.mu S.length :: xs) (S ++ [.obj c [] []])) := id rfl
@[simp] theorem mk3_ok {k : Nat} : mk3 k (.ok .non S) = give k (.mu k) S := id rfl
@[simp] theorem mk3_ex {k : Nat} : mk3 k (.ex c xs S) = giveX k c xs S := id rfl
@[simp] theorem items_obj : items S (.obj c ns xs) = none := id rfl
@[simp] theorem lstOf_lst : lstOf S (.lst xs) = some xs := id rfl
@[simp] theorem fRep_ap {k : Int} : fRep S x (.int k) = (match lstOf S x with
    | some xs => if -100000 ≤ k ∧ k ≤ 100000 ∧ xs.length * k.toNat ≤ 100000 then some (.lst (rep k.toNat xs)) else none
    | none => none) := by
  unfold fRep
  cases lstOf S x <;> rfl
theorem app_get {α : Type} {xs ys : List α} {n : Nat} {a : α} (h : xs[n]? = some a) : (xs ++ ys)[n]? = some a := by
  rw [List.getElem?_append_left (List.getElem?_eq_some_iff.mp h).1]; exact h
theorem look_ext {x : PV} (h : (tyP S x).isSome = true) : look (S ++ T) x = look S x := by
  cases x <;> first | rfl | skip
  rename_i n
  rw [tyP_mu] at h
  rw [look_mu', look_mu']
  cases e : S[n]? with
  | none => rw [e] at h; cases h
  | some c => rw [app_get e]
theorem tyP_ext {x : PV} (h : (tyP S x).isSome = true) : tyP (S ++ T) x = tyP S x := by
  unfold tyP
  rw [look_ext h]
theorem items_some {x : PV} {k : Bool} (h : items S x = some (k, xs)) : items (S ++ T) x = some (k, xs) := by
  have h2 := items_ty h
  unfold items at h ⊢
  rw [look_ext h2]
  exact h
theorem items_ext {x : PV} (h : (tyP S x).isSome = true) : items (S ++ T) x = items S x := by
  unfold items
  rw [look_ext h]
theorem fIx_it {x : PV} {k : Bool} {i : Int} (h : items S x = some (k, xs)) : fIx S x (.int i) = atI xs i := by
  unfold fIx
  rw [items_look h]
  cases k <;> rfl
mutual
theorem clean_le {k : Nat} : ∀ p : PV, clean 0 p = true → clean k p = true
  | .non, _ => by simp only [clean]
  | .bl _, _ => by simp only [clean]
  | .int _, _ => by simp only [clean]
  | .str _, _ => by simp only [clean]
  | .tup xs, h => by simp only [clean] at h ⊢; exact cleans_le xs h
  | .lst xs, h => by simp only [clean] at h ⊢; exact cleans_le xs h
  | .kls xs, h => by simp only [clean] at h ⊢; exact cleans_le xs h
  | .obj _ _ xs, h => by simp only [clean] at h ⊢; exact cleans_le xs h
  | .mu n, h => by simp [clean] at h
  | .xv n, h => by simp [clean] at h
theorem cleans_le {k : Nat} : ∀ ps : List PV, cleans 0 ps = true → cleans k ps = true
  | [], _ => by simp only [cleans]
  | p :: ps, h => by
    simp only [cleans, Bool.and_eq_true] at h ⊢
    exact ⟨clean_le p h.1, cleans_le ps h.2⟩
end
theorem flatS_app : flatS (S ++ T) = (flatS S && flatS T) := by simp [flatS]
theorem give_obj (hT : flatS T = true) (hx : cleans 0 xs = true) : give T.length (.mu T.length) (T ++ [.obj c ns xs]) = .ok (.obj c ns xs) T := by
  unfold give leave
  have h1 : ¬ (T ++ [Cell.obj c ns xs]).length ≤ T.length := by simp
  have h2 : (T ++ [Cell.obj c ns xs])[T.length]? = some (.obj c ns xs) := by simp
  have h3 : cleans T.length xs = true := cleans_le xs hx
  rw [if_neg h1, List.take_left', frzCs_flat _ _ _ hT]
  · simp [frzs, frz, h2, h3]
  · rfl
theorem giveX_flat {U : Sta} {xs : List PV} (hS : flatS S = true) (hp : cleans 0 xs = true) : giveX S.length c xs (S ++ U) = .ex c xs S := by
  unfold giveX
  rw [leave_flat hS hp]
theorem isi_items {x : PV} (h : (tyP S x).isSome = true) : ∃ t, tyP S x = some t ∧ (isT t .list || isT t .tuple) = (items S x).isSome := by
  unfold tyP at h ⊢
  unfold items
  generalize look S x = l at h ⊢
  cases l <;> first | (cases h; done) | exact ⟨_, rfl, rfl⟩
theorem intsP_zero {lo : Int} : intsP lo 0 = [] := rfl
theorem intsP_succ {lo : Int} {n : Nat} : intsP lo (n + 1) = .int lo :: intsP (lo + 1) n := by
  unfold intsP
  rw [List.range_succ_eq_map, List.map_cons, List.map_map]
  congr 1
  · simp
  · refine List.map_congr_left fun i _ => ?_
    simp only [Function.comp]
    congr 1
    omega
/-- what may be asked for its kind, and whose items may -/
structure Plain (S : Sta) (x : PV) : Prop where
  t : (tyP S x).isSome = true
  i : ∀ k xs, items S x = some (k, xs) → xs.length ≤ 1000 ∧ ∀ p ∈ xs, (tyP S p).isSome = true
theorem Plain.ext {x : PV} (h : Plain S x) (T : Sta) : Plain (S ++ T) x := ⟨by rw [tyP_ext h.t]; exact h.t, fun k xs e => by
  rw [items_ext h.t] at e
  exact ⟨(h.i k xs e).1, fun p hp => by rw [tyP_ext ((h.i k xs e).2 p hp)]; exact (h.i k xs e).2 p hp⟩⟩
end
end Fx
namespace Fx
open PySem PySem.Spec PyProof.Rows L2 Co
section
variable {S S' T : Sta} {ε ε' : Env} {R : Env → Sta → Prop}
/-! ### statements that go on -/
def Nx (f : Flow) (R : Env → Sta → Prop) : Prop := ∃ ε S, f = .nx ε S ∧ R ε S
theorem nx_seq {A B : Env → Sta → Flow} (h : A ε S = .nx ε' S') (k : Nx (B ε' S') R) : Nx (SeqS A B ε S) R := by
  unfold SeqS
  rw [h]
  exact k
theorem nx_seqP {A B : Env → Sta → Flow} (P : Env → Sta → Prop) (h : Nx (A ε S) P) (k : ∀ ε' S', P ε' S' → Nx (B ε' S') R) : Nx (SeqS A B ε S) R := by
  obtain ⟨ε', S', e, p⟩ := h
  exact nx_seq e (k ε' S' p)
theorem nx_end {A : Env → Sta → Flow} (h : A ε S = .nx ε' S') (k : R ε' S') : Nx (A ε S) R := ⟨ε', S', h, k⟩
theorem nx_for {mi : Env → Sta → Out IT} {g : MG} {mb : Env → Sta → Flow} {S1 : Sta} {it : IT} (I : List PV → Env → Sta → Prop) (hi : mi ε S = .ok it S1) (h0 : I it.xs ε S1) (hp : ∀ xs ε S, I xs ε S → pinsOk S it.pins = true)
    (hs : ∀ x xs ε S, x ∈ it.xs → I (x :: xs) ε S → ∃ ε1 S1, g x ε S = .ok ε1 S1 ∧ Nx (mb ε1 S1) (I xs)) : Nx (ForS mi g mb ε S) (I []) := by
  have key : ∀ xs : List PV, (∀ x ∈ xs, x ∈ it.xs) → ∀ ε S, I xs ε S → ∃ ε' S', loop g mb it.pins xs ε S = .nx ε' S' ∧ I [] ε' S' := by
    intro xs
    induction xs with
    | nil => exact fun _ ε S h => ⟨ε, S, by simp [loop, hp _ _ _ h], h⟩
    | cons x xs ih =>
      intro hm ε S h
      obtain ⟨ε1, S1, h1, ε2, S2, h2, h3⟩ := hs x xs ε S (hm x (by simp)) h
      obtain ⟨ε', S', h4, h5⟩ := ih (fun y hy => hm y (List.mem_cons_of_mem _ hy)) ε2 S2 h3
      exact ⟨ε', S', by simp [loop, hp _ _ _ h, h1, h2, h4], h5⟩
  obtain ⟨ε', S', h4, h5⟩ := key it.xs (fun _ h => h) ε S1 h0
  exact ⟨ε', S', by rw [ForS_ap, hi]; exact h4, h5⟩
theorem nx_scope {m : Env → Sta → Flow} {R' : Env → Sta → Prop} (h : Nx (m ε S) R) (k : ∀ ε' S', R ε' S' → ∃ x, leaveE S.length ε' S' = some x ∧ R' x.1 x.2) : Nx (scopeS m ε S) R' := by
  obtain ⟨ε', S', e, r⟩ := h
  obtain ⟨x, hx, r'⟩ := k ε' S' r
  exact ⟨x.1, x.2, by rw [scopeS_ap, e, shutS_nx, hx], r'⟩
theorem Nx.imp {f : Flow} {R' : Env → Sta → Prop} (h : Nx f R) (k : ∀ ε S, R ε S → R' ε S) : Nx f R' := by
  obtain ⟨ε, S, e, r⟩ := h
  exact ⟨ε, S, e, k _ _ r⟩
theorem nx_if {mc : Env → Sta → Out Bool} {A B : Env → Sta → Flow} {b : Bool} (h : mc ε S = .ok b S') (k1 : b = true → Nx (A ε S') R) (k2 : b = false → Nx (B ε S') R) : Nx (IfS mc A B ε S) R := by
  cases b with
  | true => obtain ⟨e, T, h1, h2⟩ := k1 rfl; exact ⟨e, T, by rw [IfS_ap, h]; exact h1, h2⟩
  | false => obtain ⟨e, T, h1, h2⟩ := k2 rfl; exact ⟨e, T, by rw [IfS_ap, h]; exact h1, h2⟩
/-- a law's for statement whose turns are such -/
theorem done_forN {mi : Env → Sta → Out IT} {g : MG} {mb B : Env → Sta → Flow} {S1 : Sta} {it : IT} (I : List PV → Env → Sta → Prop) (hi : mi ε S = .ok it S1) (h0 : I it.xs ε S1) (hp : ∀ xs ε S, I xs ε S → pinsOk S it.pins = true)
    (hs : ∀ x xs ε S, x ∈ it.xs → I (x :: xs) ε S → ∃ ε1 S1, g x ε S = .ok ε1 S1 ∧ Nx (mb ε1 S1) (I xs)) (k : ∀ ε' S', I [] ε' S' → Done (B ε' S')) : Done (SeqS (ForS mi g mb) B ε S) := by
  obtain ⟨ε', S', e, r⟩ := nx_for I hi h0 hp hs
  exact done_seq e (k _ _ r)
/-! ### places -/
theorem atI_mem {α : Type} {xs : List α} {i : Int} (h0 : 0 ≤ i) (h1 : i < xs.length) : ∃ x, atI xs i = some x ∧ x ∈ xs ∧ xs[i.toNat]? = some x := by
  have hl : i.toNat < xs.length := by omega
  exact ⟨xs[i.toNat], atI_get h0 (List.getElem?_eq_getElem hl), List.getElem_mem hl, List.getElem?_eq_getElem hl⟩
theorem ixN_in {n : Nat} {i : Int} (h0 : 0 ≤ i) (h1 : i < n) : ixN n i = some i.toNat := by
  unfold ixN
  have a : ¬ i < 0 := by omega
  have b : (0 : Int) ≤ i ∧ i < n := ⟨h0, h1⟩
  simp [a, b]
/-! ### plain values, whatever the state -/
structure Vd (p : PV) (k : Nat) : Prop where
  d : ∃ d, Dv p d k
  c : clean 0 p = true
  t : ∀ S : Sta, (tyP S p).isSome = true
theorem vd_int {i : Int} {k : Nat} (h : i.natAbs < 10 ^ 40) : Vd (.int i) k := ⟨⟨_, dv_int h⟩, rfl, fun _ => rfl⟩
theorem vd_bl {b : Bool} {k : Nat} : Vd (.bl b) k := ⟨⟨_, dv_bl⟩, rfl, fun _ => rfl⟩
theorem vd_non {k : Nat} : Vd .non k := ⟨⟨_, dv_non⟩, rfl, fun _ => rfl⟩
theorem vd_flat {k : Nat} : ∀ {ps : List PV}, (∀ p ∈ ps, Vd p k) → cleans 0 ps = true
  | [], _ => rfl
  | p :: ps, h => by
    simp only [cleans, (h p (by simp)).c, vd_flat fun q hq => h q (List.mem_cons_of_mem _ hq), Bool.and_self]
theorem vd_dats {k : Nat} {ps : List PV} (h : ∀ p ∈ ps, Vd p k) : ∃ ds, toDs ps = some ds ∧ ds.length = ps.length ∧ (∀ x ∈ ds, modest x = true) ∧ (∀ x ∈ ds, x.depth ≤ 10) ∧ ∀ x ∈ ds, x.bulk ≤ k := toDs_all fun p hp => (h p hp).d
theorem plain_sq {x : PV} {k : Bool} {xs : List PV} (h : items S x = some (k, xs)) (hl : xs.length ≤ 1000) (ht : ∀ p ∈ xs, (tyP S p).isSome = true) : Plain S x := ⟨items_ty h, fun k' ys e => by
  rw [h] at e
  cases e
  exact ⟨hl, ht⟩⟩
theorem plain_no {x : PV} (h : (tyP S x).isSome = true) (h2 : items S x = none) : Plain S x := ⟨h, fun k ys e => by rw [h2] at e; cases e⟩
@[simp] theorem fAdd_mul {n : Nat} {ys : List PV} : fAdd S (.mu n) (.lst ys) = (match S[n]? with
    | some (.lst xs) => if xs.length + ys.length ≤ 100000 then some (.lst (xs ++ ys)) else none
    | _ => none) := by
  unfold fAdd look
  dsimp only
  cases S[n]? with
  | none => rfl
  | some c => cases c <;> rfl
/-- a comprehension with a condition whose parts change nothing -/
theorem lcLoop_filter {g : MG} {mc : Env → Sta → Out Bool} {me : Env → Sta → Out PV} {pins : List (Nat × List PV)} (b : PV → Bool) (f : PV → PV) (hp : pinsOk S pins = true) : ∀ (xs acc : List PV), (∀ x, x ∈ xs → ∃ ε1, g x ε S = .ok ε1 S ∧ mc ε1 S = .ok (b x) S ∧ (b x = true → me ε1 S = .ok (f x) S)) → acc.length + xs.length ≤ 100000 →
    lcLoop g mc me pins ε xs acc S = .ok (acc ++ (xs.filter b).map f) S
  | [], acc, _, _ => by simp [lcLoop, hp]
  | x :: xs, acc, h, hl => by
    obtain ⟨ε1, h1, h2, h3⟩ := h x (by simp)
    have hl' : acc.length < 100000 := by simp at hl; omega
    by_cases hb : b x = true
    · have ih := lcLoop_filter (mc := mc) (me := me) b f hp xs (acc ++ [f x]) (fun y hy => h y (List.mem_cons_of_mem _ hy)) (by simp at hl ⊢; omega)
      simp [lcLoop, hp, h1, h2, h3 hb, hb, hl', ih]
    · have ih := lcLoop_filter (mc := mc) (me := me) b f hp xs acc (fun y hy => h y (List.mem_cons_of_mem _ hy)) (by simp at hl ⊢; omega)
      simp [lcLoop, hp, h1, h2, hb, ih]
/-! ### letters -/
def lets : List Nat := ("abcdefghijklmnopqrstuvwxyz" : Str).cps.toList
theorem lets_len : lets.length = 26 := by decide +kernel
theorem lets_small : ∀ c ∈ lets, c < 1114112 := by decide +kernel
theorem chars_of {R : Nat → Prop} {xs ys : List PV} (h : All2 (fun _ y => ∃ c, y = PV.str ⟨#[c]⟩ ∧ R c) xs ys) : ∃ cs : List Nat, ys = (cs.map fun c => (⟨#[c]⟩ : Str)).map .str ∧ cs.length = xs.length ∧ ∀ c ∈ cs, R c := by
  induction h with
  | nil => exact ⟨[], rfl, rfl, fun c h => by cases h⟩
  | cons h1 _ ih =>
    obtain ⟨c, rfl, hc⟩ := h1
    obtain ⟨cs, rfl, h3, h4⟩ := ih
    exact ⟨c :: cs, rfl, by simp [h3], fun d hd => by rcases List.mem_cons.mp hd with rfl | hd; exact hc; exact h4 d hd⟩
theorem strsP_map : ∀ zs : List Str, strsP (zs.map .str) = some zs
  | [] => rfl
  | z :: zs => by rw [List.map_cons, strsP, strsP_map zs]; rfl
theorem sum_ones : ∀ cs : List Nat, ((cs.map fun c => (⟨#[c]⟩ : Str)).map (·.length)).sum = cs.length
  | [] => rfl
  | c :: cs => by
    rw [List.map_cons, List.map_cons, List.sum_cons, sum_ones cs, List.length_cons]
    show 1 + cs.length = _
    omega
/-- the items of an all2 of ints -/
theorem ints_of {R : Int → Prop} {xs ys : List PV} (h : All2 (fun _ y => ∃ i, y = PV.int i ∧ R i) xs ys) : ∃ is : List Int, ys = is.map .int ∧ is.length = xs.length ∧ ∀ i ∈ is, R i := by
  induction h with
  | nil => exact ⟨[], rfl, rfl, fun c h => by cases h⟩
  | cons h1 _ ih =>
    obtain ⟨c, rfl, hc⟩ := h1
    obtain ⟨cs, rfl, h3, h4⟩ := ih
    exact ⟨c :: cs, rfl, by simp [h3], fun d hd => by rcases List.mem_cons.mp hd with rfl | hd; exact hc; exact h4 d hd⟩
end
end Fx
namespace K99
open PySem L2 Co Fx
/-! ### the bag -/
theorem v_draw {b : BS} {lim : Int} {T : Sta} (h : Bi b) (hcn : b.c < 1000000000) (h1 : 1 ≤ lim) (h2 : lim ≤ 10 ^ 30) : m__law_draw [.mu 0, .int lim] (bagC b :: T) = .ok (.int (dv b lim)) (bagC (db b lim) :: T) := by
  obtain ⟨p, ns, i, g, c, s⟩ := b
  obtain ⟨h0i, h0g, h0c, h0s, hs⟩ := h
  dsimp only at h0i h0g h0c hcn h0s hs
  have hl := lim_log h1 h2
  have c64 : -18446744073709551616 < c + 1 ∧ c + 1 < 18446744073709551616 := ⟨by omega, by omega⟩
  unfold bagC
  by_cases hg : 0 < g
  · simp [m__law_draw, envOf, hg, hl, ixN, drw, dv, db]
  · by_cases hi : i < (ns.length : Int)
    · obtain ⟨z, hz⟩ : ∃ z, ns[i.toNat]? = some z := ⟨_, List.getElem?_eq_getElem (by omega)⟩
      have hix : atI (ns.map PV.int) i = some (.int z) := atI_get h0i (by rw [List.getElem?_map, hz]; rfl)
      by_cases hb : 10 ^ 18 ≤ absI z
      · have hb' : 1000000000000000000 ≤ if z < 0 then -z else z := hb
        simp [m__law_draw, envOf, hg, hi, hl, hix, ixN, drw, dv, db, hz, absI, hb']
      · have hb' : ¬ 1000000000000000000 ≤ if z < 0 then -z else z := hb
        simp [m__law_draw, envOf, hg, hi, hl, hix, ixN, drw, dv, db, hz, absI, hb', mix1, mix2, log65536, log7, c64]
    · simp [m__law_draw, envOf, hg, hi, hl, ixN, drw, dv, db, mix1, mix2, log65536, log7, c64]
/-- a draw: some number in the range, some bag -/
theorem v_drawE {b : BS} {n : Nat} {lim : Int} (T : Sta) (h : BOk b (n + 1)) (h1 : 1 ≤ lim) (h2 : lim ≤ 10 ^ 30) : ∃ r b', m__law_draw [.mu 0, .int lim] (bagC b :: T) = .ok (.int r) (bagC b' :: T) ∧ 0 ≤ r ∧ r < lim ∧ BOk b' n :=
  ⟨_, _, v_draw h.i (by have := h.c; omega) h1 h2, (draw_range h1).1, (draw_range h1).2, bok_db h h1⟩
theorem v_bag {ns : List Int} (h : ns.length ≤ 63) : ∃ b, m__law_bag [.kls (ns.map .int)] [] = .ok (.mu 0) [bagC b] ∧ BOk b 900000000 := by
  refine ⟨⟨0, ns, 0, 0, 0, 20021⟩, ?_, ⟨(by decide : (0 : Int) ≤ 0), (by decide : (0 : Int) ≤ 0), (by decide : (0 : Int) ≤ 0), (by decide : (0 : Int) ≤ 20021), (by decide : (20021 : Int) < 2147483647)⟩, (by decide : (0 : Int) + (900000000 : Nat) ≤ 1000000000)⟩
  have hc : cutP (ns.map PV.int) none (some 63) = ns.map .int := by
    unfold cutP
    have : HT.sIx (ns.map PV.int).length 0 none = 0 := rfl
    rw [this, List.drop_zero, Nat.sub_zero, List.take_of_length_le]
    rw [List.length_map]
    show ns.length ≤ HT.sIx ns.length ns.length (some 63)
    simp [HT.sIx]
    omega
  have hl : lcLoop (NameG 1) YesT (CbE fInt (ConsA (VarE 1) NilA)) [] [some (.kls (ns.map .int)), none] (ns.map .int) [] [] = .ok ([] ++ (ns.map PV.int).map fun x => x) [] := by
    refine lcLoop_map (fun x => x) rfl _ _ (fun x hx => ?_) (by simp; omega)
    obtain ⟨z, hz, rfl⟩ := List.mem_map.mp hx
    exact ⟨_, rfl, rfl, rfl⟩
  simp [m__law_bag, fSl, hc, hl, newL, bagC]
theorem w_word {b : BS} {n : Nat} {sc : PV} (h : BOk b (n + 10)) : ∃ (w : Str) (b' : BS), JoinE (Fx.CE (.str "")) (LcE (Rng1I (ConsA (OpE fAdd (Fx.CE (.int 1)) (CallE m__law_draw [] (ConsA (VarE 1) (ConsA (Fx.CE (.int 9)) NilA)))) NilA)) (NameG 3) YesT (OpE fIx (Fx.CE (.str "abcdefghijklmnopqrstuvwxyz")) (CallE m__law_draw [] (ConsA (VarE 1) (ConsA (Fx.CE (.int 26)) NilA)))) [3])
    [some (sc), some (.mu 0), none, none, none, none, none, none, none, none, none, none, none] [bagC b] = .ok (.str w) [bagC b'] ∧ w.length ≤ 9 ∧ (∀ c ∈ w.cps.toList, c < 1114112) ∧ BOk b' n := by
  obtain ⟨r, b1, e1, h1, h2, k1⟩ := v_drawE (n := n + 9) (lim := 9) [] h (by decide) (by decide)
  have hr : (intsP 0 (1 + r).toNat).length = (1 + r).toNat := by simp [intsP]
  obtain ⟨ys, b2, e2, k2, hy⟩ := lcLoop_bag (g := NameG 3) (mc := YesT) (me := OpE fIx (Fx.CE (.str "abcdefghijklmnopqrstuvwxyz")) (CallE m__law_draw [] (ConsA (VarE 1) (ConsA (Fx.CE (.int 26)) NilA)))) (pins := []) (T := []) (k := 1) (ε := [some (sc), some (.mu 0), none, none, none, none, none, none, none, none, none, none, none]) (fun _ y => ∃ c, y = PV.str ⟨#[c]⟩ ∧ c < 1114112) (fun _ => rfl) (intsP 0 (1 + r).toNat) [] n b1 (fun x b m hx hb => by
    obtain ⟨q, b', e, q1, q2, k⟩ := v_drawE (lim := 26) [] hb (by decide) (by decide)
    have hl := lets_len
    obtain ⟨c, hc⟩ : ∃ c, lets[q.toNat]? = some c := ⟨_, List.getElem?_eq_getElem (by omega)⟩
    have ha' : atI (Str.ofString "abcdefghijklmnopqrstuvwxyz").cps.toList q = some c := atI_get q1 hc
    have hz : (Str.ofString "abcdefghijklmnopqrstuvwxyz").length ≤ 100000 := by decide +kernel
    exact ⟨_, rfl, rfl, .str ⟨#[c]⟩, b', by simp [e, ha', hz], k, c, rfl, lets_small c (List.mem_of_getElem? hc)⟩) (by rw [hr]; simp; omega) (k1.less (by rw [hr]; omega))
  obtain ⟨cs, rfl, hcl, hcm⟩ := chars_of hy
  rw [hr] at hcl
  have hb' : -(4611686018427387904 : Int) ≤ 1 + r ∧ 1 + r < 4611686018427387904 := by omega
  have he : (Str.ofString "").length = 0 := by decide +kernel
  have hj : Txt.join (Str.ofString "") (cs.map fun c => (⟨#[c]⟩ : Str)) = ⟨cs.toArray⟩ := join_chars cs
  have sm := sum_ones cs
  have hcs : cs.length ≤ 100000 := by omega
  have sp := strsP_map (cs.map fun c => (⟨#[c]⟩ : Str))
  refine ⟨⟨cs.toArray⟩, b2, ?_, ?_, fun c hc => hcm c (by simpa using hc), k2⟩
  · have hs : ((cs.map fun c => (⟨#[c]⟩ : Str)).map (·.length)).sum ≤ 100000 := by rw [sm]; exact hcs
    simp [e1, hb', e2, sp, he, hj, hs, -List.map_map]
  · show (cs.toArray).size ≤ 9
    rw [List.size_toArray]
    omega
theorem w_row {b : BS} {n : Nat} {sc : PV} {u2 u4 u5 : Option PV} (h : BOk b (n + 4)) : ∃ (is : List Int) (b' : BS), CbE fTuple (ConsA (LcE (Rng1I (ConsA (CallE m__law_draw [] (ConsA (VarE 1) (ConsA (Fx.CE (.int 4)) NilA))) NilA)) (NameG 3) YesT (CallE m__law_draw [] (ConsA (VarE 1) (ConsA (Fx.CE (.int 64)) NilA))) [3]) NilA)
    [some (sc), some (.mu 0), u2, none, u4, u5, none, none, none, none, none, none, none] [bagC b] = .ok (.tup (is.map .int)) [bagC b'] ∧ is.length ≤ 3 ∧ (∀ i ∈ is, 0 ≤ i ∧ i ≤ 64) ∧ BOk b' n := by
  obtain ⟨r, b1, e1, h1, h2, k1⟩ := v_drawE (n := n + 3) (lim := 4) [] h (by decide) (by decide)
  have hr : (intsP 0 r.toNat).length = r.toNat := by simp [intsP]
  obtain ⟨ys, b2, e2, k2, hy⟩ := lcLoop_bag (g := NameG 3) (mc := YesT) (me := CallE m__law_draw [] (ConsA (VarE 1) (ConsA (Fx.CE (.int 64)) NilA))) (pins := []) (T := []) (k := 1) (ε := [some (sc), some (.mu 0), u2, none, u4, u5, none, none, none, none, none, none, none]) (fun _ y => ∃ i, y = PV.int i ∧ 0 ≤ i ∧ i ≤ 64) (fun _ => rfl) (intsP 0 r.toNat) [] n b1 (fun x b m hx hb => by
    obtain ⟨q, b', e, q1, q2, k⟩ := v_drawE (lim := 64) [] hb (by decide) (by decide)
    exact ⟨_, rfl, rfl, .int q, b', by simp [e], k, q, rfl, q1, by omega⟩) (by rw [hr]; simp; omega) (k1.less (by rw [hr]; omega))
  obtain ⟨is, rfl, hcl, hcm⟩ := ints_of hy
  rw [hr] at hcl
  have hb' : -(4611686018427387904 : Int) ≤ r ∧ r < 4611686018427387904 := by omega
  exact ⟨is, b2, by simp [e1, hb', e2], by omega, hcm, k2⟩
/-! ### the classes of an error -/
theorem ra_isv {c C : String} {ns : List Str} {ps xs : List PV} {mr : Fx.Env → Sta → Out (List PV)} {ε : Fx.Env} {S : Sta} (hc : c ∈ ERM) (h0 : ε[0]? = some (some (.obj c ns ps))) (hr : mr ε S = .ok xs S) : ConsA (IsvE (isE C) (VarE 0)) mr ε S = .ok (.bl (decide (c = C)) :: xs) S := by
  have h1 : isE C c = some (decide (c = C)) := if_pos hc
  simp [h0, h1, hr]
theorem v_classes {c : String} {ns : List Str} {ps : List PV} {S : Sta} (hc : c ∈ ERM) : m__law_classes [.obj c ns ps] S = .ok (.lst (ERM.map fun C => .bl (decide (c = C)))) S := by
  obtain ⟨xs, e1, e2⟩ : ∃ xs, xs = (ERM.map fun C => PV.bl (decide (c = C))) ∧ True := ⟨_, rfl, trivial⟩
  rw [← e1]
  have hl : xs.length ≤ 100000 := by rw [e1]; simp [ERM]
  unfold m__law_classes
  have key : ∀ mr : Fx.Env → Sta → Out (List PV), mr [some (.obj c ns ps)] S = .ok xs S → calmF (defM false 1 1 (RetS (LstE mr))) [.obj c ns ps] S = .ok (.lst xs) S := fun mr hm => by
    simp [hm, hl]
  refine key _ ?_
  rw [e1]
  unfold ERM
  simp only [List.map_cons, List.map_nil]
  repeat (refine ra_isv hc rfl ?_)
  rfl
end K99
namespace K99
open PySem L2 Co Fx
def errL (w n : Str) (t : Int) (r p : PV) : List PV := [.obj "BadWidths" [] [], .obj "BadRow" ["row"] [r], .obj "BadBox" ["what", "at"] [.str w, .int t], .obj "UnlikeBoxes" [] [], .obj "BadColumn" ["column"] [.int t], .obj "BadData" [] [], .obj "BadText" ["place"] [.int t], .obj "BadPage" ["what"] [.str w], .obj "BadIndex" ["what"] [.str w], .obj "BadLayer" ["what", "at"] [.str w, .int t], .obj "NoIndex" ["index"] [.int t], .obj "BadTable" ["what", "at"] [.str w, .int t], .obj "NoLayer" ["layer"] [.int t], .obj "BadStore" ["what", "at"] [.str w, .int t], .obj "NoTable" ["name"] [.str n], .obj "BadChange" ["at"] [.int t], .obj "BadKinds" [] [], .obj "LayersFull" ["name"] [.str n], .obj "BadNumber" ["number"] [.int t], .obj "NotBefore" [] [], .obj "BadQuestion" ["what", "at"] [.str w, .int t], .obj "Again" [] [], .obj "Foreign" [] [], .obj "NoPage" ["name"] [p], .obj "NoFactor" ["what"] [.str w], .obj "NotUniform" [] [], .obj "NotDecided" [] [], .obj "Undetermined" [] [], .obj "BadPaper" ["line", "what"] [.int t, .str w], .obj "NotDone" [] [], .obj "Unasked" [] [], .obj "TooMany" ["most"] [.int t], .obj "NotEnough" [] [], .obj "KnownRow" ["name", "row"] [.str n, r], .obj "BadFoe" ["what"] [.str w], .obj "BadPolicy" [] [], .obj "BadDead" ["at"] [.int t], .obj "NoSpread" ["what"] [.str w], .obj "NotInDoubt" ["point"] [r], .obj "BadDeed" [] [], .obj "NotNewest" [] [], .obj "NothingCut" [] [], .obj "Unfit" ["name"] [.str n], .obj "NotKnown" ["at"] [.int t], .obj "BadStory" ["line"] [.int t]]
def clsP : PV → String
  | .obj c _ _ => c
  | _ => ""
def isObj : PV → Bool
  | .obj _ _ _ => true
  | _ => false
theorem errL_cls (w n : Str) (t : Int) (r p : PV) : (errL w n t r p).map clsP = ERM := rfl
theorem errL_obj (w n : Str) (t : Int) (r p : PV) : (errL w n t r p).all isObj = true := rfl
theorem errL_len (w n : Str) (t : Int) (r p : PV) : (errL w n t r p).length = 45 := rfl
theorem errL_at (w n : Str) (t : Int) (r p : PV) {k : Nat} (hk : k < 45) : ∃ c ns ps, (errL w n t r p)[k]? = some (.obj c ns ps) ∧ ERM[k]? = some c := by
  have hl := errL_len w n t r p
  have h1 : (errL w n t r p)[k]? = some ((errL w n t r p)[k]'(by omega)) := List.getElem?_eq_getElem (by omega)
  have h2 := List.all_eq_true.mp (errL_obj w n t r p) _ (List.getElem_mem (by omega : k < (errL w n t r p).length))
  have h3 := errL_cls w n t r p
  generalize (errL w n t r p)[k]'(by omega) = q at h1 h2
  cases q <;> first | (cases h2; done) | skip
  rename_i c ns ps
  refine ⟨c, ns, ps, h1, ?_⟩
  rw [← h3, List.getElem?_map, h1]
  rfl
theorem one_at {k : Nat} (hk : k < 45) : (List.range 45).filter (fun j => decide (ERM[k]? = ERM[j]?)) = [k] := by
  have h : (List.range 45).all (fun k => decide ((List.range 45).filter (fun j => decide (ERM[k]? = ERM[j]?)) = [k])) = true := by decide +kernel
  exact of_decide_eq_true (List.all_eq_true.mp h k (List.mem_range.mpr hk))
def hitP (c : String) : PV → Bool
  | .int j => decide (some c = ERM[j.toNat]?)
  | _ => false
theorem hits {k : Nat} {c : String} (hk : k < 45) (hc : ERM[k]? = some c) : (intsP 0 45).filter (hitP c) = [.int (k : Int)] := by
  unfold intsP
  rw [List.filter_map]
  have e : (hitP c ∘ fun i : Nat => PV.int (0 + (i : Int))) = fun j => decide (ERM[k]? = ERM[j]?) := by
    funext j
    simp [hitP, hc]
  rw [e, one_at hk]
  simp
theorem erm_mem {k : Nat} {c : String} (hc : ERM[k]? = some c) : c ∈ ERM := List.mem_of_getElem? hc
theorem erm_len : ERM.length = 45 := rfl
theorem turn {sc : PV} {w n : Str} {t : Int} {r p : PV} {u9 u10 u11 : Option PV} {b : BS} {k : Nat} (hk : k < 45) : ∃ v9 v10 v11, L_law_1 [some (sc), some (.mu 0), some (.str w), some (.int (k : Int)), some (.str n), some (.int t), some (r), some (p), some (.lst (errL w n t r p)), u9, u10, u11, none] [bagC b] = .nx [some (sc), some (.mu 0), some (.str w), some (.int (k : Int)), some (.str n), some (.int t), some (r), some (p), some (.lst (errL w n t r p)), v9, v10, v11, none] [bagC b] := by
  obtain ⟨c, ns, ps, e1, e2⟩ := errL_at w n t r p hk
  have hc := erm_mem e2
  have ha : atI (errL w n t r p) (k : Int) = some (.obj c ns ps) := atI_get (by omega) (by rw [Int.toNat_natCast]; exact e1)
  have hA : isAll c = some true := if_pos hc
  have vc := v_classes (c := c) (ns := ns) (ps := ps) (S := [bagC b]) hc
  have hl := errL_len w n t r p
  have lp : ∀ e : Fx.Env, e = [some (sc), some (.mu 0), some (.str w), some (.int (k : Int)), some (.str n), some (.int t), some (r), some (p), some (.lst (errL w n t r p)), some (.obj c ns ps), some (.lst (ERM.map fun C => .bl (decide (c = C)))), none, none] → lcLoop (NameG 11) (TestE (OpE fIx (VarE 10) (VarE 11))) (VarE 11) [] e (intsP 0 45) [] [bagC b] = .ok [.int (k : Int)] [bagC b] := fun e he => by
    have := lcLoop_filter (S := [bagC b]) (ε := e) (g := NameG 11) (mc := TestE (OpE fIx (VarE 10) (VarE 11))) (me := VarE 11) (pins := []) (hitP c) (fun x => x) rfl (intsP 0 45) [] (fun x hx => by
      obtain ⟨j, hj, rfl⟩ := List.mem_map.mp hx
      have hj' := List.mem_range.mp hj
      obtain ⟨C, hC⟩ : ∃ C, ERM[j]? = some C := ⟨_, List.getElem?_eq_getElem (by rw [erm_len]; exact hj')⟩
      have a1 : atI (ERM.map fun C => PV.bl (decide (c = C))) (0 + (j : Int)) = some (.bl (decide (c = C))) := atI_get (by omega) (by rw [Int.zero_add, Int.toNat_natCast, List.getElem?_map, hC]; rfl)
      subst he
      refine ⟨_, rfl, ?_, fun _ => rfl⟩
      have hh : hitP c (.int (0 + (j : Int))) = decide (c = C) := by simp [hitP, hC]
      rw [hh]
      simp only [TestE_ap, OpE_ap, VarE_ap, List.set_cons_zero, List.set_cons_succ, List.getElem?_cons_succ, List.getElem?_cons_zero, bind_ok, fIx_lst, a1, lift_some, truth_bl]) (by simp [intsP])
    rw [this, hits hk e2]
    simp
  have hd : dat [bagC b] (.lst [.int (k : Int)]) = some (.list [.int (k : Int)]) := by simp [dat, dats]
  have hf : Fit (.list [.int (k : Int)]) := fit_intsL (ns := [(k : Int)]) (fun z hz => by simp at hz; omega) (show 1 ≤ 9000 by decide)
  have ne : fNeA [bagC b] (.lst [.int (k : Int)]) (.lst [.int (k : Int)]) = some (.bl false) := fNe_refl hd hf
  have h11 : ∀ u : Option PV, wipeP [some (sc), some (.mu 0), some (.str w), some (.int (k : Int)), some (.str n), some (.int t), some (r), some (p), some (.lst (errL w n t r p)), some (.obj c ns ps), some (.lst (ERM.map fun C => .bl (decide (c = C)))), u, none] [11] = [some (sc), some (.mu 0), some (.str w), some (.int (k : Int)), some (.str n), some (.int t), some (r), some (p), some (.lst (errL w n t r p)), some (.obj c ns ps), some (.lst (ERM.map fun C => .bl (decide (c = C)))), none, none] := fun u => rfl
  refine ⟨some (.obj c ns ps), some (.lst (ERM.map fun C => .bl (decide (c = C)))), u11, ?_⟩
  simp [L_law_1, ha, hA, vc, hl, lp, h11, ne]
end K99
namespace K99
open PySem L2 Co Fx
theorem ra_eq {ma mb : Fx.Env → Sta → Out PV} {mr : Fx.Env → Sta → Out (List PV)} {p : PV} {xs : List PV} {ε : Fx.Env} {S : Sta} (h2 : mb ε S = .ok p S) (h1 : ma ε S = .ok p S) (h3 : fEqA S p p = some (.bl true)) (hr : mr ε S = .ok xs S) : ConsA (OpE fEqA ma mb) mr ε S = .ok (.bl true :: xs) S := by simp [h1, h2, h3, hr]
def trueL : List PV := [.bl true, .bl true, .bl true, .bl true, .bl true, .bl true, .bl true, .bl true, .bl true, .bl true, .bl true, .bl true, .bl true, .bl true, .bl true, .bl true, .bl true, .bl true, .bl true, .bl true, .bl true, .bl true, .bl true, .bl true, .bl true, .bl true, .bl true, .bl true, .bl true, .bl true, .bl true, .bl true, .bl true, .bl true, .bl true]
theorem v_all {S : Sta} : fAll [.lst trueL] S = .ok (.bl true) S := rfl
theorem ok_m_law {ns : List Int} (hl : ns.length ≤ 63) : ∃ T, m_law [.kls (ns.map .int)] [] = .ok (.bl true) T := by
  obtain ⟨b, eb, kb⟩ := v_bag hl
  unfold m_law
  refine done_law rfl ?_
  obtain ⟨sc, hsc⟩ : ∃ sc : PV, sc = .kls (ns.map .int) := ⟨_, rfl⟩
  rw [← hsc] at eb ⊢
  refine done_seq (ε' := [some (sc), some (.mu 0), none, none, none, none, none, none, none, none, none, none, none]) (S' := [bagC b]) (by simp [eb]) ?_
  obtain ⟨w, b1, e1, w1, w2, k1⟩ := w_word (sc := sc) (n := 100) (kb.less (by omega))
  refine done_seq (ε' := [some (sc), some (.mu 0), some (.str w), none, none, none, none, none, none, none, none, none, none]) (S' := [bagC b1]) (by rw [SetS_ap, e1]; rfl) ?_
  have hx : (Str.ofString "x").length = 1 := by decide +kernel
  obtain ⟨n, hn⟩ : ∃ n : Str, n = w ++ Str.ofString "x" := ⟨_, rfl⟩
  have wl : w.length + 1 ≤ 100000 := by omega
  refine done_seq (ε' := [some (sc), some (.mu 0), some (.str w), none, some (.str n), none, none, none, none, none, none, none, none]) (S' := [bagC b1]) (by simp [hx, wl, hn]) ?_
  obtain ⟨t0, b2, e2, _, _, k2⟩ := v_drawE (n := 99) (lim := 1000000000000000000000000000000) [] k1 (by decide) (by decide)
  obtain ⟨t, ht⟩ : ∃ t : Int, t = t0 - 100000000000000000000000000000 := ⟨_, rfl⟩
  refine done_seq (ε' := [some (sc), some (.mu 0), some (.str w), none, some (.str n), some (.int t), none, none, none, none, none, none, none]) (S' := [bagC b2]) (by simp [e2, ht]) ?_
  obtain ⟨is, b3, e3, r1, r2, k3⟩ := w_row (sc := sc) (u2 := some (.str w)) (u4 := some (.str n)) (u5 := some (.int t)) (n := 95) k2
  refine done_seq (ε' := [some (sc), some (.mu 0), some (.str w), none, some (.str n), some (.int t), some (.tup (is.map .int)), none, none, none, none, none, none]) (S' := [bagC b3]) (by rw [SetS_ap, e3]; rfl) ?_
  obtain ⟨a4, b4, e4, p4, q4, k4⟩ := v_drawE (n := 94) (lim := 3) [] k3 (by decide) (by decide)
  obtain ⟨a5, b5, e5, p5, q5, k5⟩ := v_drawE (n := 93) (lim := 3) [] k4 (by decide) (by decide)
  refine done_seq (ε' := [some (sc), some (.mu 0), some (.str w), none, some (.str n), some (.int t), some (.tup (is.map .int)), some (.tup [.str n, .int a4, .int a5, .tup (is.map .int)]), none, none, none, none, none]) (S' := [bagC b5]) (by simp [e4, e5]) ?_
  have q1 : fEqA [bagC b5] (.str w) (.str w) = some (.bl true) := by simp
  have q2 : fEqA [bagC b5] (.str n) (.str n) = some (.bl true) := by simp
  have q3 : fEqA [bagC b5] (.int t) (.int t) = some (.bl true) := by simp
  have hi : ∀ i ∈ is, i.natAbs < 10 ^ 40 := fun i h => by have := r2 i h; omega
  have q4' : fEqA [bagC b5] (.tup (is.map .int)) (.tup (is.map .int)) = some (.bl true) := by
    have hd : dat [bagC b5] (.tup (is.map .int)) = some (.tuple (is.map .int)) := by simp only [dat, dats_ints, Option.map_some]
    exact fEq_refl hd (fit_intsT hi (by omega))
  have q5' : fEqA [bagC b5] (.tup [.str n, .int a4, .int a5, .tup (is.map .int)]) (.tup [.str n, .int a4, .int a5, .tup (is.map .int)]) = some (.bl true) := by
    have hd : dat [bagC b5] (.tup [.str n, .int a4, .int a5, .tup (is.map .int)]) = some (.tuple [.str n, .int a4, .int a5, .tuple (is.map .int)]) := by simp only [dat, dats, dats_ints, Option.map_some]
    refine fEq_refl hd (fit_T (k := 100) (fun x hx => ?_) (fun x hx => ?_) (fun x hx => ?_) (show 4 * (100 + 1) ≤ 10000 by decide))
    · simp only [List.mem_cons, List.not_mem_nil, or_false] at hx
      rcases hx with rfl | rfl | rfl | rfl
      · simp only [modest, List.all_eq_true, decide_eq_true_eq]
        intro c hc
        rw [hn] at hc
        have hc' : c ∈ w.cps.toList ++ (Str.ofString "x").cps.toList := by
          have e : (w ++ Str.ofString "x").cps = w.cps ++ (Str.ofString "x").cps := rfl
          rw [e, Array.toList_append] at hc
          exact hc
        rcases List.mem_append.mp hc' with hc | hc
        · exact w2 c hc
        · have hall : ∀ c ∈ (Str.ofString "x").cps.toList, c < 1114112 := by decide +kernel
          exact hall c hc
      · simp only [modest, decide_eq_true_eq]; omega
      · simp only [modest, decide_eq_true_eq]; omega
      · simp only [modest]; exact modests_ints hi
    · simp only [List.mem_cons, List.not_mem_nil, or_false] at hx
      rcases hx with rfl | rfl | rfl | rfl
      · simp [PyData.depth]
      · simp [PyData.depth]
      · simp [PyData.depth]
      · simp [PyData.depth, depth_ints]
    · simp only [List.mem_cons, List.not_mem_nil, or_false] at hx
      rcases hx with rfl | rfl | rfl | rfl
      · have hnl : n.length ≤ 10 := by
          rw [hn]
          show (w.cps ++ (Str.ofString "x").cps).size ≤ 10
          rw [Array.size_append]
          have h1 : w.cps.size = w.length := rfl
          have h2 : (Str.ofString "x").cps.size = (Str.ofString "x").length := rfl
          omega
        have h3 : n.cps.size = n.length := rfl
        simp [PyData.bulk]
        omega
      · simp [PyData.bulk]
      · simp [PyData.bulk]
      · simp [PyData.bulk, bulk_ints]; omega
  generalize hr : PV.tup (is.map .int) = r at q4' q5' ⊢
  generalize hp : PV.tup [.str n, .int a4, .int a5, r] = p at q5' ⊢
  refine done_seq (ε' := [some (sc), some (.mu 0), some (.str w), none, some (.str n), some (.int t), some (r), some (p), some (.lst (errL w n t r p)), none, none, none, none]) (S' := [bagC b5]) (by kernel_rfl) ?_
  refine done_forN (S1 := [bagC b5]) (it := ⟨intsP 0 45, []⟩) (fun xs ε S => ∃ u3 u9 u10 u11 : Option PV, ε = [some (sc), some (.mu 0), some (.str w), u3, some (.str n), some (.int t), some (r), some (p), some (.lst (errL w n t r p)), u9, u10, u11, none] ∧ S = [bagC b5]) (by simp [errL_len]) ⟨none, none, none, none, rfl, rfl⟩ (fun _ _ _ _ => rfl) ?_ ?_
  · rintro x xs ε S hx ⟨u3, u9, u10, u11, rfl, rfl⟩
    obtain ⟨j, hj, rfl⟩ := List.mem_map.mp hx
    have hj' := List.mem_range.mp hj
    obtain ⟨v9, v10, v11, e⟩ := turn (sc := sc) (w := w) (n := n) (t := t) (r := r) (p := p) (u9 := u9) (u10 := u10) (u11 := u11) (b := b5) hj'
    rw [Int.zero_add]
    exact ⟨_, _, rfl, nx_end e ⟨_, v9, v10, v11, rfl, rfl⟩⟩
  · rintro ε S ⟨u3, u9, u10, u11, rfl, rfl⟩
    refine done_seq (ε' := [some (sc), some (.mu 0), some (.str w), u3, some (.str n), some (.int t), some (r), some (p), some (.lst (errL w n t r p)), u9, u10, u11, some (.lst trueL)]) (S' := [bagC b5]) ?_ ?_
    · have key : ∀ (mr : Fx.Env → Sta → Out (List PV)) (xs : List PV) (ε : Fx.Env) (S : Sta), mr ε S = .ok xs S → xs.length ≤ 100000 → SetS 12 (LstE mr) ε S = .nx (ε.set 12 (some (.lst xs))) S := fun mr xs ε S h1 h2 => by simp [h1, h2]
      refine key _ trueL _ _ ?_ (show trueL.length ≤ 100000 by decide)
      unfold trueL
      repeat (refine ra_eq rfl (by kernel_rfl) (by assumption) ?_)
      rfl
    · exact done_end (S' := [bagC b5]) (by simp [v_all, -fAll_ap])
end K99
namespace K99
open PySem PySem.Spec PyProof.Rows L2 Co Fx
theorem all_mk {P : Program} {w : World} {K : PySem.W.Frag} {mg : Str → Option Value} {fa : Addr} (hfa : mg "law" = some (.ref fa))
    {f_BadRow___init__ : Addr}
    {f_BadBox___init__ : Addr}
    {f_BadColumn___init__ : Addr}
    {f_BadText___init__ : Addr}
    {f_BadPage___init__ : Addr}
    {f_BadIndex___init__ : Addr}
    {f_BadLayer___init__ : Addr}
    {f_NoIndex___init__ : Addr}
    {f_BadTable___init__ : Addr}
    {f_NoLayer___init__ : Addr}
    {f_BadStore___init__ : Addr}
    {f_NoTable___init__ : Addr}
    {f_BadChange___init__ : Addr}
    {f_LayersFull___init__ : Addr}
    {f_BadNumber___init__ : Addr}
    {f_BadQuestion___init__ : Addr}
    {f_NoPage___init__ : Addr}
    {f_NoFactor___init__ : Addr}
    {f_BadPaper___init__ : Addr}
    {f_TooMany___init__ : Addr}
    {f_KnownRow___init__ : Addr}
    {f_BadFoe___init__ : Addr}
    {f_BadDead___init__ : Addr}
    {f_NoSpread___init__ : Addr}
    {f_NotInDoubt___init__ : Addr}
    {f_Unfit___init__ : Addr}
    {f_NotKnown___init__ : Addr}
    {f_BadStory___init__ : Addr}
    {f__law_bag : Addr}
    {f__law_draw : Addr}
    {f__law_classes : Addr}
    {f_law : Addr}
    {f_FetchError : Addr}
    {f_BadWidths : Addr}
    {f_BadRow : Addr}
    {f_BadBox : Addr}
    {f_UnlikeBoxes : Addr}
    {f_BadColumn : Addr}
    {f_BadData : Addr}
    {f_BadText : Addr}
    {f_BadPage : Addr}
    {f_BadIndex : Addr}
    {f_BadLayer : Addr}
    {f_NoIndex : Addr}
    {f_BadTable : Addr}
    {f_NoLayer : Addr}
    {f_BadStore : Addr}
    {f_NoTable : Addr}
    {f_BadChange : Addr}
    {f_BadKinds : Addr}
    {f_LayersFull : Addr}
    {f_BadNumber : Addr}
    {f_NotBefore : Addr}
    {f_BadQuestion : Addr}
    {f_Again : Addr}
    {f_Foreign : Addr}
    {f_NoPage : Addr}
    {f_NoFactor : Addr}
    {f_NotUniform : Addr}
    {f_NotDecided : Addr}
    {f_Undetermined : Addr}
    {f_BadPaper : Addr}
    {f_NotDone : Addr}
    {f_Unasked : Addr}
    {f_TooMany : Addr}
    {f_NotEnough : Addr}
    {f_KnownRow : Addr}
    {f_BadFoe : Addr}
    {f_BadPolicy : Addr}
    {f_BadDead : Addr}
    {f_NoSpread : Addr}
    {f_NotInDoubt : Addr}
    {f_BadDeed : Addr}
    {f_NotNewest : Addr}
    {f_NothingCut : Addr}
    {f_Unfit : Addr}
    {f_NotKnown : Addr}
    {f_BadStory : Addr}
    (z_ValueError : mg "ValueError" = none)
    (z_abs : mg "abs" = none)
    (z_all : mg "all" = none)
    (z_int : mg "int" = none)
    (z_isinstance : mg "isinstance" = none)
    (z_len : mg "len" = none)
    (z_range : mg "range" = none)
    (z_tuple : mg "tuple" = none)
    (h_BadRow___init__ : ∃ fd, Fun K "__init__" "BadRow.__init__" s_BadRow___init__ f_BadRow___init__ fd)
    (h_BadBox___init__ : ∃ fd, Fun K "__init__" "BadBox.__init__" s_BadBox___init__ f_BadBox___init__ fd)
    (h_BadColumn___init__ : ∃ fd, Fun K "__init__" "BadColumn.__init__" s_BadColumn___init__ f_BadColumn___init__ fd)
    (h_BadText___init__ : ∃ fd, Fun K "__init__" "BadText.__init__" s_BadText___init__ f_BadText___init__ fd)
    (h_BadPage___init__ : ∃ fd, Fun K "__init__" "BadPage.__init__" s_BadPage___init__ f_BadPage___init__ fd)
    (h_BadIndex___init__ : ∃ fd, Fun K "__init__" "BadIndex.__init__" s_BadIndex___init__ f_BadIndex___init__ fd)
    (h_BadLayer___init__ : ∃ fd, Fun K "__init__" "BadLayer.__init__" s_BadLayer___init__ f_BadLayer___init__ fd)
    (h_NoIndex___init__ : ∃ fd, Fun K "__init__" "NoIndex.__init__" s_NoIndex___init__ f_NoIndex___init__ fd)
    (h_BadTable___init__ : ∃ fd, Fun K "__init__" "BadTable.__init__" s_BadTable___init__ f_BadTable___init__ fd)
    (h_NoLayer___init__ : ∃ fd, Fun K "__init__" "NoLayer.__init__" s_NoLayer___init__ f_NoLayer___init__ fd)
    (h_BadStore___init__ : ∃ fd, Fun K "__init__" "BadStore.__init__" s_BadStore___init__ f_BadStore___init__ fd)
    (h_NoTable___init__ : ∃ fd, Fun K "__init__" "NoTable.__init__" s_NoTable___init__ f_NoTable___init__ fd)
    (h_BadChange___init__ : ∃ fd, Fun K "__init__" "BadChange.__init__" s_BadChange___init__ f_BadChange___init__ fd)
    (h_LayersFull___init__ : ∃ fd, Fun K "__init__" "LayersFull.__init__" s_LayersFull___init__ f_LayersFull___init__ fd)
    (h_BadNumber___init__ : ∃ fd, Fun K "__init__" "BadNumber.__init__" s_BadNumber___init__ f_BadNumber___init__ fd)
    (h_BadQuestion___init__ : ∃ fd, Fun K "__init__" "BadQuestion.__init__" s_BadQuestion___init__ f_BadQuestion___init__ fd)
    (h_NoPage___init__ : ∃ fd, Fun K "__init__" "NoPage.__init__" s_NoPage___init__ f_NoPage___init__ fd)
    (h_NoFactor___init__ : ∃ fd, Fun K "__init__" "NoFactor.__init__" s_NoFactor___init__ f_NoFactor___init__ fd)
    (h_BadPaper___init__ : ∃ fd, Fun K "__init__" "BadPaper.__init__" s_BadPaper___init__ f_BadPaper___init__ fd)
    (h_TooMany___init__ : ∃ fd, Fun K "__init__" "TooMany.__init__" s_TooMany___init__ f_TooMany___init__ fd)
    (h_KnownRow___init__ : ∃ fd, Fun K "__init__" "KnownRow.__init__" s_KnownRow___init__ f_KnownRow___init__ fd)
    (h_BadFoe___init__ : ∃ fd, Fun K "__init__" "BadFoe.__init__" s_BadFoe___init__ f_BadFoe___init__ fd)
    (h_BadDead___init__ : ∃ fd, Fun K "__init__" "BadDead.__init__" s_BadDead___init__ f_BadDead___init__ fd)
    (h_NoSpread___init__ : ∃ fd, Fun K "__init__" "NoSpread.__init__" s_NoSpread___init__ f_NoSpread___init__ fd)
    (h_NotInDoubt___init__ : ∃ fd, Fun K "__init__" "NotInDoubt.__init__" s_NotInDoubt___init__ f_NotInDoubt___init__ fd)
    (h_Unfit___init__ : ∃ fd, Fun K "__init__" "Unfit.__init__" s_Unfit___init__ f_Unfit___init__ fd)
    (h_NotKnown___init__ : ∃ fd, Fun K "__init__" "NotKnown.__init__" s_NotKnown___init__ f_NotKnown___init__ fd)
    (h_BadStory___init__ : ∃ fd, Fun K "__init__" "BadStory.__init__" s_BadStory___init__ f_BadStory___init__ fd)
    (a__law_bag : mg "_law_bag" = some (.ref f__law_bag))
    (h__law_bag : ∃ fd, Fun K "_law_bag" "_law_bag" s__law_bag f__law_bag fd)
    (a__law_draw : mg "_law_draw" = some (.ref f__law_draw))
    (h__law_draw : ∃ fd, Fun K "_law_draw" "_law_draw" s__law_draw f__law_draw fd)
    (a__law_classes : mg "_law_classes" = some (.ref f__law_classes))
    (h__law_classes : ∃ fd, Fun K "_law_classes" "_law_classes" s__law_classes f__law_classes fd)
    (a_law : mg "law" = some (.ref f_law))
    (h_law : ∃ fd, Fun K "law" "law" s_law f_law fd ∧ ∀ (s : Shared) (u : Value), BindsTo s fd ⟨[u], []⟩ [("script", u)])
    (a_FetchError : mg "FetchError" = some (.ref f_FetchError))
    (h_FetchError : X0H K f_FetchError)
    (a_BadWidths : mg "BadWidths" = some (.ref f_BadWidths))
    (h_BadWidths : X0H K f_BadWidths)
    (a_BadRow : mg "BadRow" = some (.ref f_BadRow))
    (h_BadRow : XinP K f_BadRow f_BadRow___init__)
    (n_BadRow_row : PySem.W.findIn K (.ref f_BadRow) "row" = some none)
    (a_BadBox : mg "BadBox" = some (.ref f_BadBox))
    (h_BadBox : XinP K f_BadBox f_BadBox___init__)
    (n_BadBox_what : PySem.W.findIn K (.ref f_BadBox) "what" = some none)
    (n_BadBox_at : PySem.W.findIn K (.ref f_BadBox) "at" = some none)
    (a_UnlikeBoxes : mg "UnlikeBoxes" = some (.ref f_UnlikeBoxes))
    (h_UnlikeBoxes : X0H K f_UnlikeBoxes)
    (a_BadColumn : mg "BadColumn" = some (.ref f_BadColumn))
    (h_BadColumn : XinP K f_BadColumn f_BadColumn___init__)
    (n_BadColumn_column : PySem.W.findIn K (.ref f_BadColumn) "column" = some none)
    (a_BadData : mg "BadData" = some (.ref f_BadData))
    (h_BadData : X0H K f_BadData)
    (a_BadText : mg "BadText" = some (.ref f_BadText))
    (h_BadText : XinP K f_BadText f_BadText___init__)
    (n_BadText_place : PySem.W.findIn K (.ref f_BadText) "place" = some none)
    (a_BadPage : mg "BadPage" = some (.ref f_BadPage))
    (h_BadPage : XinP K f_BadPage f_BadPage___init__)
    (n_BadPage_what : PySem.W.findIn K (.ref f_BadPage) "what" = some none)
    (a_BadIndex : mg "BadIndex" = some (.ref f_BadIndex))
    (h_BadIndex : XinP K f_BadIndex f_BadIndex___init__)
    (n_BadIndex_what : PySem.W.findIn K (.ref f_BadIndex) "what" = some none)
    (a_BadLayer : mg "BadLayer" = some (.ref f_BadLayer))
    (h_BadLayer : XinP K f_BadLayer f_BadLayer___init__)
    (n_BadLayer_what : PySem.W.findIn K (.ref f_BadLayer) "what" = some none)
    (n_BadLayer_at : PySem.W.findIn K (.ref f_BadLayer) "at" = some none)
    (a_NoIndex : mg "NoIndex" = some (.ref f_NoIndex))
    (h_NoIndex : XinP K f_NoIndex f_NoIndex___init__)
    (n_NoIndex_index : PySem.W.findIn K (.ref f_NoIndex) "index" = some none)
    (a_BadTable : mg "BadTable" = some (.ref f_BadTable))
    (h_BadTable : XinP K f_BadTable f_BadTable___init__)
    (n_BadTable_what : PySem.W.findIn K (.ref f_BadTable) "what" = some none)
    (n_BadTable_at : PySem.W.findIn K (.ref f_BadTable) "at" = some none)
    (a_NoLayer : mg "NoLayer" = some (.ref f_NoLayer))
    (h_NoLayer : XinP K f_NoLayer f_NoLayer___init__)
    (n_NoLayer_layer : PySem.W.findIn K (.ref f_NoLayer) "layer" = some none)
    (a_BadStore : mg "BadStore" = some (.ref f_BadStore))
    (h_BadStore : XinP K f_BadStore f_BadStore___init__)
    (n_BadStore_what : PySem.W.findIn K (.ref f_BadStore) "what" = some none)
    (n_BadStore_at : PySem.W.findIn K (.ref f_BadStore) "at" = some none)
    (a_NoTable : mg "NoTable" = some (.ref f_NoTable))
    (h_NoTable : XinP K f_NoTable f_NoTable___init__)
    (n_NoTable_name : PySem.W.findIn K (.ref f_NoTable) "name" = some none)
    (a_BadChange : mg "BadChange" = some (.ref f_BadChange))
    (h_BadChange : XinP K f_BadChange f_BadChange___init__)
    (n_BadChange_at : PySem.W.findIn K (.ref f_BadChange) "at" = some none)
    (a_BadKinds : mg "BadKinds" = some (.ref f_BadKinds))
    (h_BadKinds : X0H K f_BadKinds)
    (a_LayersFull : mg "LayersFull" = some (.ref f_LayersFull))
    (h_LayersFull : XinP K f_LayersFull f_LayersFull___init__)
    (n_LayersFull_name : PySem.W.findIn K (.ref f_LayersFull) "name" = some none)
    (a_BadNumber : mg "BadNumber" = some (.ref f_BadNumber))
    (h_BadNumber : XinP K f_BadNumber f_BadNumber___init__)
    (n_BadNumber_number : PySem.W.findIn K (.ref f_BadNumber) "number" = some none)
    (a_NotBefore : mg "NotBefore" = some (.ref f_NotBefore))
    (h_NotBefore : X0H K f_NotBefore)
    (a_BadQuestion : mg "BadQuestion" = some (.ref f_BadQuestion))
    (h_BadQuestion : XinP K f_BadQuestion f_BadQuestion___init__)
    (n_BadQuestion_what : PySem.W.findIn K (.ref f_BadQuestion) "what" = some none)
    (n_BadQuestion_at : PySem.W.findIn K (.ref f_BadQuestion) "at" = some none)
    (a_Again : mg "Again" = some (.ref f_Again))
    (h_Again : X0H K f_Again)
    (a_Foreign : mg "Foreign" = some (.ref f_Foreign))
    (h_Foreign : X0H K f_Foreign)
    (a_NoPage : mg "NoPage" = some (.ref f_NoPage))
    (h_NoPage : XinP K f_NoPage f_NoPage___init__)
    (n_NoPage_name : PySem.W.findIn K (.ref f_NoPage) "name" = some none)
    (a_NoFactor : mg "NoFactor" = some (.ref f_NoFactor))
    (h_NoFactor : XinP K f_NoFactor f_NoFactor___init__)
    (n_NoFactor_what : PySem.W.findIn K (.ref f_NoFactor) "what" = some none)
    (a_NotUniform : mg "NotUniform" = some (.ref f_NotUniform))
    (h_NotUniform : X0H K f_NotUniform)
    (a_NotDecided : mg "NotDecided" = some (.ref f_NotDecided))
    (h_NotDecided : X0H K f_NotDecided)
    (a_Undetermined : mg "Undetermined" = some (.ref f_Undetermined))
    (h_Undetermined : X0H K f_Undetermined)
    (a_BadPaper : mg "BadPaper" = some (.ref f_BadPaper))
    (h_BadPaper : XinP K f_BadPaper f_BadPaper___init__)
    (n_BadPaper_line : PySem.W.findIn K (.ref f_BadPaper) "line" = some none)
    (n_BadPaper_what : PySem.W.findIn K (.ref f_BadPaper) "what" = some none)
    (a_NotDone : mg "NotDone" = some (.ref f_NotDone))
    (h_NotDone : X0H K f_NotDone)
    (a_Unasked : mg "Unasked" = some (.ref f_Unasked))
    (h_Unasked : X0H K f_Unasked)
    (a_TooMany : mg "TooMany" = some (.ref f_TooMany))
    (h_TooMany : XinP K f_TooMany f_TooMany___init__)
    (n_TooMany_most : PySem.W.findIn K (.ref f_TooMany) "most" = some none)
    (a_NotEnough : mg "NotEnough" = some (.ref f_NotEnough))
    (h_NotEnough : X0H K f_NotEnough)
    (a_KnownRow : mg "KnownRow" = some (.ref f_KnownRow))
    (h_KnownRow : XinP K f_KnownRow f_KnownRow___init__)
    (n_KnownRow_name : PySem.W.findIn K (.ref f_KnownRow) "name" = some none)
    (n_KnownRow_row : PySem.W.findIn K (.ref f_KnownRow) "row" = some none)
    (a_BadFoe : mg "BadFoe" = some (.ref f_BadFoe))
    (h_BadFoe : XinP K f_BadFoe f_BadFoe___init__)
    (n_BadFoe_what : PySem.W.findIn K (.ref f_BadFoe) "what" = some none)
    (a_BadPolicy : mg "BadPolicy" = some (.ref f_BadPolicy))
    (h_BadPolicy : X0H K f_BadPolicy)
    (a_BadDead : mg "BadDead" = some (.ref f_BadDead))
    (h_BadDead : XinP K f_BadDead f_BadDead___init__)
    (n_BadDead_at : PySem.W.findIn K (.ref f_BadDead) "at" = some none)
    (a_NoSpread : mg "NoSpread" = some (.ref f_NoSpread))
    (h_NoSpread : XinP K f_NoSpread f_NoSpread___init__)
    (n_NoSpread_what : PySem.W.findIn K (.ref f_NoSpread) "what" = some none)
    (a_NotInDoubt : mg "NotInDoubt" = some (.ref f_NotInDoubt))
    (h_NotInDoubt : XinP K f_NotInDoubt f_NotInDoubt___init__)
    (n_NotInDoubt_point : PySem.W.findIn K (.ref f_NotInDoubt) "point" = some none)
    (a_BadDeed : mg "BadDeed" = some (.ref f_BadDeed))
    (h_BadDeed : X0H K f_BadDeed)
    (a_NotNewest : mg "NotNewest" = some (.ref f_NotNewest))
    (h_NotNewest : X0H K f_NotNewest)
    (a_NothingCut : mg "NothingCut" = some (.ref f_NothingCut))
    (h_NothingCut : X0H K f_NothingCut)
    (a_Unfit : mg "Unfit" = some (.ref f_Unfit))
    (h_Unfit : XinP K f_Unfit f_Unfit___init__)
    (n_Unfit_name : PySem.W.findIn K (.ref f_Unfit) "name" = some none)
    (a_NotKnown : mg "NotKnown" = some (.ref f_NotKnown))
    (h_NotKnown : XinP K f_NotKnown f_NotKnown___init__)
    (n_NotKnown_at : PySem.W.findIn K (.ref f_NotKnown) "at" = some none)
    (a_BadStory : mg "BadStory" = some (.ref f_BadStory))
    (h_BadStory : XinP K f_BadStory f_BadStory___init__)
    (n_BadStory_line : PySem.W.findIn K (.ref f_BadStory) "line" = some none)
    (cg : PySem.W.specialIn K (.builtin "object.__class__") "__get__" = some (some (.builtin "getset_descriptor.__get__")))
    (ct : PySem.W.takesIn K (.builtin "object.__class__") = some true)
    (kl_BadWidths : PySem.W.findIn K (.ref f_BadWidths) "__class__" = some (some (.builtin "object.__class__")))
    (mr_BadWidths : MroIs K f_BadWidths f_FetchError)
    (kl_BadRow : PySem.W.findIn K (.ref f_BadRow) "__class__" = some (some (.builtin "object.__class__")))
    (mr_BadRow : MroIs K f_BadRow f_FetchError)
    (kl_BadBox : PySem.W.findIn K (.ref f_BadBox) "__class__" = some (some (.builtin "object.__class__")))
    (mr_BadBox : MroIs K f_BadBox f_FetchError)
    (kl_UnlikeBoxes : PySem.W.findIn K (.ref f_UnlikeBoxes) "__class__" = some (some (.builtin "object.__class__")))
    (mr_UnlikeBoxes : MroIs K f_UnlikeBoxes f_FetchError)
    (kl_BadColumn : PySem.W.findIn K (.ref f_BadColumn) "__class__" = some (some (.builtin "object.__class__")))
    (mr_BadColumn : MroIs K f_BadColumn f_FetchError)
    (kl_BadData : PySem.W.findIn K (.ref f_BadData) "__class__" = some (some (.builtin "object.__class__")))
    (mr_BadData : MroIs K f_BadData f_FetchError)
    (kl_BadText : PySem.W.findIn K (.ref f_BadText) "__class__" = some (some (.builtin "object.__class__")))
    (mr_BadText : MroIs K f_BadText f_FetchError)
    (kl_BadPage : PySem.W.findIn K (.ref f_BadPage) "__class__" = some (some (.builtin "object.__class__")))
    (mr_BadPage : MroIs K f_BadPage f_FetchError)
    (kl_BadIndex : PySem.W.findIn K (.ref f_BadIndex) "__class__" = some (some (.builtin "object.__class__")))
    (mr_BadIndex : MroIs K f_BadIndex f_FetchError)
    (kl_BadLayer : PySem.W.findIn K (.ref f_BadLayer) "__class__" = some (some (.builtin "object.__class__")))
    (mr_BadLayer : MroIs K f_BadLayer f_FetchError)
    (kl_NoIndex : PySem.W.findIn K (.ref f_NoIndex) "__class__" = some (some (.builtin "object.__class__")))
    (mr_NoIndex : MroIs K f_NoIndex f_FetchError)
    (kl_BadTable : PySem.W.findIn K (.ref f_BadTable) "__class__" = some (some (.builtin "object.__class__")))
    (mr_BadTable : MroIs K f_BadTable f_FetchError)
    (kl_NoLayer : PySem.W.findIn K (.ref f_NoLayer) "__class__" = some (some (.builtin "object.__class__")))
    (mr_NoLayer : MroIs K f_NoLayer f_FetchError)
    (kl_BadStore : PySem.W.findIn K (.ref f_BadStore) "__class__" = some (some (.builtin "object.__class__")))
    (mr_BadStore : MroIs K f_BadStore f_FetchError)
    (kl_NoTable : PySem.W.findIn K (.ref f_NoTable) "__class__" = some (some (.builtin "object.__class__")))
    (mr_NoTable : MroIs K f_NoTable f_FetchError)
    (kl_BadChange : PySem.W.findIn K (.ref f_BadChange) "__class__" = some (some (.builtin "object.__class__")))
    (mr_BadChange : MroIs K f_BadChange f_FetchError)
    (kl_BadKinds : PySem.W.findIn K (.ref f_BadKinds) "__class__" = some (some (.builtin "object.__class__")))
    (mr_BadKinds : MroIs K f_BadKinds f_FetchError)
    (kl_LayersFull : PySem.W.findIn K (.ref f_LayersFull) "__class__" = some (some (.builtin "object.__class__")))
    (mr_LayersFull : MroIs K f_LayersFull f_FetchError)
    (kl_BadNumber : PySem.W.findIn K (.ref f_BadNumber) "__class__" = some (some (.builtin "object.__class__")))
    (mr_BadNumber : MroIs K f_BadNumber f_FetchError)
    (kl_NotBefore : PySem.W.findIn K (.ref f_NotBefore) "__class__" = some (some (.builtin "object.__class__")))
    (mr_NotBefore : MroIs K f_NotBefore f_FetchError)
    (kl_BadQuestion : PySem.W.findIn K (.ref f_BadQuestion) "__class__" = some (some (.builtin "object.__class__")))
    (mr_BadQuestion : MroIs K f_BadQuestion f_FetchError)
    (kl_Again : PySem.W.findIn K (.ref f_Again) "__class__" = some (some (.builtin "object.__class__")))
    (mr_Again : MroIs K f_Again f_FetchError)
    (kl_Foreign : PySem.W.findIn K (.ref f_Foreign) "__class__" = some (some (.builtin "object.__class__")))
    (mr_Foreign : MroIs K f_Foreign f_FetchError)
    (kl_NoPage : PySem.W.findIn K (.ref f_NoPage) "__class__" = some (some (.builtin "object.__class__")))
    (mr_NoPage : MroIs K f_NoPage f_FetchError)
    (kl_NoFactor : PySem.W.findIn K (.ref f_NoFactor) "__class__" = some (some (.builtin "object.__class__")))
    (mr_NoFactor : MroIs K f_NoFactor f_FetchError)
    (kl_NotUniform : PySem.W.findIn K (.ref f_NotUniform) "__class__" = some (some (.builtin "object.__class__")))
    (mr_NotUniform : MroIs K f_NotUniform f_FetchError)
    (kl_NotDecided : PySem.W.findIn K (.ref f_NotDecided) "__class__" = some (some (.builtin "object.__class__")))
    (mr_NotDecided : MroIs K f_NotDecided f_FetchError)
    (kl_Undetermined : PySem.W.findIn K (.ref f_Undetermined) "__class__" = some (some (.builtin "object.__class__")))
    (mr_Undetermined : MroIs K f_Undetermined f_FetchError)
    (kl_BadPaper : PySem.W.findIn K (.ref f_BadPaper) "__class__" = some (some (.builtin "object.__class__")))
    (mr_BadPaper : MroIs K f_BadPaper f_FetchError)
    (kl_NotDone : PySem.W.findIn K (.ref f_NotDone) "__class__" = some (some (.builtin "object.__class__")))
    (mr_NotDone : MroIs K f_NotDone f_FetchError)
    (kl_Unasked : PySem.W.findIn K (.ref f_Unasked) "__class__" = some (some (.builtin "object.__class__")))
    (mr_Unasked : MroIs K f_Unasked f_FetchError)
    (kl_TooMany : PySem.W.findIn K (.ref f_TooMany) "__class__" = some (some (.builtin "object.__class__")))
    (mr_TooMany : MroIs K f_TooMany f_FetchError)
    (kl_NotEnough : PySem.W.findIn K (.ref f_NotEnough) "__class__" = some (some (.builtin "object.__class__")))
    (mr_NotEnough : MroIs K f_NotEnough f_FetchError)
    (kl_KnownRow : PySem.W.findIn K (.ref f_KnownRow) "__class__" = some (some (.builtin "object.__class__")))
    (mr_KnownRow : MroIs K f_KnownRow f_FetchError)
    (kl_BadFoe : PySem.W.findIn K (.ref f_BadFoe) "__class__" = some (some (.builtin "object.__class__")))
    (mr_BadFoe : MroIs K f_BadFoe f_FetchError)
    (kl_BadPolicy : PySem.W.findIn K (.ref f_BadPolicy) "__class__" = some (some (.builtin "object.__class__")))
    (mr_BadPolicy : MroIs K f_BadPolicy f_FetchError)
    (kl_BadDead : PySem.W.findIn K (.ref f_BadDead) "__class__" = some (some (.builtin "object.__class__")))
    (mr_BadDead : MroIs K f_BadDead f_FetchError)
    (kl_NoSpread : PySem.W.findIn K (.ref f_NoSpread) "__class__" = some (some (.builtin "object.__class__")))
    (mr_NoSpread : MroIs K f_NoSpread f_FetchError)
    (kl_NotInDoubt : PySem.W.findIn K (.ref f_NotInDoubt) "__class__" = some (some (.builtin "object.__class__")))
    (mr_NotInDoubt : MroIs K f_NotInDoubt f_FetchError)
    (kl_BadDeed : PySem.W.findIn K (.ref f_BadDeed) "__class__" = some (some (.builtin "object.__class__")))
    (mr_BadDeed : MroIs K f_BadDeed f_FetchError)
    (kl_NotNewest : PySem.W.findIn K (.ref f_NotNewest) "__class__" = some (some (.builtin "object.__class__")))
    (mr_NotNewest : MroIs K f_NotNewest f_FetchError)
    (kl_NothingCut : PySem.W.findIn K (.ref f_NothingCut) "__class__" = some (some (.builtin "object.__class__")))
    (mr_NothingCut : MroIs K f_NothingCut f_FetchError)
    (kl_Unfit : PySem.W.findIn K (.ref f_Unfit) "__class__" = some (some (.builtin "object.__class__")))
    (mr_Unfit : MroIs K f_Unfit f_FetchError)
    (kl_NotKnown : PySem.W.findIn K (.ref f_NotKnown) "__class__" = some (some (.builtin "object.__class__")))
    (mr_NotKnown : MroIs K f_NotKnown f_FetchError)
    (kl_BadStory : PySem.W.findIn K (.ref f_BadStory) "__class__" = some (some (.builtin "object.__class__")))
    (mr_BadStory : MroIs K f_BadStory f_FetchError)
    (nd : [f_FetchError, f_BadWidths, f_BadRow, f_BadBox, f_UnlikeBoxes, f_BadColumn, f_BadData, f_BadText, f_BadPage, f_BadIndex, f_BadLayer, f_NoIndex, f_BadTable, f_NoLayer, f_BadStore, f_NoTable, f_BadChange, f_BadKinds, f_LayersFull, f_BadNumber, f_NotBefore, f_BadQuestion, f_Again, f_Foreign, f_NoPage, f_NoFactor, f_NotUniform, f_NotDecided, f_Undetermined, f_BadPaper, f_NotDone, f_Unasked, f_TooMany, f_NotEnough, f_KnownRow, f_BadFoe, f_BadPolicy, f_BadDead, f_NoSpread, f_NotInDoubt, f_BadDeed, f_NotNewest, f_NothingCut, f_Unfit, f_NotKnown, f_BadStory].Nodup)
    (ga_BadWidths : GaH K f_BadWidths)
    (ga_UnlikeBoxes : GaH K f_UnlikeBoxes)
    (ga_BadData : GaH K f_BadData)
    (ga_BadKinds : GaH K f_BadKinds)
    (ga_NotBefore : GaH K f_NotBefore)
    (ga_Again : GaH K f_Again)
    (ga_Foreign : GaH K f_Foreign)
    (ga_NotUniform : GaH K f_NotUniform)
    (ga_NotDecided : GaH K f_NotDecided)
    (ga_Undetermined : GaH K f_Undetermined)
    (ga_NotDone : GaH K f_NotDone)
    (ga_Unasked : GaH K f_Unasked)
    (ga_NotEnough : GaH K f_NotEnough)
    (ga_BadPolicy : GaH K f_BadPolicy)
    (ga_BadDeed : GaH K f_BadDeed)
    (ga_NotNewest : GaH K f_NotNewest)
    (ga_NothingCut : GaH K f_NothingCut) :
    ∃ fd : FuncData, (∀ (s : Shared) (u : Value), BindsTo s fd ⟨[u], []⟩ [("script", u)]) ∧ ∀ base : Heap, K.In base → base.Ns mainGlobals mg → FnG P w K mg base CX0 3 fa fd ["script"] (spScr K) := by
  have e := hfa.symm.trans a_law
  cases e
  obtain ⟨fd_BadRow___init__, F_BadRow___init__⟩ := h_BadRow___init__
  obtain ⟨fd_BadBox___init__, F_BadBox___init__⟩ := h_BadBox___init__
  obtain ⟨fd_BadColumn___init__, F_BadColumn___init__⟩ := h_BadColumn___init__
  obtain ⟨fd_BadText___init__, F_BadText___init__⟩ := h_BadText___init__
  obtain ⟨fd_BadPage___init__, F_BadPage___init__⟩ := h_BadPage___init__
  obtain ⟨fd_BadIndex___init__, F_BadIndex___init__⟩ := h_BadIndex___init__
  obtain ⟨fd_BadLayer___init__, F_BadLayer___init__⟩ := h_BadLayer___init__
  obtain ⟨fd_NoIndex___init__, F_NoIndex___init__⟩ := h_NoIndex___init__
  obtain ⟨fd_BadTable___init__, F_BadTable___init__⟩ := h_BadTable___init__
  obtain ⟨fd_NoLayer___init__, F_NoLayer___init__⟩ := h_NoLayer___init__
  obtain ⟨fd_BadStore___init__, F_BadStore___init__⟩ := h_BadStore___init__
  obtain ⟨fd_NoTable___init__, F_NoTable___init__⟩ := h_NoTable___init__
  obtain ⟨fd_BadChange___init__, F_BadChange___init__⟩ := h_BadChange___init__
  obtain ⟨fd_LayersFull___init__, F_LayersFull___init__⟩ := h_LayersFull___init__
  obtain ⟨fd_BadNumber___init__, F_BadNumber___init__⟩ := h_BadNumber___init__
  obtain ⟨fd_BadQuestion___init__, F_BadQuestion___init__⟩ := h_BadQuestion___init__
  obtain ⟨fd_NoPage___init__, F_NoPage___init__⟩ := h_NoPage___init__
  obtain ⟨fd_NoFactor___init__, F_NoFactor___init__⟩ := h_NoFactor___init__
  obtain ⟨fd_BadPaper___init__, F_BadPaper___init__⟩ := h_BadPaper___init__
  obtain ⟨fd_TooMany___init__, F_TooMany___init__⟩ := h_TooMany___init__
  obtain ⟨fd_KnownRow___init__, F_KnownRow___init__⟩ := h_KnownRow___init__
  obtain ⟨fd_BadFoe___init__, F_BadFoe___init__⟩ := h_BadFoe___init__
  obtain ⟨fd_BadDead___init__, F_BadDead___init__⟩ := h_BadDead___init__
  obtain ⟨fd_NoSpread___init__, F_NoSpread___init__⟩ := h_NoSpread___init__
  obtain ⟨fd_NotInDoubt___init__, F_NotInDoubt___init__⟩ := h_NotInDoubt___init__
  obtain ⟨fd_Unfit___init__, F_Unfit___init__⟩ := h_Unfit___init__
  obtain ⟨fd_NotKnown___init__, F_NotKnown___init__⟩ := h_NotKnown___init__
  obtain ⟨fd_BadStory___init__, F_BadStory___init__⟩ := h_BadStory___init__
  obtain ⟨fd__law_bag, F__law_bag⟩ := h__law_bag
  obtain ⟨fd__law_draw, F__law_draw⟩ := h__law_draw
  obtain ⟨fd__law_classes, F__law_classes⟩ := h__law_classes
  obtain ⟨fd_law, F_law, B⟩ := h_law
  obtain ⟨AD, hAD_0, hAD_1, hAD_2, hAD_3, hAD_4, hAD_5, hAD_6, hAD_7, hAD_8, hAD_9, hAD_10, hAD_11, hAD_12, hAD_13, hAD_14, hAD_15, hAD_16, hAD_17, hAD_18, hAD_19, hAD_20, hAD_21, hAD_22, hAD_23, hAD_24, hAD_25, hAD_26, hAD_27, hAD_28, hAD_29, hAD_30, hAD_31, hAD_32, hAD_33, hAD_34, hAD_35, hAD_36, hAD_37, hAD_38, hAD_39, hAD_40, hAD_41, hAD_42, hAD_43, hAD_44, hAD_45, hAD_46, hAD_47, hAD_48, hAD_49, hAD_50, hAD_51, hAD_52, hAD_53, hAD_54, hAD_55, hAD_56, hAD_57, hAD_58, hAD_59, hAD_60, hAD_61, hAD_62, hAD_63, hAD_64, hAD_65, hAD_66, hAD_67, hAD_68, hAD_69, hAD_70, hAD_71, hAD_72, hAD_73, hAD_74, hAD_75, hAD_76, hAD_77⟩ : ∃ AD : String → Addr, AD "BadRow.__init__" = f_BadRow___init__ ∧ AD "BadBox.__init__" = f_BadBox___init__ ∧ AD "BadColumn.__init__" = f_BadColumn___init__ ∧ AD "BadText.__init__" = f_BadText___init__ ∧ AD "BadPage.__init__" = f_BadPage___init__ ∧ AD "BadIndex.__init__" = f_BadIndex___init__ ∧ AD "BadLayer.__init__" = f_BadLayer___init__ ∧ AD "NoIndex.__init__" = f_NoIndex___init__ ∧ AD "BadTable.__init__" = f_BadTable___init__ ∧ AD "NoLayer.__init__" = f_NoLayer___init__ ∧ AD "BadStore.__init__" = f_BadStore___init__ ∧ AD "NoTable.__init__" = f_NoTable___init__ ∧ AD "BadChange.__init__" = f_BadChange___init__ ∧ AD "LayersFull.__init__" = f_LayersFull___init__ ∧ AD "BadNumber.__init__" = f_BadNumber___init__ ∧ AD "BadQuestion.__init__" = f_BadQuestion___init__ ∧ AD "NoPage.__init__" = f_NoPage___init__ ∧ AD "NoFactor.__init__" = f_NoFactor___init__ ∧ AD "BadPaper.__init__" = f_BadPaper___init__ ∧ AD "TooMany.__init__" = f_TooMany___init__ ∧ AD "KnownRow.__init__" = f_KnownRow___init__ ∧ AD "BadFoe.__init__" = f_BadFoe___init__ ∧ AD "BadDead.__init__" = f_BadDead___init__ ∧ AD "NoSpread.__init__" = f_NoSpread___init__ ∧ AD "NotInDoubt.__init__" = f_NotInDoubt___init__ ∧ AD "Unfit.__init__" = f_Unfit___init__ ∧ AD "NotKnown.__init__" = f_NotKnown___init__ ∧ AD "BadStory.__init__" = f_BadStory___init__ ∧ AD "_law_bag" = f__law_bag ∧ AD "_law_draw" = f__law_draw ∧ AD "_law_classes" = f__law_classes ∧ AD "law" = fa ∧ AD "FetchError" = f_FetchError ∧ AD "BadWidths" = f_BadWidths ∧ AD "BadRow" = f_BadRow ∧ AD "BadBox" = f_BadBox ∧ AD "UnlikeBoxes" = f_UnlikeBoxes ∧ AD "BadColumn" = f_BadColumn ∧ AD "BadData" = f_BadData ∧ AD "BadText" = f_BadText ∧ AD "BadPage" = f_BadPage ∧ AD "BadIndex" = f_BadIndex ∧ AD "BadLayer" = f_BadLayer ∧ AD "NoIndex" = f_NoIndex ∧ AD "BadTable" = f_BadTable ∧ AD "NoLayer" = f_NoLayer ∧ AD "BadStore" = f_BadStore ∧ AD "NoTable" = f_NoTable ∧ AD "BadChange" = f_BadChange ∧ AD "BadKinds" = f_BadKinds ∧ AD "LayersFull" = f_LayersFull ∧ AD "BadNumber" = f_BadNumber ∧ AD "NotBefore" = f_NotBefore ∧ AD "BadQuestion" = f_BadQuestion ∧ AD "Again" = f_Again ∧ AD "Foreign" = f_Foreign ∧ AD "NoPage" = f_NoPage ∧ AD "NoFactor" = f_NoFactor ∧ AD "NotUniform" = f_NotUniform ∧ AD "NotDecided" = f_NotDecided ∧ AD "Undetermined" = f_Undetermined ∧ AD "BadPaper" = f_BadPaper ∧ AD "NotDone" = f_NotDone ∧ AD "Unasked" = f_Unasked ∧ AD "TooMany" = f_TooMany ∧ AD "NotEnough" = f_NotEnough ∧ AD "KnownRow" = f_KnownRow ∧ AD "BadFoe" = f_BadFoe ∧ AD "BadPolicy" = f_BadPolicy ∧ AD "BadDead" = f_BadDead ∧ AD "NoSpread" = f_NoSpread ∧ AD "NotInDoubt" = f_NotInDoubt ∧ AD "BadDeed" = f_BadDeed ∧ AD "NotNewest" = f_NotNewest ∧ AD "NothingCut" = f_NothingCut ∧ AD "Unfit" = f_Unfit ∧ AD "NotKnown" = f_NotKnown ∧ AD "BadStory" = f_BadStory := ⟨fun s => if s = "BadRow.__init__" then f_BadRow___init__ else if s = "BadBox.__init__" then f_BadBox___init__ else if s = "BadColumn.__init__" then f_BadColumn___init__ else if s = "BadText.__init__" then f_BadText___init__ else if s = "BadPage.__init__" then f_BadPage___init__ else if s = "BadIndex.__init__" then f_BadIndex___init__ else if s = "BadLayer.__init__" then f_BadLayer___init__ else if s = "NoIndex.__init__" then f_NoIndex___init__ else if s = "BadTable.__init__" then f_BadTable___init__ else if s = "NoLayer.__init__" then f_NoLayer___init__ else if s = "BadStore.__init__" then f_BadStore___init__ else if s = "NoTable.__init__" then f_NoTable___init__ else if s = "BadChange.__init__" then f_BadChange___init__ else if s = "LayersFull.__init__" then f_LayersFull___init__ else if s = "BadNumber.__init__" then f_BadNumber___init__ else if s = "BadQuestion.__init__" then f_BadQuestion___init__ else if s = "NoPage.__init__" then f_NoPage___init__ else if s = "NoFactor.__init__" then f_NoFactor___init__ else if s = "BadPaper.__init__" then f_BadPaper___init__ else if s = "TooMany.__init__" then f_TooMany___init__ else if s = "KnownRow.__init__" then f_KnownRow___init__ else if s = "BadFoe.__init__" then f_BadFoe___init__ else if s = "BadDead.__init__" then f_BadDead___init__ else if s = "NoSpread.__init__" then f_NoSpread___init__ else if s = "NotInDoubt.__init__" then f_NotInDoubt___init__ else if s = "Unfit.__init__" then f_Unfit___init__ else if s = "NotKnown.__init__" then f_NotKnown___init__ else if s = "BadStory.__init__" then f_BadStory___init__ else if s = "_law_bag" then f__law_bag else if s = "_law_draw" then f__law_draw else if s = "_law_classes" then f__law_classes else if s = "law" then fa else if s = "FetchError" then f_FetchError else if s = "BadWidths" then f_BadWidths else if s = "BadRow" then f_BadRow else if s = "BadBox" then f_BadBox else if s = "UnlikeBoxes" then f_UnlikeBoxes else if s = "BadColumn" then f_BadColumn else if s = "BadData" then f_BadData else if s = "BadText" then f_BadText else if s = "BadPage" then f_BadPage else if s = "BadIndex" then f_BadIndex else if s = "BadLayer" then f_BadLayer else if s = "NoIndex" then f_NoIndex else if s = "BadTable" then f_BadTable else if s = "NoLayer" then f_NoLayer else if s = "BadStore" then f_BadStore else if s = "NoTable" then f_NoTable else if s = "BadChange" then f_BadChange else if s = "BadKinds" then f_BadKinds else if s = "LayersFull" then f_LayersFull else if s = "BadNumber" then f_BadNumber else if s = "NotBefore" then f_NotBefore else if s = "BadQuestion" then f_BadQuestion else if s = "Again" then f_Again else if s = "Foreign" then f_Foreign else if s = "NoPage" then f_NoPage else if s = "NoFactor" then f_NoFactor else if s = "NotUniform" then f_NotUniform else if s = "NotDecided" then f_NotDecided else if s = "Undetermined" then f_Undetermined else if s = "BadPaper" then f_BadPaper else if s = "NotDone" then f_NotDone else if s = "Unasked" then f_Unasked else if s = "TooMany" then f_TooMany else if s = "NotEnough" then f_NotEnough else if s = "KnownRow" then f_KnownRow else if s = "BadFoe" then f_BadFoe else if s = "BadPolicy" then f_BadPolicy else if s = "BadDead" then f_BadDead else if s = "NoSpread" then f_NoSpread else if s = "NotInDoubt" then f_NotInDoubt else if s = "BadDeed" then f_BadDeed else if s = "NotNewest" then f_NotNewest else if s = "NothingCut" then f_NothingCut else if s = "Unfit" then f_Unfit else if s = "NotKnown" then f_NotKnown else if s = "BadStory" then f_BadStory else fa, by refine ⟨?_, ?_, ?_, ?_, ?_, ?_, ?_, ?_, ?_, ?_, ?_, ?_, ?_, ?_, ?_, ?_, ?_, ?_, ?_, ?_, ?_, ?_, ?_, ?_, ?_, ?_, ?_, ?_, ?_, ?_, ?_, ?_, ?_, ?_, ?_, ?_, ?_, ?_, ?_, ?_, ?_, ?_, ?_, ?_, ?_, ?_, ?_, ?_, ?_, ?_, ?_, ?_, ?_, ?_, ?_, ?_, ?_, ?_, ?_, ?_, ?_, ?_, ?_, ?_, ?_, ?_, ?_, ?_, ?_, ?_, ?_, ?_, ?_, ?_, ?_, ?_, ?_, ?_⟩ <;> simp⟩
  subst hAD_0
  subst hAD_1
  subst hAD_2
  subst hAD_3
  subst hAD_4
  subst hAD_5
  subst hAD_6
  subst hAD_7
  subst hAD_8
  subst hAD_9
  subst hAD_10
  subst hAD_11
  subst hAD_12
  subst hAD_13
  subst hAD_14
  subst hAD_15
  subst hAD_16
  subst hAD_17
  subst hAD_18
  subst hAD_19
  subst hAD_20
  subst hAD_21
  subst hAD_22
  subst hAD_23
  subst hAD_24
  subst hAD_25
  subst hAD_26
  subst hAD_27
  subst hAD_28
  subst hAD_29
  subst hAD_30
  subst hAD_31
  subst hAD_32
  subst hAD_33
  subst hAD_34
  subst hAD_35
  subst hAD_36
  subst hAD_37
  subst hAD_38
  subst hAD_39
  subst hAD_40
  subst hAD_41
  subst hAD_42
  subst hAD_43
  subst hAD_44
  subst hAD_45
  subst hAD_46
  subst hAD_47
  subst hAD_48
  subst hAD_49
  subst hAD_50
  subst hAD_51
  subst hAD_52
  subst hAD_53
  subst hAD_54
  subst hAD_55
  subst hAD_56
  subst hAD_57
  subst hAD_58
  subst hAD_59
  subst hAD_60
  subst hAD_61
  subst hAD_62
  subst hAD_63
  subst hAD_64
  subst hAD_65
  subst hAD_66
  subst hAD_67
  subst hAD_68
  subst hAD_69
  subst hAD_70
  subst hAD_71
  subst hAD_72
  subst hAD_73
  subst hAD_74
  subst hAD_75
  subst hAD_76
  subst hAD_77
  obtain ⟨FD, hFD_0, hFD_1, hFD_2, hFD_3, hFD_4, hFD_5, hFD_6, hFD_7, hFD_8, hFD_9, hFD_10, hFD_11, hFD_12, hFD_13, hFD_14, hFD_15, hFD_16, hFD_17, hFD_18, hFD_19, hFD_20, hFD_21, hFD_22, hFD_23, hFD_24, hFD_25, hFD_26, hFD_27, hFD_28, hFD_29, hFD_30, hFD_31⟩ : ∃ FD : String → FuncData, FD "BadRow.__init__" = fd_BadRow___init__ ∧ FD "BadBox.__init__" = fd_BadBox___init__ ∧ FD "BadColumn.__init__" = fd_BadColumn___init__ ∧ FD "BadText.__init__" = fd_BadText___init__ ∧ FD "BadPage.__init__" = fd_BadPage___init__ ∧ FD "BadIndex.__init__" = fd_BadIndex___init__ ∧ FD "BadLayer.__init__" = fd_BadLayer___init__ ∧ FD "NoIndex.__init__" = fd_NoIndex___init__ ∧ FD "BadTable.__init__" = fd_BadTable___init__ ∧ FD "NoLayer.__init__" = fd_NoLayer___init__ ∧ FD "BadStore.__init__" = fd_BadStore___init__ ∧ FD "NoTable.__init__" = fd_NoTable___init__ ∧ FD "BadChange.__init__" = fd_BadChange___init__ ∧ FD "LayersFull.__init__" = fd_LayersFull___init__ ∧ FD "BadNumber.__init__" = fd_BadNumber___init__ ∧ FD "BadQuestion.__init__" = fd_BadQuestion___init__ ∧ FD "NoPage.__init__" = fd_NoPage___init__ ∧ FD "NoFactor.__init__" = fd_NoFactor___init__ ∧ FD "BadPaper.__init__" = fd_BadPaper___init__ ∧ FD "TooMany.__init__" = fd_TooMany___init__ ∧ FD "KnownRow.__init__" = fd_KnownRow___init__ ∧ FD "BadFoe.__init__" = fd_BadFoe___init__ ∧ FD "BadDead.__init__" = fd_BadDead___init__ ∧ FD "NoSpread.__init__" = fd_NoSpread___init__ ∧ FD "NotInDoubt.__init__" = fd_NotInDoubt___init__ ∧ FD "Unfit.__init__" = fd_Unfit___init__ ∧ FD "NotKnown.__init__" = fd_NotKnown___init__ ∧ FD "BadStory.__init__" = fd_BadStory___init__ ∧ FD "_law_bag" = fd__law_bag ∧ FD "_law_draw" = fd__law_draw ∧ FD "_law_classes" = fd__law_classes ∧ FD "law" = fd_law := ⟨fun s => if s = "BadRow.__init__" then fd_BadRow___init__ else if s = "BadBox.__init__" then fd_BadBox___init__ else if s = "BadColumn.__init__" then fd_BadColumn___init__ else if s = "BadText.__init__" then fd_BadText___init__ else if s = "BadPage.__init__" then fd_BadPage___init__ else if s = "BadIndex.__init__" then fd_BadIndex___init__ else if s = "BadLayer.__init__" then fd_BadLayer___init__ else if s = "NoIndex.__init__" then fd_NoIndex___init__ else if s = "BadTable.__init__" then fd_BadTable___init__ else if s = "NoLayer.__init__" then fd_NoLayer___init__ else if s = "BadStore.__init__" then fd_BadStore___init__ else if s = "NoTable.__init__" then fd_NoTable___init__ else if s = "BadChange.__init__" then fd_BadChange___init__ else if s = "LayersFull.__init__" then fd_LayersFull___init__ else if s = "BadNumber.__init__" then fd_BadNumber___init__ else if s = "BadQuestion.__init__" then fd_BadQuestion___init__ else if s = "NoPage.__init__" then fd_NoPage___init__ else if s = "NoFactor.__init__" then fd_NoFactor___init__ else if s = "BadPaper.__init__" then fd_BadPaper___init__ else if s = "TooMany.__init__" then fd_TooMany___init__ else if s = "KnownRow.__init__" then fd_KnownRow___init__ else if s = "BadFoe.__init__" then fd_BadFoe___init__ else if s = "BadDead.__init__" then fd_BadDead___init__ else if s = "NoSpread.__init__" then fd_NoSpread___init__ else if s = "NotInDoubt.__init__" then fd_NotInDoubt___init__ else if s = "Unfit.__init__" then fd_Unfit___init__ else if s = "NotKnown.__init__" then fd_NotKnown___init__ else if s = "BadStory.__init__" then fd_BadStory___init__ else if s = "_law_bag" then fd__law_bag else if s = "_law_draw" then fd__law_draw else if s = "_law_classes" then fd__law_classes else if s = "law" then fd_law else fd_law, by refine ⟨?_, ?_, ?_, ?_, ?_, ?_, ?_, ?_, ?_, ?_, ?_, ?_, ?_, ?_, ?_, ?_, ?_, ?_, ?_, ?_, ?_, ?_, ?_, ?_, ?_, ?_, ?_, ?_, ?_, ?_, ?_, ?_⟩ <;> simp⟩
  subst hFD_0
  subst hFD_1
  subst hFD_2
  subst hFD_3
  subst hFD_4
  subst hFD_5
  subst hFD_6
  subst hFD_7
  subst hFD_8
  subst hFD_9
  subst hFD_10
  subst hFD_11
  subst hFD_12
  subst hFD_13
  subst hFD_14
  subst hFD_15
  subst hFD_16
  subst hFD_17
  subst hFD_18
  subst hFD_19
  subst hFD_20
  subst hFD_21
  subst hFD_22
  subst hFD_23
  subst hFD_24
  subst hFD_25
  subst hFD_26
  subst hFD_27
  subst hFD_28
  subst hFD_29
  subst hFD_30
  subst hFD_31
  obtain ⟨TK, _⟩ : ∃ TK : String → Tok, True := ⟨fun _ => default, trivial⟩
  have T : Txt K mg AD FD TK := {
    b_ValueError := z_ValueError,
    b_abs := z_abs,
    b_all := z_all,
    b_int := z_int,
    b_isinstance := z_isinstance,
    b_len := z_len,
    b_range := z_range,
    b_tuple := z_tuple,
    f_BadRow___init__ := F_BadRow___init__,
    f_BadBox___init__ := F_BadBox___init__,
    f_BadColumn___init__ := F_BadColumn___init__,
    f_BadText___init__ := F_BadText___init__,
    f_BadPage___init__ := F_BadPage___init__,
    f_BadIndex___init__ := F_BadIndex___init__,
    f_BadLayer___init__ := F_BadLayer___init__,
    f_NoIndex___init__ := F_NoIndex___init__,
    f_BadTable___init__ := F_BadTable___init__,
    f_NoLayer___init__ := F_NoLayer___init__,
    f_BadStore___init__ := F_BadStore___init__,
    f_NoTable___init__ := F_NoTable___init__,
    f_BadChange___init__ := F_BadChange___init__,
    f_LayersFull___init__ := F_LayersFull___init__,
    f_BadNumber___init__ := F_BadNumber___init__,
    f_BadQuestion___init__ := F_BadQuestion___init__,
    f_NoPage___init__ := F_NoPage___init__,
    f_NoFactor___init__ := F_NoFactor___init__,
    f_BadPaper___init__ := F_BadPaper___init__,
    f_TooMany___init__ := F_TooMany___init__,
    f_KnownRow___init__ := F_KnownRow___init__,
    f_BadFoe___init__ := F_BadFoe___init__,
    f_BadDead___init__ := F_BadDead___init__,
    f_NoSpread___init__ := F_NoSpread___init__,
    f_NotInDoubt___init__ := F_NotInDoubt___init__,
    f_Unfit___init__ := F_Unfit___init__,
    f_NotKnown___init__ := F_NotKnown___init__,
    f_BadStory___init__ := F_BadStory___init__,
    f__law_bag := F__law_bag,
    g__law_bag := a__law_bag,
    f__law_draw := F__law_draw,
    g__law_draw := a__law_draw,
    f__law_classes := F__law_classes,
    g__law_classes := a__law_classes,
    f_law := F_law,
    g_law := a_law,
    g_FetchError := a_FetchError,
    x_FetchError := h_FetchError.e,
    k_FetchError := h_FetchError.kc,
    s_FetchError := h_FetchError.bc,
    t_FetchError := h_FetchError.tc,
    g_BadWidths := a_BadWidths,
    x_BadWidths := h_BadWidths.e,
    k_BadWidths := h_BadWidths.kc,
    s_BadWidths := h_BadWidths.bc,
    t_BadWidths := h_BadWidths.tc,
    g_BadRow := a_BadRow,
    o_BadRow := h_BadRow.o,
    i_BadRow := h_BadRow.i,
    ti_BadRow := h_BadRow.ti,
    xf_BadRow := h_BadRow.xf,
    n_BadRow_row := n_BadRow_row,
    g_BadBox := a_BadBox,
    o_BadBox := h_BadBox.o,
    i_BadBox := h_BadBox.i,
    ti_BadBox := h_BadBox.ti,
    xf_BadBox := h_BadBox.xf,
    n_BadBox_what := n_BadBox_what,
    n_BadBox_at := n_BadBox_at,
    g_UnlikeBoxes := a_UnlikeBoxes,
    x_UnlikeBoxes := h_UnlikeBoxes.e,
    k_UnlikeBoxes := h_UnlikeBoxes.kc,
    s_UnlikeBoxes := h_UnlikeBoxes.bc,
    t_UnlikeBoxes := h_UnlikeBoxes.tc,
    g_BadColumn := a_BadColumn,
    o_BadColumn := h_BadColumn.o,
    i_BadColumn := h_BadColumn.i,
    ti_BadColumn := h_BadColumn.ti,
    xf_BadColumn := h_BadColumn.xf,
    n_BadColumn_column := n_BadColumn_column,
    g_BadData := a_BadData,
    x_BadData := h_BadData.e,
    k_BadData := h_BadData.kc,
    s_BadData := h_BadData.bc,
    t_BadData := h_BadData.tc,
    g_BadText := a_BadText,
    o_BadText := h_BadText.o,
    i_BadText := h_BadText.i,
    ti_BadText := h_BadText.ti,
    xf_BadText := h_BadText.xf,
    n_BadText_place := n_BadText_place,
    g_BadPage := a_BadPage,
    o_BadPage := h_BadPage.o,
    i_BadPage := h_BadPage.i,
    ti_BadPage := h_BadPage.ti,
    xf_BadPage := h_BadPage.xf,
    n_BadPage_what := n_BadPage_what,
    g_BadIndex := a_BadIndex,
    o_BadIndex := h_BadIndex.o,
    i_BadIndex := h_BadIndex.i,
    ti_BadIndex := h_BadIndex.ti,
    xf_BadIndex := h_BadIndex.xf,
    n_BadIndex_what := n_BadIndex_what,
    g_BadLayer := a_BadLayer,
    o_BadLayer := h_BadLayer.o,
    i_BadLayer := h_BadLayer.i,
    ti_BadLayer := h_BadLayer.ti,
    xf_BadLayer := h_BadLayer.xf,
    n_BadLayer_what := n_BadLayer_what,
    n_BadLayer_at := n_BadLayer_at,
    g_NoIndex := a_NoIndex,
    o_NoIndex := h_NoIndex.o,
    i_NoIndex := h_NoIndex.i,
    ti_NoIndex := h_NoIndex.ti,
    xf_NoIndex := h_NoIndex.xf,
    n_NoIndex_index := n_NoIndex_index,
    g_BadTable := a_BadTable,
    o_BadTable := h_BadTable.o,
    i_BadTable := h_BadTable.i,
    ti_BadTable := h_BadTable.ti,
    xf_BadTable := h_BadTable.xf,
    n_BadTable_what := n_BadTable_what,
    n_BadTable_at := n_BadTable_at,
    g_NoLayer := a_NoLayer,
    o_NoLayer := h_NoLayer.o,
    i_NoLayer := h_NoLayer.i,
    ti_NoLayer := h_NoLayer.ti,
    xf_NoLayer := h_NoLayer.xf,
    n_NoLayer_layer := n_NoLayer_layer,
    g_BadStore := a_BadStore,
    o_BadStore := h_BadStore.o,
    i_BadStore := h_BadStore.i,
    ti_BadStore := h_BadStore.ti,
    xf_BadStore := h_BadStore.xf,
    n_BadStore_what := n_BadStore_what,
    n_BadStore_at := n_BadStore_at,
    g_NoTable := a_NoTable,
    o_NoTable := h_NoTable.o,
    i_NoTable := h_NoTable.i,
    ti_NoTable := h_NoTable.ti,
    xf_NoTable := h_NoTable.xf,
    n_NoTable_name := n_NoTable_name,
    g_BadChange := a_BadChange,
    o_BadChange := h_BadChange.o,
    i_BadChange := h_BadChange.i,
    ti_BadChange := h_BadChange.ti,
    xf_BadChange := h_BadChange.xf,
    n_BadChange_at := n_BadChange_at,
    g_BadKinds := a_BadKinds,
    x_BadKinds := h_BadKinds.e,
    k_BadKinds := h_BadKinds.kc,
    s_BadKinds := h_BadKinds.bc,
    t_BadKinds := h_BadKinds.tc,
    g_LayersFull := a_LayersFull,
    o_LayersFull := h_LayersFull.o,
    i_LayersFull := h_LayersFull.i,
    ti_LayersFull := h_LayersFull.ti,
    xf_LayersFull := h_LayersFull.xf,
    n_LayersFull_name := n_LayersFull_name,
    g_BadNumber := a_BadNumber,
    o_BadNumber := h_BadNumber.o,
    i_BadNumber := h_BadNumber.i,
    ti_BadNumber := h_BadNumber.ti,
    xf_BadNumber := h_BadNumber.xf,
    n_BadNumber_number := n_BadNumber_number,
    g_NotBefore := a_NotBefore,
    x_NotBefore := h_NotBefore.e,
    k_NotBefore := h_NotBefore.kc,
    s_NotBefore := h_NotBefore.bc,
    t_NotBefore := h_NotBefore.tc,
    g_BadQuestion := a_BadQuestion,
    o_BadQuestion := h_BadQuestion.o,
    i_BadQuestion := h_BadQuestion.i,
    ti_BadQuestion := h_BadQuestion.ti,
    xf_BadQuestion := h_BadQuestion.xf,
    n_BadQuestion_what := n_BadQuestion_what,
    n_BadQuestion_at := n_BadQuestion_at,
    g_Again := a_Again,
    x_Again := h_Again.e,
    k_Again := h_Again.kc,
    s_Again := h_Again.bc,
    t_Again := h_Again.tc,
    g_Foreign := a_Foreign,
    x_Foreign := h_Foreign.e,
    k_Foreign := h_Foreign.kc,
    s_Foreign := h_Foreign.bc,
    t_Foreign := h_Foreign.tc,
    g_NoPage := a_NoPage,
    o_NoPage := h_NoPage.o,
    i_NoPage := h_NoPage.i,
    ti_NoPage := h_NoPage.ti,
    xf_NoPage := h_NoPage.xf,
    n_NoPage_name := n_NoPage_name,
    g_NoFactor := a_NoFactor,
    o_NoFactor := h_NoFactor.o,
    i_NoFactor := h_NoFactor.i,
    ti_NoFactor := h_NoFactor.ti,
    xf_NoFactor := h_NoFactor.xf,
    n_NoFactor_what := n_NoFactor_what,
    g_NotUniform := a_NotUniform,
    x_NotUniform := h_NotUniform.e,
    k_NotUniform := h_NotUniform.kc,
    s_NotUniform := h_NotUniform.bc,
    t_NotUniform := h_NotUniform.tc,
    g_NotDecided := a_NotDecided,
    x_NotDecided := h_NotDecided.e,
    k_NotDecided := h_NotDecided.kc,
    s_NotDecided := h_NotDecided.bc,
    t_NotDecided := h_NotDecided.tc,
    g_Undetermined := a_Undetermined,
    x_Undetermined := h_Undetermined.e,
    k_Undetermined := h_Undetermined.kc,
    s_Undetermined := h_Undetermined.bc,
    t_Undetermined := h_Undetermined.tc,
    g_BadPaper := a_BadPaper,
    o_BadPaper := h_BadPaper.o,
    i_BadPaper := h_BadPaper.i,
    ti_BadPaper := h_BadPaper.ti,
    xf_BadPaper := h_BadPaper.xf,
    n_BadPaper_line := n_BadPaper_line,
    n_BadPaper_what := n_BadPaper_what,
    g_NotDone := a_NotDone,
    x_NotDone := h_NotDone.e,
    k_NotDone := h_NotDone.kc,
    s_NotDone := h_NotDone.bc,
    t_NotDone := h_NotDone.tc,
    g_Unasked := a_Unasked,
    x_Unasked := h_Unasked.e,
    k_Unasked := h_Unasked.kc,
    s_Unasked := h_Unasked.bc,
    t_Unasked := h_Unasked.tc,
    g_TooMany := a_TooMany,
    o_TooMany := h_TooMany.o,
    i_TooMany := h_TooMany.i,
    ti_TooMany := h_TooMany.ti,
    xf_TooMany := h_TooMany.xf,
    n_TooMany_most := n_TooMany_most,
    g_NotEnough := a_NotEnough,
    x_NotEnough := h_NotEnough.e,
    k_NotEnough := h_NotEnough.kc,
    s_NotEnough := h_NotEnough.bc,
    t_NotEnough := h_NotEnough.tc,
    g_KnownRow := a_KnownRow,
    o_KnownRow := h_KnownRow.o,
    i_KnownRow := h_KnownRow.i,
    ti_KnownRow := h_KnownRow.ti,
    xf_KnownRow := h_KnownRow.xf,
    n_KnownRow_name := n_KnownRow_name,
    n_KnownRow_row := n_KnownRow_row,
    g_BadFoe := a_BadFoe,
    o_BadFoe := h_BadFoe.o,
    i_BadFoe := h_BadFoe.i,
    ti_BadFoe := h_BadFoe.ti,
    xf_BadFoe := h_BadFoe.xf,
    n_BadFoe_what := n_BadFoe_what,
    g_BadPolicy := a_BadPolicy,
    x_BadPolicy := h_BadPolicy.e,
    k_BadPolicy := h_BadPolicy.kc,
    s_BadPolicy := h_BadPolicy.bc,
    t_BadPolicy := h_BadPolicy.tc,
    g_BadDead := a_BadDead,
    o_BadDead := h_BadDead.o,
    i_BadDead := h_BadDead.i,
    ti_BadDead := h_BadDead.ti,
    xf_BadDead := h_BadDead.xf,
    n_BadDead_at := n_BadDead_at,
    g_NoSpread := a_NoSpread,
    o_NoSpread := h_NoSpread.o,
    i_NoSpread := h_NoSpread.i,
    ti_NoSpread := h_NoSpread.ti,
    xf_NoSpread := h_NoSpread.xf,
    n_NoSpread_what := n_NoSpread_what,
    g_NotInDoubt := a_NotInDoubt,
    o_NotInDoubt := h_NotInDoubt.o,
    i_NotInDoubt := h_NotInDoubt.i,
    ti_NotInDoubt := h_NotInDoubt.ti,
    xf_NotInDoubt := h_NotInDoubt.xf,
    n_NotInDoubt_point := n_NotInDoubt_point,
    g_BadDeed := a_BadDeed,
    x_BadDeed := h_BadDeed.e,
    k_BadDeed := h_BadDeed.kc,
    s_BadDeed := h_BadDeed.bc,
    t_BadDeed := h_BadDeed.tc,
    g_NotNewest := a_NotNewest,
    x_NotNewest := h_NotNewest.e,
    k_NotNewest := h_NotNewest.kc,
    s_NotNewest := h_NotNewest.bc,
    t_NotNewest := h_NotNewest.tc,
    g_NothingCut := a_NothingCut,
    x_NothingCut := h_NothingCut.e,
    k_NothingCut := h_NothingCut.kc,
    s_NothingCut := h_NothingCut.bc,
    t_NothingCut := h_NothingCut.tc,
    g_Unfit := a_Unfit,
    o_Unfit := h_Unfit.o,
    i_Unfit := h_Unfit.i,
    ti_Unfit := h_Unfit.ti,
    xf_Unfit := h_Unfit.xf,
    n_Unfit_name := n_Unfit_name,
    g_NotKnown := a_NotKnown,
    o_NotKnown := h_NotKnown.o,
    i_NotKnown := h_NotKnown.i,
    ti_NotKnown := h_NotKnown.ti,
    xf_NotKnown := h_NotKnown.xf,
    n_NotKnown_at := n_NotKnown_at,
    g_BadStory := a_BadStory,
    o_BadStory := h_BadStory.o,
    i_BadStory := h_BadStory.i,
    ti_BadStory := h_BadStory.ti,
    xf_BadStory := h_BadStory.xf,
    n_BadStory_line := n_BadStory_line,
    xv := (all_cons ⟨ga_BadWidths.ga, ga_BadWidths.gg, h_BadWidths.bc, ga_BadWidths.hd, kl_BadWidths, cg, ct, MroIs.obj mr_BadWidths⟩ (all_cons ⟨h_BadRow.xf.ga, h_BadRow.xf.gg, h_BadRow.o.exC, h_BadRow.xf.hdC, kl_BadRow, cg, ct, MroIs.obj mr_BadRow⟩ (all_cons ⟨h_BadBox.xf.ga, h_BadBox.xf.gg, h_BadBox.o.exC, h_BadBox.xf.hdC, kl_BadBox, cg, ct, MroIs.obj mr_BadBox⟩ (all_cons ⟨ga_UnlikeBoxes.ga, ga_UnlikeBoxes.gg, h_UnlikeBoxes.bc, ga_UnlikeBoxes.hd, kl_UnlikeBoxes, cg, ct, MroIs.obj mr_UnlikeBoxes⟩ (all_cons ⟨h_BadColumn.xf.ga, h_BadColumn.xf.gg, h_BadColumn.o.exC, h_BadColumn.xf.hdC, kl_BadColumn, cg, ct, MroIs.obj mr_BadColumn⟩ (all_cons ⟨ga_BadData.ga, ga_BadData.gg, h_BadData.bc, ga_BadData.hd, kl_BadData, cg, ct, MroIs.obj mr_BadData⟩ (all_cons ⟨h_BadText.xf.ga, h_BadText.xf.gg, h_BadText.o.exC, h_BadText.xf.hdC, kl_BadText, cg, ct, MroIs.obj mr_BadText⟩ (all_cons ⟨h_BadPage.xf.ga, h_BadPage.xf.gg, h_BadPage.o.exC, h_BadPage.xf.hdC, kl_BadPage, cg, ct, MroIs.obj mr_BadPage⟩ (all_cons ⟨h_BadIndex.xf.ga, h_BadIndex.xf.gg, h_BadIndex.o.exC, h_BadIndex.xf.hdC, kl_BadIndex, cg, ct, MroIs.obj mr_BadIndex⟩ (all_cons ⟨h_BadLayer.xf.ga, h_BadLayer.xf.gg, h_BadLayer.o.exC, h_BadLayer.xf.hdC, kl_BadLayer, cg, ct, MroIs.obj mr_BadLayer⟩ (all_cons ⟨h_NoIndex.xf.ga, h_NoIndex.xf.gg, h_NoIndex.o.exC, h_NoIndex.xf.hdC, kl_NoIndex, cg, ct, MroIs.obj mr_NoIndex⟩ (all_cons ⟨h_BadTable.xf.ga, h_BadTable.xf.gg, h_BadTable.o.exC, h_BadTable.xf.hdC, kl_BadTable, cg, ct, MroIs.obj mr_BadTable⟩ (all_cons ⟨h_NoLayer.xf.ga, h_NoLayer.xf.gg, h_NoLayer.o.exC, h_NoLayer.xf.hdC, kl_NoLayer, cg, ct, MroIs.obj mr_NoLayer⟩ (all_cons ⟨h_BadStore.xf.ga, h_BadStore.xf.gg, h_BadStore.o.exC, h_BadStore.xf.hdC, kl_BadStore, cg, ct, MroIs.obj mr_BadStore⟩ (all_cons ⟨h_NoTable.xf.ga, h_NoTable.xf.gg, h_NoTable.o.exC, h_NoTable.xf.hdC, kl_NoTable, cg, ct, MroIs.obj mr_NoTable⟩ (all_cons ⟨h_BadChange.xf.ga, h_BadChange.xf.gg, h_BadChange.o.exC, h_BadChange.xf.hdC, kl_BadChange, cg, ct, MroIs.obj mr_BadChange⟩ (all_cons ⟨ga_BadKinds.ga, ga_BadKinds.gg, h_BadKinds.bc, ga_BadKinds.hd, kl_BadKinds, cg, ct, MroIs.obj mr_BadKinds⟩ (all_cons ⟨h_LayersFull.xf.ga, h_LayersFull.xf.gg, h_LayersFull.o.exC, h_LayersFull.xf.hdC, kl_LayersFull, cg, ct, MroIs.obj mr_LayersFull⟩ (all_cons ⟨h_BadNumber.xf.ga, h_BadNumber.xf.gg, h_BadNumber.o.exC, h_BadNumber.xf.hdC, kl_BadNumber, cg, ct, MroIs.obj mr_BadNumber⟩ (all_cons ⟨ga_NotBefore.ga, ga_NotBefore.gg, h_NotBefore.bc, ga_NotBefore.hd, kl_NotBefore, cg, ct, MroIs.obj mr_NotBefore⟩ (all_cons ⟨h_BadQuestion.xf.ga, h_BadQuestion.xf.gg, h_BadQuestion.o.exC, h_BadQuestion.xf.hdC, kl_BadQuestion, cg, ct, MroIs.obj mr_BadQuestion⟩ (all_cons ⟨ga_Again.ga, ga_Again.gg, h_Again.bc, ga_Again.hd, kl_Again, cg, ct, MroIs.obj mr_Again⟩ (all_cons ⟨ga_Foreign.ga, ga_Foreign.gg, h_Foreign.bc, ga_Foreign.hd, kl_Foreign, cg, ct, MroIs.obj mr_Foreign⟩ (all_cons ⟨h_NoPage.xf.ga, h_NoPage.xf.gg, h_NoPage.o.exC, h_NoPage.xf.hdC, kl_NoPage, cg, ct, MroIs.obj mr_NoPage⟩ (all_cons ⟨h_NoFactor.xf.ga, h_NoFactor.xf.gg, h_NoFactor.o.exC, h_NoFactor.xf.hdC, kl_NoFactor, cg, ct, MroIs.obj mr_NoFactor⟩ (all_cons ⟨ga_NotUniform.ga, ga_NotUniform.gg, h_NotUniform.bc, ga_NotUniform.hd, kl_NotUniform, cg, ct, MroIs.obj mr_NotUniform⟩ (all_cons ⟨ga_NotDecided.ga, ga_NotDecided.gg, h_NotDecided.bc, ga_NotDecided.hd, kl_NotDecided, cg, ct, MroIs.obj mr_NotDecided⟩ (all_cons ⟨ga_Undetermined.ga, ga_Undetermined.gg, h_Undetermined.bc, ga_Undetermined.hd, kl_Undetermined, cg, ct, MroIs.obj mr_Undetermined⟩ (all_cons ⟨h_BadPaper.xf.ga, h_BadPaper.xf.gg, h_BadPaper.o.exC, h_BadPaper.xf.hdC, kl_BadPaper, cg, ct, MroIs.obj mr_BadPaper⟩ (all_cons ⟨ga_NotDone.ga, ga_NotDone.gg, h_NotDone.bc, ga_NotDone.hd, kl_NotDone, cg, ct, MroIs.obj mr_NotDone⟩ (all_cons ⟨ga_Unasked.ga, ga_Unasked.gg, h_Unasked.bc, ga_Unasked.hd, kl_Unasked, cg, ct, MroIs.obj mr_Unasked⟩ (all_cons ⟨h_TooMany.xf.ga, h_TooMany.xf.gg, h_TooMany.o.exC, h_TooMany.xf.hdC, kl_TooMany, cg, ct, MroIs.obj mr_TooMany⟩ (all_cons ⟨ga_NotEnough.ga, ga_NotEnough.gg, h_NotEnough.bc, ga_NotEnough.hd, kl_NotEnough, cg, ct, MroIs.obj mr_NotEnough⟩ (all_cons ⟨h_KnownRow.xf.ga, h_KnownRow.xf.gg, h_KnownRow.o.exC, h_KnownRow.xf.hdC, kl_KnownRow, cg, ct, MroIs.obj mr_KnownRow⟩ (all_cons ⟨h_BadFoe.xf.ga, h_BadFoe.xf.gg, h_BadFoe.o.exC, h_BadFoe.xf.hdC, kl_BadFoe, cg, ct, MroIs.obj mr_BadFoe⟩ (all_cons ⟨ga_BadPolicy.ga, ga_BadPolicy.gg, h_BadPolicy.bc, ga_BadPolicy.hd, kl_BadPolicy, cg, ct, MroIs.obj mr_BadPolicy⟩ (all_cons ⟨h_BadDead.xf.ga, h_BadDead.xf.gg, h_BadDead.o.exC, h_BadDead.xf.hdC, kl_BadDead, cg, ct, MroIs.obj mr_BadDead⟩ (all_cons ⟨h_NoSpread.xf.ga, h_NoSpread.xf.gg, h_NoSpread.o.exC, h_NoSpread.xf.hdC, kl_NoSpread, cg, ct, MroIs.obj mr_NoSpread⟩ (all_cons ⟨h_NotInDoubt.xf.ga, h_NotInDoubt.xf.gg, h_NotInDoubt.o.exC, h_NotInDoubt.xf.hdC, kl_NotInDoubt, cg, ct, MroIs.obj mr_NotInDoubt⟩ (all_cons ⟨ga_BadDeed.ga, ga_BadDeed.gg, h_BadDeed.bc, ga_BadDeed.hd, kl_BadDeed, cg, ct, MroIs.obj mr_BadDeed⟩ (all_cons ⟨ga_NotNewest.ga, ga_NotNewest.gg, h_NotNewest.bc, ga_NotNewest.hd, kl_NotNewest, cg, ct, MroIs.obj mr_NotNewest⟩ (all_cons ⟨ga_NothingCut.ga, ga_NothingCut.gg, h_NothingCut.bc, ga_NothingCut.hd, kl_NothingCut, cg, ct, MroIs.obj mr_NothingCut⟩ (all_cons ⟨h_Unfit.xf.ga, h_Unfit.xf.gg, h_Unfit.o.exC, h_Unfit.xf.hdC, kl_Unfit, cg, ct, MroIs.obj mr_Unfit⟩ (all_cons ⟨h_NotKnown.xf.ga, h_NotKnown.xf.gg, h_NotKnown.o.exC, h_NotKnown.xf.hdC, kl_NotKnown, cg, ct, MroIs.obj mr_NotKnown⟩ (all_cons ⟨h_BadStory.xf.ga, h_BadStory.xf.gg, h_BadStory.o.exC, h_BadStory.xf.hdC, kl_BadStory, cg, ct, MroIs.obj mr_BadStory⟩ all_nil))))))))))))))))))))))))))))))))))))))))))))),
    kk := kk_of (F := "FetchError") (all_cons ⟨h_BadWidths.ic, h_BadWidths.tc, mr_BadWidths⟩ (all_cons ⟨h_BadRow.ic, h_BadRow.o.tyC, mr_BadRow⟩ (all_cons ⟨h_BadBox.ic, h_BadBox.o.tyC, mr_BadBox⟩ (all_cons ⟨h_UnlikeBoxes.ic, h_UnlikeBoxes.tc, mr_UnlikeBoxes⟩ (all_cons ⟨h_BadColumn.ic, h_BadColumn.o.tyC, mr_BadColumn⟩ (all_cons ⟨h_BadData.ic, h_BadData.tc, mr_BadData⟩ (all_cons ⟨h_BadText.ic, h_BadText.o.tyC, mr_BadText⟩ (all_cons ⟨h_BadPage.ic, h_BadPage.o.tyC, mr_BadPage⟩ (all_cons ⟨h_BadIndex.ic, h_BadIndex.o.tyC, mr_BadIndex⟩ (all_cons ⟨h_BadLayer.ic, h_BadLayer.o.tyC, mr_BadLayer⟩ (all_cons ⟨h_NoIndex.ic, h_NoIndex.o.tyC, mr_NoIndex⟩ (all_cons ⟨h_BadTable.ic, h_BadTable.o.tyC, mr_BadTable⟩ (all_cons ⟨h_NoLayer.ic, h_NoLayer.o.tyC, mr_NoLayer⟩ (all_cons ⟨h_BadStore.ic, h_BadStore.o.tyC, mr_BadStore⟩ (all_cons ⟨h_NoTable.ic, h_NoTable.o.tyC, mr_NoTable⟩ (all_cons ⟨h_BadChange.ic, h_BadChange.o.tyC, mr_BadChange⟩ (all_cons ⟨h_BadKinds.ic, h_BadKinds.tc, mr_BadKinds⟩ (all_cons ⟨h_LayersFull.ic, h_LayersFull.o.tyC, mr_LayersFull⟩ (all_cons ⟨h_BadNumber.ic, h_BadNumber.o.tyC, mr_BadNumber⟩ (all_cons ⟨h_NotBefore.ic, h_NotBefore.tc, mr_NotBefore⟩ (all_cons ⟨h_BadQuestion.ic, h_BadQuestion.o.tyC, mr_BadQuestion⟩ (all_cons ⟨h_Again.ic, h_Again.tc, mr_Again⟩ (all_cons ⟨h_Foreign.ic, h_Foreign.tc, mr_Foreign⟩ (all_cons ⟨h_NoPage.ic, h_NoPage.o.tyC, mr_NoPage⟩ (all_cons ⟨h_NoFactor.ic, h_NoFactor.o.tyC, mr_NoFactor⟩ (all_cons ⟨h_NotUniform.ic, h_NotUniform.tc, mr_NotUniform⟩ (all_cons ⟨h_NotDecided.ic, h_NotDecided.tc, mr_NotDecided⟩ (all_cons ⟨h_Undetermined.ic, h_Undetermined.tc, mr_Undetermined⟩ (all_cons ⟨h_BadPaper.ic, h_BadPaper.o.tyC, mr_BadPaper⟩ (all_cons ⟨h_NotDone.ic, h_NotDone.tc, mr_NotDone⟩ (all_cons ⟨h_Unasked.ic, h_Unasked.tc, mr_Unasked⟩ (all_cons ⟨h_TooMany.ic, h_TooMany.o.tyC, mr_TooMany⟩ (all_cons ⟨h_NotEnough.ic, h_NotEnough.tc, mr_NotEnough⟩ (all_cons ⟨h_KnownRow.ic, h_KnownRow.o.tyC, mr_KnownRow⟩ (all_cons ⟨h_BadFoe.ic, h_BadFoe.o.tyC, mr_BadFoe⟩ (all_cons ⟨h_BadPolicy.ic, h_BadPolicy.tc, mr_BadPolicy⟩ (all_cons ⟨h_BadDead.ic, h_BadDead.o.tyC, mr_BadDead⟩ (all_cons ⟨h_NoSpread.ic, h_NoSpread.o.tyC, mr_NoSpread⟩ (all_cons ⟨h_NotInDoubt.ic, h_NotInDoubt.o.tyC, mr_NotInDoubt⟩ (all_cons ⟨h_BadDeed.ic, h_BadDeed.tc, mr_BadDeed⟩ (all_cons ⟨h_NotNewest.ic, h_NotNewest.tc, mr_NotNewest⟩ (all_cons ⟨h_NothingCut.ic, h_NothingCut.tc, mr_NothingCut⟩ (all_cons ⟨h_Unfit.ic, h_Unfit.o.tyC, mr_Unfit⟩ (all_cons ⟨h_NotKnown.ic, h_NotKnown.o.tyC, mr_NotKnown⟩ (all_cons ⟨h_BadStory.ic, h_BadStory.o.tyC, mr_BadStory⟩ all_nil))))))))))))))))))))))))))))))))))))))))))))) nd,
    kF := kF_of h_FetchError.ic h_FetchError.tc (all_cons mr_BadWidths (all_cons mr_BadRow (all_cons mr_BadBox (all_cons mr_UnlikeBoxes (all_cons mr_BadColumn (all_cons mr_BadData (all_cons mr_BadText (all_cons mr_BadPage (all_cons mr_BadIndex (all_cons mr_BadLayer (all_cons mr_NoIndex (all_cons mr_BadTable (all_cons mr_NoLayer (all_cons mr_BadStore (all_cons mr_NoTable (all_cons mr_BadChange (all_cons mr_BadKinds (all_cons mr_LayersFull (all_cons mr_BadNumber (all_cons mr_NotBefore (all_cons mr_BadQuestion (all_cons mr_Again (all_cons mr_Foreign (all_cons mr_NoPage (all_cons mr_NoFactor (all_cons mr_NotUniform (all_cons mr_NotDecided (all_cons mr_Undetermined (all_cons mr_BadPaper (all_cons mr_NotDone (all_cons mr_Unasked (all_cons mr_TooMany (all_cons mr_NotEnough (all_cons mr_KnownRow (all_cons mr_BadFoe (all_cons mr_BadPolicy (all_cons mr_BadDead (all_cons mr_NoSpread (all_cons mr_NotInDoubt (all_cons mr_BadDeed (all_cons mr_NotNewest (all_cons mr_NothingCut (all_cons mr_Unfit (all_cons mr_NotKnown (all_cons mr_BadStory all_nil))))))))))))))))))))))))))))))))))))))))))))),
    kV := kV_of (F := "FetchError") (all_cons mr_BadWidths (all_cons mr_BadRow (all_cons mr_BadBox (all_cons mr_UnlikeBoxes (all_cons mr_BadColumn (all_cons mr_BadData (all_cons mr_BadText (all_cons mr_BadPage (all_cons mr_BadIndex (all_cons mr_BadLayer (all_cons mr_NoIndex (all_cons mr_BadTable (all_cons mr_NoLayer (all_cons mr_BadStore (all_cons mr_NoTable (all_cons mr_BadChange (all_cons mr_BadKinds (all_cons mr_LayersFull (all_cons mr_BadNumber (all_cons mr_NotBefore (all_cons mr_BadQuestion (all_cons mr_Again (all_cons mr_Foreign (all_cons mr_NoPage (all_cons mr_NoFactor (all_cons mr_NotUniform (all_cons mr_NotDecided (all_cons mr_Undetermined (all_cons mr_BadPaper (all_cons mr_NotDone (all_cons mr_Unasked (all_cons mr_TooMany (all_cons mr_NotEnough (all_cons mr_KnownRow (all_cons mr_BadFoe (all_cons mr_BadPolicy (all_cons mr_BadDead (all_cons mr_NoSpread (all_cons mr_NotInDoubt (all_cons mr_BadDeed (all_cons mr_NotNewest (all_cons mr_NothingCut (all_cons mr_Unfit (all_cons mr_NotKnown (all_cons mr_BadStory all_nil))))))))))))))))))))))))))))))))))))))))))))) }
  exact ⟨_, B, fun base _ _ => fnG_weak (fnG_fnOk (ok_law T)) (scr_of (M := md K AD) fun ns hl => ok_m_law hl)⟩
def NM0 : List Str := ["FetchError", "BadWidths", "BadRow", "BadBox", "UnlikeBoxes", "BadColumn", "BadData", "BadText", "BadPage", "BadIndex", "BadLayer", "NoIndex", "BadTable", "NoLayer", "BadStore", "NoTable", "BadChange", "BadKinds", "LayersFull", "BadNumber", "NotBefore", "BadQuestion", "Again", "Foreign", "NoPage", "NoFactor", "NotUniform", "NotDecided", "Undetermined", "BadPaper"]
def NM1 : List Str := ["NotDone", "Unasked", "TooMany", "NotEnough", "KnownRow", "BadFoe", "BadPolicy", "BadDead", "NoSpread", "NotInDoubt", "BadDeed", "NotNewest", "NothingCut", "Unfit", "NotKnown", "BadStory"]
def NM : List Str := NM0 ++ NM1
def FA : List Fb := [fun K => (He.Fa.free "ValueError").ok K,
  fun K => (He.Fa.free "abs").ok K,
  fun K => (He.Fa.free "all").ok K,
  fun K => (He.Fa.free "int").ok K,
  fun K => (He.Fa.free "isinstance").ok K,
  fun K => (He.Fa.free "len").ok K,
  fun K => (He.Fa.free "range").ok K,
  fun K => (He.Fa.free "tuple").ok K,
  fun K => (He.Fa.glo "_law_bag").ok K,
  fun K => (He.Fa.glo "_law_draw").ok K,
  fun K => (He.Fa.glo "_law_classes").ok K,
  fun K => (He.Fa.glo "law").ok K,
  fun K => (He.Fa.glo "FetchError").ok K,
  fun K => x0B K (He.ga K "FetchError"),
  fun K => (He.Fa.glo "BadWidths").ok K,
  fun K => x0B K (He.ga K "BadWidths"),
  fun K => (He.Fa.glo "BadRow").ok K,
  fun K => xinB K (He.ga K "BadRow") (He.ma K (He.ga K "BadRow") "__init__"),
  fun K => noF (He.ga K "BadRow") "row" K,
  fun K => (He.Fa.glo "BadBox").ok K,
  fun K => xinB K (He.ga K "BadBox") (He.ma K (He.ga K "BadBox") "__init__"),
  fun K => noF (He.ga K "BadBox") "what" K,
  fun K => noF (He.ga K "BadBox") "at" K,
  fun K => (He.Fa.glo "UnlikeBoxes").ok K,
  fun K => x0B K (He.ga K "UnlikeBoxes"),
  fun K => (He.Fa.glo "BadColumn").ok K,
  fun K => xinB K (He.ga K "BadColumn") (He.ma K (He.ga K "BadColumn") "__init__"),
  fun K => noF (He.ga K "BadColumn") "column" K,
  fun K => (He.Fa.glo "BadData").ok K,
  fun K => x0B K (He.ga K "BadData"),
  fun K => (He.Fa.glo "BadText").ok K,
  fun K => xinB K (He.ga K "BadText") (He.ma K (He.ga K "BadText") "__init__"),
  fun K => noF (He.ga K "BadText") "place" K,
  fun K => (He.Fa.glo "BadPage").ok K,
  fun K => xinB K (He.ga K "BadPage") (He.ma K (He.ga K "BadPage") "__init__"),
  fun K => noF (He.ga K "BadPage") "what" K,
  fun K => (He.Fa.glo "BadIndex").ok K,
  fun K => xinB K (He.ga K "BadIndex") (He.ma K (He.ga K "BadIndex") "__init__"),
  fun K => noF (He.ga K "BadIndex") "what" K,
  fun K => (He.Fa.glo "BadLayer").ok K,
  fun K => xinB K (He.ga K "BadLayer") (He.ma K (He.ga K "BadLayer") "__init__"),
  fun K => noF (He.ga K "BadLayer") "what" K,
  fun K => noF (He.ga K "BadLayer") "at" K,
  fun K => (He.Fa.glo "NoIndex").ok K,
  fun K => xinB K (He.ga K "NoIndex") (He.ma K (He.ga K "NoIndex") "__init__"),
  fun K => noF (He.ga K "NoIndex") "index" K,
  fun K => (He.Fa.glo "BadTable").ok K,
  fun K => xinB K (He.ga K "BadTable") (He.ma K (He.ga K "BadTable") "__init__"),
  fun K => noF (He.ga K "BadTable") "what" K,
  fun K => noF (He.ga K "BadTable") "at" K,
  fun K => (He.Fa.glo "NoLayer").ok K,
  fun K => xinB K (He.ga K "NoLayer") (He.ma K (He.ga K "NoLayer") "__init__"),
  fun K => noF (He.ga K "NoLayer") "layer" K,
  fun K => (He.Fa.glo "BadStore").ok K,
  fun K => xinB K (He.ga K "BadStore") (He.ma K (He.ga K "BadStore") "__init__"),
  fun K => noF (He.ga K "BadStore") "what" K,
  fun K => noF (He.ga K "BadStore") "at" K,
  fun K => (He.Fa.glo "NoTable").ok K,
  fun K => xinB K (He.ga K "NoTable") (He.ma K (He.ga K "NoTable") "__init__"),
  fun K => noF (He.ga K "NoTable") "name" K,
  fun K => (He.Fa.glo "BadChange").ok K,
  fun K => xinB K (He.ga K "BadChange") (He.ma K (He.ga K "BadChange") "__init__"),
  fun K => noF (He.ga K "BadChange") "at" K,
  fun K => (He.Fa.glo "BadKinds").ok K,
  fun K => x0B K (He.ga K "BadKinds"),
  fun K => (He.Fa.glo "LayersFull").ok K,
  fun K => xinB K (He.ga K "LayersFull") (He.ma K (He.ga K "LayersFull") "__init__"),
  fun K => noF (He.ga K "LayersFull") "name" K,
  fun K => (He.Fa.glo "BadNumber").ok K,
  fun K => xinB K (He.ga K "BadNumber") (He.ma K (He.ga K "BadNumber") "__init__"),
  fun K => noF (He.ga K "BadNumber") "number" K,
  fun K => (He.Fa.glo "NotBefore").ok K,
  fun K => x0B K (He.ga K "NotBefore"),
  fun K => (He.Fa.glo "BadQuestion").ok K,
  fun K => xinB K (He.ga K "BadQuestion") (He.ma K (He.ga K "BadQuestion") "__init__"),
  fun K => noF (He.ga K "BadQuestion") "what" K,
  fun K => noF (He.ga K "BadQuestion") "at" K,
  fun K => (He.Fa.glo "Again").ok K,
  fun K => x0B K (He.ga K "Again"),
  fun K => (He.Fa.glo "Foreign").ok K,
  fun K => x0B K (He.ga K "Foreign"),
  fun K => (He.Fa.glo "NoPage").ok K,
  fun K => xinB K (He.ga K "NoPage") (He.ma K (He.ga K "NoPage") "__init__"),
  fun K => noF (He.ga K "NoPage") "name" K,
  fun K => (He.Fa.glo "NoFactor").ok K,
  fun K => xinB K (He.ga K "NoFactor") (He.ma K (He.ga K "NoFactor") "__init__"),
  fun K => noF (He.ga K "NoFactor") "what" K,
  fun K => (He.Fa.glo "NotUniform").ok K,
  fun K => x0B K (He.ga K "NotUniform"),
  fun K => (He.Fa.glo "NotDecided").ok K,
  fun K => x0B K (He.ga K "NotDecided"),
  fun K => (He.Fa.glo "Undetermined").ok K,
  fun K => x0B K (He.ga K "Undetermined"),
  fun K => (He.Fa.glo "BadPaper").ok K,
  fun K => xinB K (He.ga K "BadPaper") (He.ma K (He.ga K "BadPaper") "__init__"),
  fun K => noF (He.ga K "BadPaper") "line" K,
  fun K => noF (He.ga K "BadPaper") "what" K,
  fun K => (He.Fa.glo "NotDone").ok K,
  fun K => x0B K (He.ga K "NotDone"),
  fun K => (He.Fa.glo "Unasked").ok K,
  fun K => x0B K (He.ga K "Unasked"),
  fun K => (He.Fa.glo "TooMany").ok K,
  fun K => xinB K (He.ga K "TooMany") (He.ma K (He.ga K "TooMany") "__init__"),
  fun K => noF (He.ga K "TooMany") "most" K,
  fun K => (He.Fa.glo "NotEnough").ok K,
  fun K => x0B K (He.ga K "NotEnough"),
  fun K => (He.Fa.glo "KnownRow").ok K,
  fun K => xinB K (He.ga K "KnownRow") (He.ma K (He.ga K "KnownRow") "__init__"),
  fun K => noF (He.ga K "KnownRow") "name" K,
  fun K => noF (He.ga K "KnownRow") "row" K,
  fun K => (He.Fa.glo "BadFoe").ok K,
  fun K => xinB K (He.ga K "BadFoe") (He.ma K (He.ga K "BadFoe") "__init__"),
  fun K => noF (He.ga K "BadFoe") "what" K,
  fun K => (He.Fa.glo "BadPolicy").ok K,
  fun K => x0B K (He.ga K "BadPolicy"),
  fun K => (He.Fa.glo "BadDead").ok K,
  fun K => xinB K (He.ga K "BadDead") (He.ma K (He.ga K "BadDead") "__init__"),
  fun K => noF (He.ga K "BadDead") "at" K,
  fun K => (He.Fa.glo "NoSpread").ok K,
  fun K => xinB K (He.ga K "NoSpread") (He.ma K (He.ga K "NoSpread") "__init__"),
  fun K => noF (He.ga K "NoSpread") "what" K,
  fun K => (He.Fa.glo "NotInDoubt").ok K,
  fun K => xinB K (He.ga K "NotInDoubt") (He.ma K (He.ga K "NotInDoubt") "__init__"),
  fun K => noF (He.ga K "NotInDoubt") "point" K,
  fun K => (He.Fa.glo "BadDeed").ok K,
  fun K => x0B K (He.ga K "BadDeed"),
  fun K => (He.Fa.glo "NotNewest").ok K,
  fun K => x0B K (He.ga K "NotNewest"),
  fun K => (He.Fa.glo "NothingCut").ok K,
  fun K => x0B K (He.ga K "NothingCut"),
  fun K => (He.Fa.glo "Unfit").ok K,
  fun K => xinB K (He.ga K "Unfit") (He.ma K (He.ga K "Unfit") "__init__"),
  fun K => noF (He.ga K "Unfit") "name" K,
  fun K => (He.Fa.glo "NotKnown").ok K,
  fun K => xinB K (He.ga K "NotKnown") (He.ma K (He.ga K "NotKnown") "__init__"),
  fun K => noF (He.ga K "NotKnown") "at" K,
  fun K => (He.Fa.glo "BadStory").ok K,
  fun K => xinB K (He.ga K "BadStory") (He.ma K (He.ga K "BadStory") "__init__"),
  fun K => noF (He.ga K "BadStory") "line" K,
  fun K => He.eqO (PySem.W.specialIn K (.builtin "object.__class__") "__get__") (some (some (.builtin "getset_descriptor.__get__"))),
  fun K => isB (PySem.W.takesIn K (.builtin "object.__class__")) true,
  fun K => fndB K (He.ga K "BadWidths") "__class__" (.builtin "object.__class__"),
  fun K => mrB K (He.ga K "BadWidths") (He.ga K "FetchError"),
  fun K => fndB K (He.ga K "BadRow") "__class__" (.builtin "object.__class__"),
  fun K => mrB K (He.ga K "BadRow") (He.ga K "FetchError"),
  fun K => fndB K (He.ga K "BadBox") "__class__" (.builtin "object.__class__"),
  fun K => mrB K (He.ga K "BadBox") (He.ga K "FetchError"),
  fun K => fndB K (He.ga K "UnlikeBoxes") "__class__" (.builtin "object.__class__"),
  fun K => mrB K (He.ga K "UnlikeBoxes") (He.ga K "FetchError"),
  fun K => fndB K (He.ga K "BadColumn") "__class__" (.builtin "object.__class__"),
  fun K => mrB K (He.ga K "BadColumn") (He.ga K "FetchError"),
  fun K => fndB K (He.ga K "BadData") "__class__" (.builtin "object.__class__"),
  fun K => mrB K (He.ga K "BadData") (He.ga K "FetchError"),
  fun K => fndB K (He.ga K "BadText") "__class__" (.builtin "object.__class__"),
  fun K => mrB K (He.ga K "BadText") (He.ga K "FetchError"),
  fun K => fndB K (He.ga K "BadPage") "__class__" (.builtin "object.__class__"),
  fun K => mrB K (He.ga K "BadPage") (He.ga K "FetchError"),
  fun K => fndB K (He.ga K "BadIndex") "__class__" (.builtin "object.__class__"),
  fun K => mrB K (He.ga K "BadIndex") (He.ga K "FetchError"),
  fun K => fndB K (He.ga K "BadLayer") "__class__" (.builtin "object.__class__"),
  fun K => mrB K (He.ga K "BadLayer") (He.ga K "FetchError"),
  fun K => fndB K (He.ga K "NoIndex") "__class__" (.builtin "object.__class__"),
  fun K => mrB K (He.ga K "NoIndex") (He.ga K "FetchError"),
  fun K => fndB K (He.ga K "BadTable") "__class__" (.builtin "object.__class__"),
  fun K => mrB K (He.ga K "BadTable") (He.ga K "FetchError"),
  fun K => fndB K (He.ga K "NoLayer") "__class__" (.builtin "object.__class__"),
  fun K => mrB K (He.ga K "NoLayer") (He.ga K "FetchError"),
  fun K => fndB K (He.ga K "BadStore") "__class__" (.builtin "object.__class__"),
  fun K => mrB K (He.ga K "BadStore") (He.ga K "FetchError"),
  fun K => fndB K (He.ga K "NoTable") "__class__" (.builtin "object.__class__"),
  fun K => mrB K (He.ga K "NoTable") (He.ga K "FetchError"),
  fun K => fndB K (He.ga K "BadChange") "__class__" (.builtin "object.__class__"),
  fun K => mrB K (He.ga K "BadChange") (He.ga K "FetchError"),
  fun K => fndB K (He.ga K "BadKinds") "__class__" (.builtin "object.__class__"),
  fun K => mrB K (He.ga K "BadKinds") (He.ga K "FetchError"),
  fun K => fndB K (He.ga K "LayersFull") "__class__" (.builtin "object.__class__"),
  fun K => mrB K (He.ga K "LayersFull") (He.ga K "FetchError"),
  fun K => fndB K (He.ga K "BadNumber") "__class__" (.builtin "object.__class__"),
  fun K => mrB K (He.ga K "BadNumber") (He.ga K "FetchError"),
  fun K => fndB K (He.ga K "NotBefore") "__class__" (.builtin "object.__class__"),
  fun K => mrB K (He.ga K "NotBefore") (He.ga K "FetchError"),
  fun K => fndB K (He.ga K "BadQuestion") "__class__" (.builtin "object.__class__"),
  fun K => mrB K (He.ga K "BadQuestion") (He.ga K "FetchError"),
  fun K => fndB K (He.ga K "Again") "__class__" (.builtin "object.__class__"),
  fun K => mrB K (He.ga K "Again") (He.ga K "FetchError"),
  fun K => fndB K (He.ga K "Foreign") "__class__" (.builtin "object.__class__"),
  fun K => mrB K (He.ga K "Foreign") (He.ga K "FetchError"),
  fun K => fndB K (He.ga K "NoPage") "__class__" (.builtin "object.__class__"),
  fun K => mrB K (He.ga K "NoPage") (He.ga K "FetchError"),
  fun K => fndB K (He.ga K "NoFactor") "__class__" (.builtin "object.__class__"),
  fun K => mrB K (He.ga K "NoFactor") (He.ga K "FetchError"),
  fun K => fndB K (He.ga K "NotUniform") "__class__" (.builtin "object.__class__"),
  fun K => mrB K (He.ga K "NotUniform") (He.ga K "FetchError"),
  fun K => fndB K (He.ga K "NotDecided") "__class__" (.builtin "object.__class__"),
  fun K => mrB K (He.ga K "NotDecided") (He.ga K "FetchError"),
  fun K => fndB K (He.ga K "Undetermined") "__class__" (.builtin "object.__class__"),
  fun K => mrB K (He.ga K "Undetermined") (He.ga K "FetchError"),
  fun K => fndB K (He.ga K "BadPaper") "__class__" (.builtin "object.__class__"),
  fun K => mrB K (He.ga K "BadPaper") (He.ga K "FetchError"),
  fun K => fndB K (He.ga K "NotDone") "__class__" (.builtin "object.__class__"),
  fun K => mrB K (He.ga K "NotDone") (He.ga K "FetchError"),
  fun K => fndB K (He.ga K "Unasked") "__class__" (.builtin "object.__class__"),
  fun K => mrB K (He.ga K "Unasked") (He.ga K "FetchError"),
  fun K => fndB K (He.ga K "TooMany") "__class__" (.builtin "object.__class__"),
  fun K => mrB K (He.ga K "TooMany") (He.ga K "FetchError"),
  fun K => fndB K (He.ga K "NotEnough") "__class__" (.builtin "object.__class__"),
  fun K => mrB K (He.ga K "NotEnough") (He.ga K "FetchError"),
  fun K => fndB K (He.ga K "KnownRow") "__class__" (.builtin "object.__class__"),
  fun K => mrB K (He.ga K "KnownRow") (He.ga K "FetchError"),
  fun K => fndB K (He.ga K "BadFoe") "__class__" (.builtin "object.__class__"),
  fun K => mrB K (He.ga K "BadFoe") (He.ga K "FetchError"),
  fun K => fndB K (He.ga K "BadPolicy") "__class__" (.builtin "object.__class__"),
  fun K => mrB K (He.ga K "BadPolicy") (He.ga K "FetchError"),
  fun K => fndB K (He.ga K "BadDead") "__class__" (.builtin "object.__class__"),
  fun K => mrB K (He.ga K "BadDead") (He.ga K "FetchError"),
  fun K => fndB K (He.ga K "NoSpread") "__class__" (.builtin "object.__class__"),
  fun K => mrB K (He.ga K "NoSpread") (He.ga K "FetchError"),
  fun K => fndB K (He.ga K "NotInDoubt") "__class__" (.builtin "object.__class__"),
  fun K => mrB K (He.ga K "NotInDoubt") (He.ga K "FetchError"),
  fun K => fndB K (He.ga K "BadDeed") "__class__" (.builtin "object.__class__"),
  fun K => mrB K (He.ga K "BadDeed") (He.ga K "FetchError"),
  fun K => fndB K (He.ga K "NotNewest") "__class__" (.builtin "object.__class__"),
  fun K => mrB K (He.ga K "NotNewest") (He.ga K "FetchError"),
  fun K => fndB K (He.ga K "NothingCut") "__class__" (.builtin "object.__class__"),
  fun K => mrB K (He.ga K "NothingCut") (He.ga K "FetchError"),
  fun K => fndB K (He.ga K "Unfit") "__class__" (.builtin "object.__class__"),
  fun K => mrB K (He.ga K "Unfit") (He.ga K "FetchError"),
  fun K => fndB K (He.ga K "NotKnown") "__class__" (.builtin "object.__class__"),
  fun K => mrB K (He.ga K "NotKnown") (He.ga K "FetchError"),
  fun K => fndB K (He.ga K "BadStory") "__class__" (.builtin "object.__class__"),
  fun K => mrB K (He.ga K "BadStory") (He.ga K "FetchError"),
  fun K => ndB K NM,
  fun K => gaB K (He.ga K "BadWidths"),
  fun K => gaB K (He.ga K "UnlikeBoxes"),
  fun K => gaB K (He.ga K "BadData"),
  fun K => gaB K (He.ga K "BadKinds"),
  fun K => gaB K (He.ga K "NotBefore"),
  fun K => gaB K (He.ga K "Again"),
  fun K => gaB K (He.ga K "Foreign"),
  fun K => gaB K (He.ga K "NotUniform"),
  fun K => gaB K (He.ga K "NotDecided"),
  fun K => gaB K (He.ga K "Undetermined"),
  fun K => gaB K (He.ga K "NotDone"),
  fun K => gaB K (He.ga K "Unasked"),
  fun K => gaB K (He.ga K "NotEnough"),
  fun K => gaB K (He.ga K "BadPolicy"),
  fun K => gaB K (He.ga K "BadDeed"),
  fun K => gaB K (He.ga K "NotNewest"),
  fun K => gaB K (He.ga K "NothingCut")]
def D_BadRow___init__ : He.DefD := ⟨("BadRow", some "__init__"), "__init__", "BadRow.__init__", defArgs s_BadRow___init__, defBody s_BadRow___init__, defScope s_BadRow___init__, [], []⟩
def D_BadBox___init__ : He.DefD := ⟨("BadBox", some "__init__"), "__init__", "BadBox.__init__", defArgs s_BadBox___init__, defBody s_BadBox___init__, defScope s_BadBox___init__, [], []⟩
def D_BadColumn___init__ : He.DefD := ⟨("BadColumn", some "__init__"), "__init__", "BadColumn.__init__", defArgs s_BadColumn___init__, defBody s_BadColumn___init__, defScope s_BadColumn___init__, [], []⟩
def D_BadText___init__ : He.DefD := ⟨("BadText", some "__init__"), "__init__", "BadText.__init__", defArgs s_BadText___init__, defBody s_BadText___init__, defScope s_BadText___init__, [], []⟩
def D_BadPage___init__ : He.DefD := ⟨("BadPage", some "__init__"), "__init__", "BadPage.__init__", defArgs s_BadPage___init__, defBody s_BadPage___init__, defScope s_BadPage___init__, [], []⟩
def D_BadIndex___init__ : He.DefD := ⟨("BadIndex", some "__init__"), "__init__", "BadIndex.__init__", defArgs s_BadIndex___init__, defBody s_BadIndex___init__, defScope s_BadIndex___init__, [], []⟩
def D_BadLayer___init__ : He.DefD := ⟨("BadLayer", some "__init__"), "__init__", "BadLayer.__init__", defArgs s_BadLayer___init__, defBody s_BadLayer___init__, defScope s_BadLayer___init__, [], []⟩
def D_NoIndex___init__ : He.DefD := ⟨("NoIndex", some "__init__"), "__init__", "NoIndex.__init__", defArgs s_NoIndex___init__, defBody s_NoIndex___init__, defScope s_NoIndex___init__, [], []⟩
def D_BadTable___init__ : He.DefD := ⟨("BadTable", some "__init__"), "__init__", "BadTable.__init__", defArgs s_BadTable___init__, defBody s_BadTable___init__, defScope s_BadTable___init__, [], []⟩
def D_NoLayer___init__ : He.DefD := ⟨("NoLayer", some "__init__"), "__init__", "NoLayer.__init__", defArgs s_NoLayer___init__, defBody s_NoLayer___init__, defScope s_NoLayer___init__, [], []⟩
def D_BadStore___init__ : He.DefD := ⟨("BadStore", some "__init__"), "__init__", "BadStore.__init__", defArgs s_BadStore___init__, defBody s_BadStore___init__, defScope s_BadStore___init__, [], []⟩
def D_NoTable___init__ : He.DefD := ⟨("NoTable", some "__init__"), "__init__", "NoTable.__init__", defArgs s_NoTable___init__, defBody s_NoTable___init__, defScope s_NoTable___init__, [], []⟩
def D_BadChange___init__ : He.DefD := ⟨("BadChange", some "__init__"), "__init__", "BadChange.__init__", defArgs s_BadChange___init__, defBody s_BadChange___init__, defScope s_BadChange___init__, [], []⟩
def D_LayersFull___init__ : He.DefD := ⟨("LayersFull", some "__init__"), "__init__", "LayersFull.__init__", defArgs s_LayersFull___init__, defBody s_LayersFull___init__, defScope s_LayersFull___init__, [], []⟩
def D_BadNumber___init__ : He.DefD := ⟨("BadNumber", some "__init__"), "__init__", "BadNumber.__init__", defArgs s_BadNumber___init__, defBody s_BadNumber___init__, defScope s_BadNumber___init__, [], []⟩
def D_BadQuestion___init__ : He.DefD := ⟨("BadQuestion", some "__init__"), "__init__", "BadQuestion.__init__", defArgs s_BadQuestion___init__, defBody s_BadQuestion___init__, defScope s_BadQuestion___init__, [], []⟩
def D_NoPage___init__ : He.DefD := ⟨("NoPage", some "__init__"), "__init__", "NoPage.__init__", defArgs s_NoPage___init__, defBody s_NoPage___init__, defScope s_NoPage___init__, [], []⟩
def D_NoFactor___init__ : He.DefD := ⟨("NoFactor", some "__init__"), "__init__", "NoFactor.__init__", defArgs s_NoFactor___init__, defBody s_NoFactor___init__, defScope s_NoFactor___init__, [], []⟩
def D_BadPaper___init__ : He.DefD := ⟨("BadPaper", some "__init__"), "__init__", "BadPaper.__init__", defArgs s_BadPaper___init__, defBody s_BadPaper___init__, defScope s_BadPaper___init__, [], []⟩
def D_TooMany___init__ : He.DefD := ⟨("TooMany", some "__init__"), "__init__", "TooMany.__init__", defArgs s_TooMany___init__, defBody s_TooMany___init__, defScope s_TooMany___init__, [], []⟩
def D_KnownRow___init__ : He.DefD := ⟨("KnownRow", some "__init__"), "__init__", "KnownRow.__init__", defArgs s_KnownRow___init__, defBody s_KnownRow___init__, defScope s_KnownRow___init__, [], []⟩
def D_BadFoe___init__ : He.DefD := ⟨("BadFoe", some "__init__"), "__init__", "BadFoe.__init__", defArgs s_BadFoe___init__, defBody s_BadFoe___init__, defScope s_BadFoe___init__, [], []⟩
def D_BadDead___init__ : He.DefD := ⟨("BadDead", some "__init__"), "__init__", "BadDead.__init__", defArgs s_BadDead___init__, defBody s_BadDead___init__, defScope s_BadDead___init__, [], []⟩
def D_NoSpread___init__ : He.DefD := ⟨("NoSpread", some "__init__"), "__init__", "NoSpread.__init__", defArgs s_NoSpread___init__, defBody s_NoSpread___init__, defScope s_NoSpread___init__, [], []⟩
def D_NotInDoubt___init__ : He.DefD := ⟨("NotInDoubt", some "__init__"), "__init__", "NotInDoubt.__init__", defArgs s_NotInDoubt___init__, defBody s_NotInDoubt___init__, defScope s_NotInDoubt___init__, [], []⟩
def D_Unfit___init__ : He.DefD := ⟨("Unfit", some "__init__"), "__init__", "Unfit.__init__", defArgs s_Unfit___init__, defBody s_Unfit___init__, defScope s_Unfit___init__, [], []⟩
def D_NotKnown___init__ : He.DefD := ⟨("NotKnown", some "__init__"), "__init__", "NotKnown.__init__", defArgs s_NotKnown___init__, defBody s_NotKnown___init__, defScope s_NotKnown___init__, [], []⟩
def D_BadStory___init__ : He.DefD := ⟨("BadStory", some "__init__"), "__init__", "BadStory.__init__", defArgs s_BadStory___init__, defBody s_BadStory___init__, defScope s_BadStory___init__, [], []⟩
def D__law_bag : He.DefD := ⟨("_law_bag", none), "_law_bag", "_law_bag", defArgs s__law_bag, defBody s__law_bag, defScope s__law_bag, [], []⟩
def D__law_draw : He.DefD := ⟨("_law_draw", none), "_law_draw", "_law_draw", defArgs s__law_draw, defBody s__law_draw, defScope s__law_draw, [], []⟩
def D__law_classes : He.DefD := ⟨("_law_classes", none), "_law_classes", "_law_classes", defArgs s__law_classes, defBody s__law_classes, defScope s__law_classes, [], []⟩
def D_law : He.DefD := ⟨("law", none), "law", "law", defArgs s_law, defBody s_law, defScope s_law, [], []⟩
def FN : List He.DefD := [D_BadRow___init__, D_BadBox___init__, D_BadColumn___init__, D_BadText___init__, D_BadPage___init__, D_BadIndex___init__, D_BadLayer___init__, D_NoIndex___init__, D_BadTable___init__, D_NoLayer___init__, D_BadStore___init__, D_NoTable___init__, D_BadChange___init__, D_LayersFull___init__, D_BadNumber___init__, D_BadQuestion___init__, D_NoPage___init__, D_NoFactor___init__, D_BadPaper___init__, D_TooMany___init__, D_KnownRow___init__, D_BadFoe___init__, D_BadDead___init__, D_NoSpread___init__, D_NotInDoubt___init__, D_Unfit___init__, D_NotKnown___init__, D_BadStory___init__, D__law_bag, D__law_draw, D__law_classes, D_law]
theorem facts {P : Program} {w : World} {K : PySem.W.Frag} {h : Heap} {mg : Str → Option Value} {f : Addr} (X : K.In h) (G : h.Ns mainGlobals mg) (hfa : mg "law" = some (.ref f)) (c : SaysX FA FN K) :
    ∃ fd : FuncData, (∀ (s : Shared) (u : Value), BindsTo s fd ⟨[u], []⟩ [("script", u)]) ∧ ∀ base : Heap, K.In base → base.Ns mainGlobals mg → FnG P w K mg base CX0 3 f fd ["script"] (spScr K) := by
  exact all_mk hfa
    (He.free_ok X G (c.fact 0 (fun K => (He.Fa.free "ValueError").ok K)))
    (He.free_ok X G (c.fact 1 (fun K => (He.Fa.free "abs").ok K)))
    (He.free_ok X G (c.fact 2 (fun K => (He.Fa.free "all").ok K)))
    (He.free_ok X G (c.fact 3 (fun K => (He.Fa.free "int").ok K)))
    (He.free_ok X G (c.fact 4 (fun K => (He.Fa.free "isinstance").ok K)))
    (He.free_ok X G (c.fact 5 (fun K => (He.Fa.free "len").ok K)))
    (He.free_ok X G (c.fact 6 (fun K => (He.Fa.free "range").ok K)))
    (He.free_ok X G (c.fact 7 (fun K => (He.Fa.free "tuple").ok K)))
    ((c.def_ 0 D_BadRow___init__).imp fun fd F => fun_of F)
    ((c.def_ 1 D_BadBox___init__).imp fun fd F => fun_of F)
    ((c.def_ 2 D_BadColumn___init__).imp fun fd F => fun_of F)
    ((c.def_ 3 D_BadText___init__).imp fun fd F => fun_of F)
    ((c.def_ 4 D_BadPage___init__).imp fun fd F => fun_of F)
    ((c.def_ 5 D_BadIndex___init__).imp fun fd F => fun_of F)
    ((c.def_ 6 D_BadLayer___init__).imp fun fd F => fun_of F)
    ((c.def_ 7 D_NoIndex___init__).imp fun fd F => fun_of F)
    ((c.def_ 8 D_BadTable___init__).imp fun fd F => fun_of F)
    ((c.def_ 9 D_NoLayer___init__).imp fun fd F => fun_of F)
    ((c.def_ 10 D_BadStore___init__).imp fun fd F => fun_of F)
    ((c.def_ 11 D_NoTable___init__).imp fun fd F => fun_of F)
    ((c.def_ 12 D_BadChange___init__).imp fun fd F => fun_of F)
    ((c.def_ 13 D_LayersFull___init__).imp fun fd F => fun_of F)
    ((c.def_ 14 D_BadNumber___init__).imp fun fd F => fun_of F)
    ((c.def_ 15 D_BadQuestion___init__).imp fun fd F => fun_of F)
    ((c.def_ 16 D_NoPage___init__).imp fun fd F => fun_of F)
    ((c.def_ 17 D_NoFactor___init__).imp fun fd F => fun_of F)
    ((c.def_ 18 D_BadPaper___init__).imp fun fd F => fun_of F)
    ((c.def_ 19 D_TooMany___init__).imp fun fd F => fun_of F)
    ((c.def_ 20 D_KnownRow___init__).imp fun fd F => fun_of F)
    ((c.def_ 21 D_BadFoe___init__).imp fun fd F => fun_of F)
    ((c.def_ 22 D_BadDead___init__).imp fun fd F => fun_of F)
    ((c.def_ 23 D_NoSpread___init__).imp fun fd F => fun_of F)
    ((c.def_ 24 D_NotInDoubt___init__).imp fun fd F => fun_of F)
    ((c.def_ 25 D_Unfit___init__).imp fun fd F => fun_of F)
    ((c.def_ 26 D_NotKnown___init__).imp fun fd F => fun_of F)
    ((c.def_ 27 D_BadStory___init__).imp fun fd F => fun_of F)
    (He.glo_ok X G (c.fact 8 (fun K => (He.Fa.glo "_law_bag").ok K)))
    ((c.def_ 28 D__law_bag).imp fun fd F => fun_of F)
    (He.glo_ok X G (c.fact 9 (fun K => (He.Fa.glo "_law_draw").ok K)))
    ((c.def_ 29 D__law_draw).imp fun fd F => fun_of F)
    (He.glo_ok X G (c.fact 10 (fun K => (He.Fa.glo "_law_classes").ok K)))
    ((c.def_ 30 D__law_classes).imp fun fd F => fun_of F)
    (He.glo_ok X G (c.fact 11 (fun K => (He.Fa.glo "law").ok K)))
    ((c.def_ 31 D_law).imp fun fd F => ⟨fun_of F, fun s u => FunD.bindsA (ps := ["script"]) F (fun _ _ _ _ _ _ us hl => match us, hl with | [_], _ => rfl) s [u] rfl⟩)
    (He.glo_ok X G (c.fact 12 (fun K => (He.Fa.glo "FetchError").ok K)))
    (x0B_ok (c.fact 13 (fun K => x0B K (He.ga K "FetchError"))))
    (He.glo_ok X G (c.fact 14 (fun K => (He.Fa.glo "BadWidths").ok K)))
    (x0B_ok (c.fact 15 (fun K => x0B K (He.ga K "BadWidths"))))
    (He.glo_ok X G (c.fact 16 (fun K => (He.Fa.glo "BadRow").ok K)))
    (xinB_ok (c.fact 17 (fun K => xinB K (He.ga K "BadRow") (He.ma K (He.ga K "BadRow") "__init__"))))
    (noF_ok (c.fact 18 (fun K => noF (He.ga K "BadRow") "row" K)))
    (He.glo_ok X G (c.fact 19 (fun K => (He.Fa.glo "BadBox").ok K)))
    (xinB_ok (c.fact 20 (fun K => xinB K (He.ga K "BadBox") (He.ma K (He.ga K "BadBox") "__init__"))))
    (noF_ok (c.fact 21 (fun K => noF (He.ga K "BadBox") "what" K)))
    (noF_ok (c.fact 22 (fun K => noF (He.ga K "BadBox") "at" K)))
    (He.glo_ok X G (c.fact 23 (fun K => (He.Fa.glo "UnlikeBoxes").ok K)))
    (x0B_ok (c.fact 24 (fun K => x0B K (He.ga K "UnlikeBoxes"))))
    (He.glo_ok X G (c.fact 25 (fun K => (He.Fa.glo "BadColumn").ok K)))
    (xinB_ok (c.fact 26 (fun K => xinB K (He.ga K "BadColumn") (He.ma K (He.ga K "BadColumn") "__init__"))))
    (noF_ok (c.fact 27 (fun K => noF (He.ga K "BadColumn") "column" K)))
    (He.glo_ok X G (c.fact 28 (fun K => (He.Fa.glo "BadData").ok K)))
    (x0B_ok (c.fact 29 (fun K => x0B K (He.ga K "BadData"))))
    (He.glo_ok X G (c.fact 30 (fun K => (He.Fa.glo "BadText").ok K)))
    (xinB_ok (c.fact 31 (fun K => xinB K (He.ga K "BadText") (He.ma K (He.ga K "BadText") "__init__"))))
    (noF_ok (c.fact 32 (fun K => noF (He.ga K "BadText") "place" K)))
    (He.glo_ok X G (c.fact 33 (fun K => (He.Fa.glo "BadPage").ok K)))
    (xinB_ok (c.fact 34 (fun K => xinB K (He.ga K "BadPage") (He.ma K (He.ga K "BadPage") "__init__"))))
    (noF_ok (c.fact 35 (fun K => noF (He.ga K "BadPage") "what" K)))
    (He.glo_ok X G (c.fact 36 (fun K => (He.Fa.glo "BadIndex").ok K)))
    (xinB_ok (c.fact 37 (fun K => xinB K (He.ga K "BadIndex") (He.ma K (He.ga K "BadIndex") "__init__"))))
    (noF_ok (c.fact 38 (fun K => noF (He.ga K "BadIndex") "what" K)))
    (He.glo_ok X G (c.fact 39 (fun K => (He.Fa.glo "BadLayer").ok K)))
    (xinB_ok (c.fact 40 (fun K => xinB K (He.ga K "BadLayer") (He.ma K (He.ga K "BadLayer") "__init__"))))
    (noF_ok (c.fact 41 (fun K => noF (He.ga K "BadLayer") "what" K)))
    (noF_ok (c.fact 42 (fun K => noF (He.ga K "BadLayer") "at" K)))
    (He.glo_ok X G (c.fact 43 (fun K => (He.Fa.glo "NoIndex").ok K)))
    (xinB_ok (c.fact 44 (fun K => xinB K (He.ga K "NoIndex") (He.ma K (He.ga K "NoIndex") "__init__"))))
    (noF_ok (c.fact 45 (fun K => noF (He.ga K "NoIndex") "index" K)))
    (He.glo_ok X G (c.fact 46 (fun K => (He.Fa.glo "BadTable").ok K)))
    (xinB_ok (c.fact 47 (fun K => xinB K (He.ga K "BadTable") (He.ma K (He.ga K "BadTable") "__init__"))))
    (noF_ok (c.fact 48 (fun K => noF (He.ga K "BadTable") "what" K)))
    (noF_ok (c.fact 49 (fun K => noF (He.ga K "BadTable") "at" K)))
    (He.glo_ok X G (c.fact 50 (fun K => (He.Fa.glo "NoLayer").ok K)))
    (xinB_ok (c.fact 51 (fun K => xinB K (He.ga K "NoLayer") (He.ma K (He.ga K "NoLayer") "__init__"))))
    (noF_ok (c.fact 52 (fun K => noF (He.ga K "NoLayer") "layer" K)))
    (He.glo_ok X G (c.fact 53 (fun K => (He.Fa.glo "BadStore").ok K)))
    (xinB_ok (c.fact 54 (fun K => xinB K (He.ga K "BadStore") (He.ma K (He.ga K "BadStore") "__init__"))))
    (noF_ok (c.fact 55 (fun K => noF (He.ga K "BadStore") "what" K)))
    (noF_ok (c.fact 56 (fun K => noF (He.ga K "BadStore") "at" K)))
    (He.glo_ok X G (c.fact 57 (fun K => (He.Fa.glo "NoTable").ok K)))
    (xinB_ok (c.fact 58 (fun K => xinB K (He.ga K "NoTable") (He.ma K (He.ga K "NoTable") "__init__"))))
    (noF_ok (c.fact 59 (fun K => noF (He.ga K "NoTable") "name" K)))
    (He.glo_ok X G (c.fact 60 (fun K => (He.Fa.glo "BadChange").ok K)))
    (xinB_ok (c.fact 61 (fun K => xinB K (He.ga K "BadChange") (He.ma K (He.ga K "BadChange") "__init__"))))
    (noF_ok (c.fact 62 (fun K => noF (He.ga K "BadChange") "at" K)))
    (He.glo_ok X G (c.fact 63 (fun K => (He.Fa.glo "BadKinds").ok K)))
    (x0B_ok (c.fact 64 (fun K => x0B K (He.ga K "BadKinds"))))
    (He.glo_ok X G (c.fact 65 (fun K => (He.Fa.glo "LayersFull").ok K)))
    (xinB_ok (c.fact 66 (fun K => xinB K (He.ga K "LayersFull") (He.ma K (He.ga K "LayersFull") "__init__"))))
    (noF_ok (c.fact 67 (fun K => noF (He.ga K "LayersFull") "name" K)))
    (He.glo_ok X G (c.fact 68 (fun K => (He.Fa.glo "BadNumber").ok K)))
    (xinB_ok (c.fact 69 (fun K => xinB K (He.ga K "BadNumber") (He.ma K (He.ga K "BadNumber") "__init__"))))
    (noF_ok (c.fact 70 (fun K => noF (He.ga K "BadNumber") "number" K)))
    (He.glo_ok X G (c.fact 71 (fun K => (He.Fa.glo "NotBefore").ok K)))
    (x0B_ok (c.fact 72 (fun K => x0B K (He.ga K "NotBefore"))))
    (He.glo_ok X G (c.fact 73 (fun K => (He.Fa.glo "BadQuestion").ok K)))
    (xinB_ok (c.fact 74 (fun K => xinB K (He.ga K "BadQuestion") (He.ma K (He.ga K "BadQuestion") "__init__"))))
    (noF_ok (c.fact 75 (fun K => noF (He.ga K "BadQuestion") "what" K)))
    (noF_ok (c.fact 76 (fun K => noF (He.ga K "BadQuestion") "at" K)))
    (He.glo_ok X G (c.fact 77 (fun K => (He.Fa.glo "Again").ok K)))
    (x0B_ok (c.fact 78 (fun K => x0B K (He.ga K "Again"))))
    (He.glo_ok X G (c.fact 79 (fun K => (He.Fa.glo "Foreign").ok K)))
    (x0B_ok (c.fact 80 (fun K => x0B K (He.ga K "Foreign"))))
    (He.glo_ok X G (c.fact 81 (fun K => (He.Fa.glo "NoPage").ok K)))
    (xinB_ok (c.fact 82 (fun K => xinB K (He.ga K "NoPage") (He.ma K (He.ga K "NoPage") "__init__"))))
    (noF_ok (c.fact 83 (fun K => noF (He.ga K "NoPage") "name" K)))
    (He.glo_ok X G (c.fact 84 (fun K => (He.Fa.glo "NoFactor").ok K)))
    (xinB_ok (c.fact 85 (fun K => xinB K (He.ga K "NoFactor") (He.ma K (He.ga K "NoFactor") "__init__"))))
    (noF_ok (c.fact 86 (fun K => noF (He.ga K "NoFactor") "what" K)))
    (He.glo_ok X G (c.fact 87 (fun K => (He.Fa.glo "NotUniform").ok K)))
    (x0B_ok (c.fact 88 (fun K => x0B K (He.ga K "NotUniform"))))
    (He.glo_ok X G (c.fact 89 (fun K => (He.Fa.glo "NotDecided").ok K)))
    (x0B_ok (c.fact 90 (fun K => x0B K (He.ga K "NotDecided"))))
    (He.glo_ok X G (c.fact 91 (fun K => (He.Fa.glo "Undetermined").ok K)))
    (x0B_ok (c.fact 92 (fun K => x0B K (He.ga K "Undetermined"))))
    (He.glo_ok X G (c.fact 93 (fun K => (He.Fa.glo "BadPaper").ok K)))
    (xinB_ok (c.fact 94 (fun K => xinB K (He.ga K "BadPaper") (He.ma K (He.ga K "BadPaper") "__init__"))))
    (noF_ok (c.fact 95 (fun K => noF (He.ga K "BadPaper") "line" K)))
    (noF_ok (c.fact 96 (fun K => noF (He.ga K "BadPaper") "what" K)))
    (He.glo_ok X G (c.fact 97 (fun K => (He.Fa.glo "NotDone").ok K)))
    (x0B_ok (c.fact 98 (fun K => x0B K (He.ga K "NotDone"))))
    (He.glo_ok X G (c.fact 99 (fun K => (He.Fa.glo "Unasked").ok K)))
    (x0B_ok (c.fact 100 (fun K => x0B K (He.ga K "Unasked"))))
    (He.glo_ok X G (c.fact 101 (fun K => (He.Fa.glo "TooMany").ok K)))
    (xinB_ok (c.fact 102 (fun K => xinB K (He.ga K "TooMany") (He.ma K (He.ga K "TooMany") "__init__"))))
    (noF_ok (c.fact 103 (fun K => noF (He.ga K "TooMany") "most" K)))
    (He.glo_ok X G (c.fact 104 (fun K => (He.Fa.glo "NotEnough").ok K)))
    (x0B_ok (c.fact 105 (fun K => x0B K (He.ga K "NotEnough"))))
    (He.glo_ok X G (c.fact 106 (fun K => (He.Fa.glo "KnownRow").ok K)))
    (xinB_ok (c.fact 107 (fun K => xinB K (He.ga K "KnownRow") (He.ma K (He.ga K "KnownRow") "__init__"))))
    (noF_ok (c.fact 108 (fun K => noF (He.ga K "KnownRow") "name" K)))
    (noF_ok (c.fact 109 (fun K => noF (He.ga K "KnownRow") "row" K)))
    (He.glo_ok X G (c.fact 110 (fun K => (He.Fa.glo "BadFoe").ok K)))
    (xinB_ok (c.fact 111 (fun K => xinB K (He.ga K "BadFoe") (He.ma K (He.ga K "BadFoe") "__init__"))))
    (noF_ok (c.fact 112 (fun K => noF (He.ga K "BadFoe") "what" K)))
    (He.glo_ok X G (c.fact 113 (fun K => (He.Fa.glo "BadPolicy").ok K)))
    (x0B_ok (c.fact 114 (fun K => x0B K (He.ga K "BadPolicy"))))
    (He.glo_ok X G (c.fact 115 (fun K => (He.Fa.glo "BadDead").ok K)))
    (xinB_ok (c.fact 116 (fun K => xinB K (He.ga K "BadDead") (He.ma K (He.ga K "BadDead") "__init__"))))
    (noF_ok (c.fact 117 (fun K => noF (He.ga K "BadDead") "at" K)))
    (He.glo_ok X G (c.fact 118 (fun K => (He.Fa.glo "NoSpread").ok K)))
    (xinB_ok (c.fact 119 (fun K => xinB K (He.ga K "NoSpread") (He.ma K (He.ga K "NoSpread") "__init__"))))
    (noF_ok (c.fact 120 (fun K => noF (He.ga K "NoSpread") "what" K)))
    (He.glo_ok X G (c.fact 121 (fun K => (He.Fa.glo "NotInDoubt").ok K)))
    (xinB_ok (c.fact 122 (fun K => xinB K (He.ga K "NotInDoubt") (He.ma K (He.ga K "NotInDoubt") "__init__"))))
    (noF_ok (c.fact 123 (fun K => noF (He.ga K "NotInDoubt") "point" K)))
    (He.glo_ok X G (c.fact 124 (fun K => (He.Fa.glo "BadDeed").ok K)))
    (x0B_ok (c.fact 125 (fun K => x0B K (He.ga K "BadDeed"))))
    (He.glo_ok X G (c.fact 126 (fun K => (He.Fa.glo "NotNewest").ok K)))
    (x0B_ok (c.fact 127 (fun K => x0B K (He.ga K "NotNewest"))))
    (He.glo_ok X G (c.fact 128 (fun K => (He.Fa.glo "NothingCut").ok K)))
    (x0B_ok (c.fact 129 (fun K => x0B K (He.ga K "NothingCut"))))
    (He.glo_ok X G (c.fact 130 (fun K => (He.Fa.glo "Unfit").ok K)))
    (xinB_ok (c.fact 131 (fun K => xinB K (He.ga K "Unfit") (He.ma K (He.ga K "Unfit") "__init__"))))
    (noF_ok (c.fact 132 (fun K => noF (He.ga K "Unfit") "name" K)))
    (He.glo_ok X G (c.fact 133 (fun K => (He.Fa.glo "NotKnown").ok K)))
    (xinB_ok (c.fact 134 (fun K => xinB K (He.ga K "NotKnown") (He.ma K (He.ga K "NotKnown") "__init__"))))
    (noF_ok (c.fact 135 (fun K => noF (He.ga K "NotKnown") "at" K)))
    (He.glo_ok X G (c.fact 136 (fun K => (He.Fa.glo "BadStory").ok K)))
    (xinB_ok (c.fact 137 (fun K => xinB K (He.ga K "BadStory") (He.ma K (He.ga K "BadStory") "__init__"))))
    (noF_ok (c.fact 138 (fun K => noF (He.ga K "BadStory") "line" K)))
    (He.eqO_ok (c.fact 139 (fun K => He.eqO (PySem.W.specialIn K (.builtin "object.__class__") "__get__") (some (some (.builtin "getset_descriptor.__get__"))))))
    (of_decide_eq_true (c.fact 140 (fun K => isB (PySem.W.takesIn K (.builtin "object.__class__")) true)))
    (He.eqO_ok (c.fact 141 (fun K => fndB K (He.ga K "BadWidths") "__class__" (.builtin "object.__class__"))))
    (mrB_ok (c.fact 142 (fun K => mrB K (He.ga K "BadWidths") (He.ga K "FetchError"))))
    (He.eqO_ok (c.fact 143 (fun K => fndB K (He.ga K "BadRow") "__class__" (.builtin "object.__class__"))))
    (mrB_ok (c.fact 144 (fun K => mrB K (He.ga K "BadRow") (He.ga K "FetchError"))))
    (He.eqO_ok (c.fact 145 (fun K => fndB K (He.ga K "BadBox") "__class__" (.builtin "object.__class__"))))
    (mrB_ok (c.fact 146 (fun K => mrB K (He.ga K "BadBox") (He.ga K "FetchError"))))
    (He.eqO_ok (c.fact 147 (fun K => fndB K (He.ga K "UnlikeBoxes") "__class__" (.builtin "object.__class__"))))
    (mrB_ok (c.fact 148 (fun K => mrB K (He.ga K "UnlikeBoxes") (He.ga K "FetchError"))))
    (He.eqO_ok (c.fact 149 (fun K => fndB K (He.ga K "BadColumn") "__class__" (.builtin "object.__class__"))))
    (mrB_ok (c.fact 150 (fun K => mrB K (He.ga K "BadColumn") (He.ga K "FetchError"))))
    (He.eqO_ok (c.fact 151 (fun K => fndB K (He.ga K "BadData") "__class__" (.builtin "object.__class__"))))
    (mrB_ok (c.fact 152 (fun K => mrB K (He.ga K "BadData") (He.ga K "FetchError"))))
    (He.eqO_ok (c.fact 153 (fun K => fndB K (He.ga K "BadText") "__class__" (.builtin "object.__class__"))))
    (mrB_ok (c.fact 154 (fun K => mrB K (He.ga K "BadText") (He.ga K "FetchError"))))
    (He.eqO_ok (c.fact 155 (fun K => fndB K (He.ga K "BadPage") "__class__" (.builtin "object.__class__"))))
    (mrB_ok (c.fact 156 (fun K => mrB K (He.ga K "BadPage") (He.ga K "FetchError"))))
    (He.eqO_ok (c.fact 157 (fun K => fndB K (He.ga K "BadIndex") "__class__" (.builtin "object.__class__"))))
    (mrB_ok (c.fact 158 (fun K => mrB K (He.ga K "BadIndex") (He.ga K "FetchError"))))
    (He.eqO_ok (c.fact 159 (fun K => fndB K (He.ga K "BadLayer") "__class__" (.builtin "object.__class__"))))
    (mrB_ok (c.fact 160 (fun K => mrB K (He.ga K "BadLayer") (He.ga K "FetchError"))))
    (He.eqO_ok (c.fact 161 (fun K => fndB K (He.ga K "NoIndex") "__class__" (.builtin "object.__class__"))))
    (mrB_ok (c.fact 162 (fun K => mrB K (He.ga K "NoIndex") (He.ga K "FetchError"))))
    (He.eqO_ok (c.fact 163 (fun K => fndB K (He.ga K "BadTable") "__class__" (.builtin "object.__class__"))))
    (mrB_ok (c.fact 164 (fun K => mrB K (He.ga K "BadTable") (He.ga K "FetchError"))))
    (He.eqO_ok (c.fact 165 (fun K => fndB K (He.ga K "NoLayer") "__class__" (.builtin "object.__class__"))))
    (mrB_ok (c.fact 166 (fun K => mrB K (He.ga K "NoLayer") (He.ga K "FetchError"))))
    (He.eqO_ok (c.fact 167 (fun K => fndB K (He.ga K "BadStore") "__class__" (.builtin "object.__class__"))))
    (mrB_ok (c.fact 168 (fun K => mrB K (He.ga K "BadStore") (He.ga K "FetchError"))))
    (He.eqO_ok (c.fact 169 (fun K => fndB K (He.ga K "NoTable") "__class__" (.builtin "object.__class__"))))
    (mrB_ok (c.fact 170 (fun K => mrB K (He.ga K "NoTable") (He.ga K "FetchError"))))
    (He.eqO_ok (c.fact 171 (fun K => fndB K (He.ga K "BadChange") "__class__" (.builtin "object.__class__"))))
    (mrB_ok (c.fact 172 (fun K => mrB K (He.ga K "BadChange") (He.ga K "FetchError"))))
    (He.eqO_ok (c.fact 173 (fun K => fndB K (He.ga K "BadKinds") "__class__" (.builtin "object.__class__"))))
    (mrB_ok (c.fact 174 (fun K => mrB K (He.ga K "BadKinds") (He.ga K "FetchError"))))
    (He.eqO_ok (c.fact 175 (fun K => fndB K (He.ga K "LayersFull") "__class__" (.builtin "object.__class__"))))
    (mrB_ok (c.fact 176 (fun K => mrB K (He.ga K "LayersFull") (He.ga K "FetchError"))))
    (He.eqO_ok (c.fact 177 (fun K => fndB K (He.ga K "BadNumber") "__class__" (.builtin "object.__class__"))))
    (mrB_ok (c.fact 178 (fun K => mrB K (He.ga K "BadNumber") (He.ga K "FetchError"))))
    (He.eqO_ok (c.fact 179 (fun K => fndB K (He.ga K "NotBefore") "__class__" (.builtin "object.__class__"))))
    (mrB_ok (c.fact 180 (fun K => mrB K (He.ga K "NotBefore") (He.ga K "FetchError"))))
    (He.eqO_ok (c.fact 181 (fun K => fndB K (He.ga K "BadQuestion") "__class__" (.builtin "object.__class__"))))
    (mrB_ok (c.fact 182 (fun K => mrB K (He.ga K "BadQuestion") (He.ga K "FetchError"))))
    (He.eqO_ok (c.fact 183 (fun K => fndB K (He.ga K "Again") "__class__" (.builtin "object.__class__"))))
    (mrB_ok (c.fact 184 (fun K => mrB K (He.ga K "Again") (He.ga K "FetchError"))))
    (He.eqO_ok (c.fact 185 (fun K => fndB K (He.ga K "Foreign") "__class__" (.builtin "object.__class__"))))
    (mrB_ok (c.fact 186 (fun K => mrB K (He.ga K "Foreign") (He.ga K "FetchError"))))
    (He.eqO_ok (c.fact 187 (fun K => fndB K (He.ga K "NoPage") "__class__" (.builtin "object.__class__"))))
    (mrB_ok (c.fact 188 (fun K => mrB K (He.ga K "NoPage") (He.ga K "FetchError"))))
    (He.eqO_ok (c.fact 189 (fun K => fndB K (He.ga K "NoFactor") "__class__" (.builtin "object.__class__"))))
    (mrB_ok (c.fact 190 (fun K => mrB K (He.ga K "NoFactor") (He.ga K "FetchError"))))
    (He.eqO_ok (c.fact 191 (fun K => fndB K (He.ga K "NotUniform") "__class__" (.builtin "object.__class__"))))
    (mrB_ok (c.fact 192 (fun K => mrB K (He.ga K "NotUniform") (He.ga K "FetchError"))))
    (He.eqO_ok (c.fact 193 (fun K => fndB K (He.ga K "NotDecided") "__class__" (.builtin "object.__class__"))))
    (mrB_ok (c.fact 194 (fun K => mrB K (He.ga K "NotDecided") (He.ga K "FetchError"))))
    (He.eqO_ok (c.fact 195 (fun K => fndB K (He.ga K "Undetermined") "__class__" (.builtin "object.__class__"))))
    (mrB_ok (c.fact 196 (fun K => mrB K (He.ga K "Undetermined") (He.ga K "FetchError"))))
    (He.eqO_ok (c.fact 197 (fun K => fndB K (He.ga K "BadPaper") "__class__" (.builtin "object.__class__"))))
    (mrB_ok (c.fact 198 (fun K => mrB K (He.ga K "BadPaper") (He.ga K "FetchError"))))
    (He.eqO_ok (c.fact 199 (fun K => fndB K (He.ga K "NotDone") "__class__" (.builtin "object.__class__"))))
    (mrB_ok (c.fact 200 (fun K => mrB K (He.ga K "NotDone") (He.ga K "FetchError"))))
    (He.eqO_ok (c.fact 201 (fun K => fndB K (He.ga K "Unasked") "__class__" (.builtin "object.__class__"))))
    (mrB_ok (c.fact 202 (fun K => mrB K (He.ga K "Unasked") (He.ga K "FetchError"))))
    (He.eqO_ok (c.fact 203 (fun K => fndB K (He.ga K "TooMany") "__class__" (.builtin "object.__class__"))))
    (mrB_ok (c.fact 204 (fun K => mrB K (He.ga K "TooMany") (He.ga K "FetchError"))))
    (He.eqO_ok (c.fact 205 (fun K => fndB K (He.ga K "NotEnough") "__class__" (.builtin "object.__class__"))))
    (mrB_ok (c.fact 206 (fun K => mrB K (He.ga K "NotEnough") (He.ga K "FetchError"))))
    (He.eqO_ok (c.fact 207 (fun K => fndB K (He.ga K "KnownRow") "__class__" (.builtin "object.__class__"))))
    (mrB_ok (c.fact 208 (fun K => mrB K (He.ga K "KnownRow") (He.ga K "FetchError"))))
    (He.eqO_ok (c.fact 209 (fun K => fndB K (He.ga K "BadFoe") "__class__" (.builtin "object.__class__"))))
    (mrB_ok (c.fact 210 (fun K => mrB K (He.ga K "BadFoe") (He.ga K "FetchError"))))
    (He.eqO_ok (c.fact 211 (fun K => fndB K (He.ga K "BadPolicy") "__class__" (.builtin "object.__class__"))))
    (mrB_ok (c.fact 212 (fun K => mrB K (He.ga K "BadPolicy") (He.ga K "FetchError"))))
    (He.eqO_ok (c.fact 213 (fun K => fndB K (He.ga K "BadDead") "__class__" (.builtin "object.__class__"))))
    (mrB_ok (c.fact 214 (fun K => mrB K (He.ga K "BadDead") (He.ga K "FetchError"))))
    (He.eqO_ok (c.fact 215 (fun K => fndB K (He.ga K "NoSpread") "__class__" (.builtin "object.__class__"))))
    (mrB_ok (c.fact 216 (fun K => mrB K (He.ga K "NoSpread") (He.ga K "FetchError"))))
    (He.eqO_ok (c.fact 217 (fun K => fndB K (He.ga K "NotInDoubt") "__class__" (.builtin "object.__class__"))))
    (mrB_ok (c.fact 218 (fun K => mrB K (He.ga K "NotInDoubt") (He.ga K "FetchError"))))
    (He.eqO_ok (c.fact 219 (fun K => fndB K (He.ga K "BadDeed") "__class__" (.builtin "object.__class__"))))
    (mrB_ok (c.fact 220 (fun K => mrB K (He.ga K "BadDeed") (He.ga K "FetchError"))))
    (He.eqO_ok (c.fact 221 (fun K => fndB K (He.ga K "NotNewest") "__class__" (.builtin "object.__class__"))))
    (mrB_ok (c.fact 222 (fun K => mrB K (He.ga K "NotNewest") (He.ga K "FetchError"))))
    (He.eqO_ok (c.fact 223 (fun K => fndB K (He.ga K "NothingCut") "__class__" (.builtin "object.__class__"))))
    (mrB_ok (c.fact 224 (fun K => mrB K (He.ga K "NothingCut") (He.ga K "FetchError"))))
    (He.eqO_ok (c.fact 225 (fun K => fndB K (He.ga K "Unfit") "__class__" (.builtin "object.__class__"))))
    (mrB_ok (c.fact 226 (fun K => mrB K (He.ga K "Unfit") (He.ga K "FetchError"))))
    (He.eqO_ok (c.fact 227 (fun K => fndB K (He.ga K "NotKnown") "__class__" (.builtin "object.__class__"))))
    (mrB_ok (c.fact 228 (fun K => mrB K (He.ga K "NotKnown") (He.ga K "FetchError"))))
    (He.eqO_ok (c.fact 229 (fun K => fndB K (He.ga K "BadStory") "__class__" (.builtin "object.__class__"))))
    (mrB_ok (c.fact 230 (fun K => mrB K (He.ga K "BadStory") (He.ga K "FetchError"))))
    (ndB_ok (xs := NM) (c.fact 231 (fun K => ndB K NM)))
    (gaB_ok (c.fact 232 (fun K => gaB K (He.ga K "BadWidths"))))
    (gaB_ok (c.fact 233 (fun K => gaB K (He.ga K "UnlikeBoxes"))))
    (gaB_ok (c.fact 234 (fun K => gaB K (He.ga K "BadData"))))
    (gaB_ok (c.fact 235 (fun K => gaB K (He.ga K "BadKinds"))))
    (gaB_ok (c.fact 236 (fun K => gaB K (He.ga K "NotBefore"))))
    (gaB_ok (c.fact 237 (fun K => gaB K (He.ga K "Again"))))
    (gaB_ok (c.fact 238 (fun K => gaB K (He.ga K "Foreign"))))
    (gaB_ok (c.fact 239 (fun K => gaB K (He.ga K "NotUniform"))))
    (gaB_ok (c.fact 240 (fun K => gaB K (He.ga K "NotDecided"))))
    (gaB_ok (c.fact 241 (fun K => gaB K (He.ga K "Undetermined"))))
    (gaB_ok (c.fact 242 (fun K => gaB K (He.ga K "NotDone"))))
    (gaB_ok (c.fact 243 (fun K => gaB K (He.ga K "Unasked"))))
    (gaB_ok (c.fact 244 (fun K => gaB K (He.ga K "NotEnough"))))
    (gaB_ok (c.fact 245 (fun K => gaB K (He.ga K "BadPolicy"))))
    (gaB_ok (c.fact 246 (fun K => gaB K (He.ga K "BadDeed"))))
    (gaB_ok (c.fact 247 (fun K => gaB K (He.ga K "NotNewest"))))
    (gaB_ok (c.fact 248 (fun K => gaB K (He.ga K "NothingCut"))))
abbrev RR : PySem.W.OpenRow := PySem.W.OpenLaw.row PySem.Challenge.rw_fewfetches_k99_errors_stand_apart
def names0 : List Str := ["FetchError", "BadWidths", "BadRow", "BadBox", "UnlikeBoxes", "BadColumn", "BadData", "BadText", "BadPage", "BadIndex", "BadLayer", "NoIndex", "BadTable", "NoLayer", "BadStore", "NoTable", "BadChange", "BadKinds", "LayersFull", "BadNumber", "NotBefore", "BadQuestion", "Again", "Foreign", "NoPage", "NoFactor", "NotUniform", "NotDecided", "Undetermined", "BadPaper"]
def names1 : List Str := ["NotDone", "Unasked", "TooMany", "NotEnough", "KnownRow", "BadFoe", "BadPolicy", "BadDead", "NoSpread", "NotInDoubt", "BadDeed", "NotNewest", "NothingCut", "Unfit", "NotKnown", "BadStory", "_law_bag", "_law_draw", "_law_classes"]
def names : List Str := names0 ++ names1
abbrev hk : PySem.W.Hook := hookX 5 FA FN
def ob (s : PySem.W.SharedT) : He.AlD := obsXG 5 FA FN (HandSHeadRun.getT s)
theorem ob_eq (s : PySem.W.SharedT) : ob s = hk.obs s.abs := obsXG_eq (HandSHeadRun.getT_eq s)
theorem run (w : World) : HandSHeadRun.RunEq RR (PySem.W.view RR.prog [51]) hk ob 12000 names w := by
  intro os
  kernel_rfl
end K99
open PySem PySem.W PySem.Calls PyProof.Rows
set_option maxRecDepth 100000 in
set_option maxHeartbeats 0 in
theorem PySem.Challenge.cw_fewfetches_k99_errors_stand_apart_holds : PySem.Challenge.rw_fewfetches_k99_errors_stand_apart.Holds := by
  w_on; o_law
  refine HandSHeadRun.head_any (r := OpenLaw.row PySem.Challenge.rw_fewfetches_k99_errors_stand_apart) (q := view (OpenLaw.row PySem.Challenge.rw_fewfetches_k99_errors_stand_apart).prog [51]) (H := K99.hk) (ob := K99.ob) (M := 12000) (loose := K99.names) (d := HandSHeadRun.topDef (OpenLaw.row PySem.Challenge.rw_fewfetches_k99_errors_stand_apart).prog 51) (kwd := []) K99.ob_eq
    (by kernel_rfl) (fun s => by kernel_rfl) K99.run (by kernel_rfl) (by kernel_rfl) (by kernel_rfl) (by rfl) (by first | assumption | decide +kernel) (by decide +kernel) ⟨rfl, rfl, rfl, rfl, rfl, by decide +kernel⟩ ?hw ?hc
  case hw => w_witness2
  case hc =>
    refine Fx.walk_ofGE (l := PySem.Challenge.rw_fewfetches_k99_errors_stand_apart) (n := 63) (k := 3) (x := "script") rfl (by decide) (by decide) (by kernel_rfl) ⟨rfl, by decide, by decide⟩ fun w mg fa h Y G hmg0 => ?_
    obtain ⟨K, KX, c⟩ := Y
    have hmg : mg ("law" : PySem.Str) = some (.ref fa) := by
      have e : (HandSHeadRun.topDef (OpenLaw.row PySem.Challenge.rw_fewfetches_k99_errors_stand_apart).prog 51).name = ("law" : PySem.Str) := by kernel_rfl
      rw [← e]
      exact hmg0
    obtain ⟨fd, hb, hF⟩ := K99.facts (P := (PySem.Challenge.rw_fewfetches_k99_errors_stand_apart).prog) (w := w) KX G hmg c
    exact ⟨K, fd, KX, hb, hF⟩

