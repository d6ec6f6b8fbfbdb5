import PyProof.Rows.All
import Wide.All
import OpenK.AllK
import Wide.FinOn
import HandS.ForMost
import HandS.ForExc
import HandS.EndBits
import HandS.Wide
import HandS.IsInst
import HandS.Defaults
import HandS.Deep
import HandS.Zip
import HandS.Rev
import HandS.TupAny
import HandS.Style
import HandS.Flow
import HandS.ExcInit
import HandS.Small
import HandS.Steps
import HandS.Conv
import KE.GoesNew
import KE.DatumIndex
import PyProof.ReprReads
import Flt.Len
import HandS.Evl
import HandS.ExcField
import PySem.Challenge.RW_fewfetches_k02_rows_by_their_numbers
set_option Elab.async false
set_option linter.all false
set_option maxRecDepth 100000
set_option maxHeartbeats 4000000
set_option autoImplicit false
namespace Co
open PySem L2
abbrev D := PyData
/-! ### heaps that grow: a base B of things that never change, within the heap H -/
theorem seqT_up {K : PySem.W.Frag} {H H' : Hp} {a : Addr} {xs : List V} (e : Same H H') (h : SqT K H a xs) : SqT K H' a xs := by
  rcases h with (h | ⟨o, h⟩) | h
  · exact .inl (.inl (e _ _ h))
  · exact .inl (.inr ⟨o, e _ _ h⟩)
  · exact .inr h
mutual
theorem dp_up {K : PySem.W.Frag} {H H' : Hp} (e : Same H H') : ∀ (d : D) (v : V), Dp K H v d → Dp K H' v d
  | .none, _, h => by cases h; exact .non
  | .bool b, _, h => by cases h; exact .bl b
  | .int i, _, h => by cases h; exact .int i
  | .str x, _, h => by cases h; exact .str x
  | .list ds, _, h => by
    cases h with
    | lst hs ha => exact .lst (e.seq hs) (dps_up e ds _ ha)
  | .tuple ds, _, h => by
    cases h with
    | tup hs ha => exact .tup (seqT_up e hs) (dps_up e ds _ ha)
  | .dict _, _, h => by cases h
theorem dps_up {K : PySem.W.Frag} {H H' : Hp} (e : Same H H') : ∀ (ds : List D) (vs : List V), DpAll K H vs ds → DpAll K H' vs ds
  | [], _, h => by cases h; exact .nil
  | d :: ds, _, h => by
    cases h with
    | cons h1 h2 => exact .cons (dp_up e d _ h1) (dps_up e ds _ h2)
end
/-- from base B and heap H to B' and H': what is new in the base is new in the heap; nothing of the heap changes but at M -/
structure Gm (M : Addr → Prop) (B H B' H' : Hp) : Prop where
  b : Same B B'
  i : Same B' H'
  r : ∀ a o, ¬ M a → H a = some o → H' a = some o
  f : ∀ a, B a = none → H a ≠ none → B' a = none
abbrev M0 : Addr → Prop := fun _ => False
abbrev Gw (B H B' H' : Hp) : Prop := Gm M0 B H B' H'
theorem Gm.same {B H B' H' : Hp} (g : Gw B H B' H') : Same H H' := fun a o h => g.r a o (fun z => z) h
theorem Gm.refl {M : Addr → Prop} {B H : Hp} (e : Same B H) : Gm M B H B H := ⟨Same.refl _, e, fun _ _ _ h => h, fun _ h _ => h⟩
theorem Gm.trans {M : Addr → Prop} {B H B1 H1 B2 H2 : Hp} (g : Gm M B H B1 H1) (h : Gm M B1 H1 B2 H2) (st : ∀ a, M a → H a ≠ none → H1 a ≠ none) : Gm M B H B2 H2 :=
  ⟨g.b.trans h.b, h.i, fun a o n q => h.r a o n (g.r a o n q), fun a q n => by
    refine h.f a (g.f a q n) ?_
    by_cases m : M a
    · exact st a m n
    · cases e : H a with
      | none => exact absurd e n
      | some o =>
        rw [g.r a o m e]
        intro z; cases z⟩
theorem Gm.weak {M M' : Addr → Prop} {B H B' H' : Hp} (g : Gm M B H B' H') (h : ∀ a, M a → M' a) : Gm M' B H B' H' := ⟨g.b, g.i, fun a o n q => g.r a o (fun z => n (h a z)) q, g.f⟩
theorem Gw.trans {B H B1 H1 B2 H2 : Hp} (g : Gw B H B1 H1) (h : Gw B1 H1 B2 H2) : Gw B H B2 H2 := Gm.trans g h fun _ m => m.elim
/-- a new object of the base -/
theorem Gw.new {B H : Hp} {p : Addr} {o : HO} (e : Same B H) (h : H p = none) : Gw B H (upd B p o) (upd H p o) where
  b := fun a u q => by rw [upd_ne (ne_of_none (e a u q) h)]; exact q
  i := fun a u q => by
    by_cases z : a = p
    · subst z; rw [upd_same] at q ⊢; exact q
    · rw [upd_ne z] at q ⊢; exact e a u q
  r := fun a u _ q => by rw [upd_ne (ne_of_none q h)]; exact q
  f := fun a q n => by
    have z : a ≠ p := fun z => n (by rw [z]; exact h)
    rw [upd_ne z]; exact q
/-- a new object that is not of the base -/
theorem Gw.own {B H : Hp} {p : Addr} {o : HO} (e : Same B H) (h : H p = none) : Gw B H B (upd H p o) where
  b := Same.refl _
  i := fun a u q => by rw [upd_ne (ne_of_none (e a u q) h)]; exact e a u q
  r := fun a u _ q => by rw [upd_ne (ne_of_none q h)]; exact q
  f := fun a q n => q
theorem base_none {B H : Hp} {p : Addr} (e : Same B H) (h : H p = none) : B p = none := by
  cases q : B p with
  | none => rfl
  | some o => rw [e p o q] at h; cases h
/-- an object that is not of the base changes -/
theorem Gm.mut {B H : Hp} {p : Addr} {o : HO} (e : Same B H) (h : B p = none) : Gm (· = p) B H B (upd H p o) where
  b := Same.refl _
  i := fun a u q => by rw [upd_ne (ne_of_none q h)]; exact e a u q
  r := fun a u n q => by rw [upd_ne n]; exact q
  f := fun a q n => q
def join (B B' : Hp) : Hp := fun a => match B a with
  | some o => some o
  | none => B' a
theorem join_l {B B' : Hp} {a : Addr} {o : HO} (h : B a = some o) : join B B' a = some o := by unfold join; rw [h]
theorem join_r {B B' : Hp} {a : Addr} (h : B a = none) : join B B' a = B' a := by unfold join; rw [h]
/-- a greater base -/
theorem Gm.widen {B H B' H' B1 : Hp} (g : Gw B H B' H') (e1 : Same B B1) (e2 : Same B1 H) : Gw B1 H (join B1 B') H' ∧ Same B' (join B1 B') := by
  have k : Same B' (join B1 B') := fun a o q => by
    cases z : B1 a with
    | none => rw [join_r z]; exact q
    | some u =>
      rw [join_l z]
      have h1 := g.same a u (e2 a u z)
      rw [g.i a o q] at h1
      exact h1.symm
  refine ⟨⟨fun a o q => join_l q, fun a o q => ?_, g.r, fun a q n => ?_⟩, k⟩
  · cases z : B1 a with
    | none => rw [join_r z] at q; exact g.i a o q
    | some u =>
      rw [join_l z] at q
      cases q
      exact g.same a _ (e2 a _ z)
  · rw [join_r q]
    refine g.f a ?_ n
    cases z : B a with
    | none => rfl
    | some o => rw [e1 a o z] at q; cases q
/-! ### what evaluates to which data -/
section
variable {K : PySem.W.Frag}
def DE (K : PySem.W.Frag) (te : TE) (σ : St) (B : Hp) (d : D) : Prop := ∀ H, Same B H → ∀ Q : VK, (∀ v B' H', Gw B H B' H' → Dp K B' v d → Q v H') → te σ H Q
def DA (K : PySem.W.Frag) (ta : TA) (σ : St) (B : Hp) (ds : List D) : Prop := ∀ H, Same B H → ∀ Q : List V → Hp → Prop, (∀ vs B' H', Gw B H B' H' → DpAll K B' vs ds → Q vs H') → ta σ H Q
def DT (tt : TT) (σ : St) (B : Hp) (b : Bool) : Prop := ∀ H, Same B H → ∀ Q : Bool → Hp → Prop, (∀ B' H', Gw B H B' H' → Q b H') → tt σ H Q
def DO (to : TO) (σ : St) (B : Hp) (o : Option Int) : Prop := ∀ H, Same B H → ∀ Q : Option Int → Hp → Prop, (∀ B' H', Gw B H B' H' → Q o H') → to σ H Q
def RD (K : PySem.W.Frag) (r : R2) (x y d : D) : Prop := ∀ B H u v, Same B H → Dp K B u x → Dp K B v y → ∀ Q : VK, (∀ w B' H', Gw B H B' H' → Dp K B' w d → Q w H') → r u v H Q
def CD (K : PySem.W.Frag) (r : List V → Hp → VK → Prop) (ds : List D) (d : D) : Prop := ∀ B H vs, Same B H → DpAll K B vs ds → ∀ Q : VK, (∀ w B' H', Gw B H B' H' → Dp K B' w d → Q w H') → r vs H Q
def SD (K : PySem.W.Frag) (r : V → Option Int → Option Int → Hp → VK → Prop) (x : D) (l u : Option Int) (d : D) : Prop := ∀ B H v, Same B H → Dp K B v x → ∀ Q : VK, (∀ w B' H', Gw B H B' H' → Dp K B' w d → Q w H') → r v l u H Q
/-- a def whose answer is such data -/
def PD (K : PySem.W.Frag) (sp : Sp) (ds : List D) (d : D) : Prop := ∀ B H vs, Same B H → DpAll K B vs ds → ∀ (Q : VK) (E : XK), (∀ w B' H', Gw B H B' H' → Dp K B' w d → Q w H') → sp vs H Q E
variable {σ : St} {B B1 H : Hp} {d d1 d2 x y : D} {te ta tb : TE} {tt uu : TT}
theorem DE.up (h : DE K te σ B d) (e : Same B B1) : DE K te σ B1 d := fun H e1 Q q => h H (e.trans e1) Q fun v B' H' g r => by
  obtain ⟨g', k⟩ := g.widen e e1
  exact q v _ H' g' (dp_up k _ _ r)
theorem DA.up {ta : TA} {ds : List D} (h : DA K ta σ B ds) (e : Same B B1) : DA K ta σ B1 ds := fun H e1 Q q => h H (e.trans e1) Q fun v B' H' g r => by
  obtain ⟨g', k⟩ := g.widen e e1
  exact q v _ H' g' (dps_up k _ _ r)
theorem DT.up {b : Bool} (h : DT tt σ B b) (e : Same B B1) : DT tt σ B1 b := fun H e1 Q q => h H (e.trans e1) Q fun B' H' g => by
  obtain ⟨g', k⟩ := g.widen e e1
  exact q _ H' g'
theorem de_is (h : DE K te σ B d) (e : d = d1) : DE K te σ B d1 := e ▸ h
theorem dt_is {a b : Bool} (h : DT tt σ B a) (e : a = b) : DT tt σ B b := e ▸ h
theorem de_var {i : Nat} {v : V} (h : σ[i]? = some (some v)) (r : Dp K B v d) : DE K (tVar i) σ B d := fun H e _ q => ⟨v, h, q v B H (.refl e) r⟩
theorem de_c {v : V} (r : ∀ B, Dp K B v d) : DE K (tC v) σ B d := fun H e _ q => q v B H (.refl e) (r B)
theorem de_int {i : Int} : DE K (tC (.int i)) σ B (.int i) := de_c fun _ => .int i
theorem de_bl {i : Bool} : DE K (tC (.bl i)) σ B (.bool i) := de_c fun _ => .bl i
theorem de_str {i : Str} : DE K (tC (.str i)) σ B (.str i) := de_c fun _ => .str i
theorem de_non : DE K (tC .non) σ B .none := de_c fun _ => .non
theorem de_op {r : R2} (ha : DE K ta σ B x) (hb : DE K tb σ B y) (hr : RD K r x y d) : DE K (tOp r ta tb) σ B d := fun H e Q q =>
  ha H e _ fun u B1 H1 g1 r1 => hb.up g1.b H1 g1.i _ fun v B2 H2 g2 r2 => hr B2 H2 u v g2.i (dp_up g2.b _ _ r1) r2 Q fun w B3 H3 g3 r3 => q w B3 H3 ((g1.trans g2).trans g3) r3
theorem da_nil : DA K tNil σ B [] := fun H e _ q => q [] B H (.refl e) .nil
theorem da_cons {tr : TA} {ds : List D} (h : DE K te σ B d) (hr : DA K tr σ B ds) : DA K (tCons te tr) σ B (d :: ds) := fun H e Q q =>
  h H e _ fun u B1 H1 g1 r1 => hr.up g1.b H1 g1.i _ fun vs B2 H2 g2 r2 => q _ B2 H2 (g1.trans g2) (.cons (dp_up g2.b _ _ r1) r2)
theorem dpall_len {vs : List V} : ∀ {ds : List D}, DpAll K B vs ds → vs.length = ds.length := by
  induction vs with
  | nil => intro ds h; cases h; rfl
  | cons v vs ih => intro ds h; cases h with | cons h1 h2 => rw [List.length_cons, List.length_cons, ih h2]
theorem de_tup {t : TA} {ds : List D} (h : DA K t σ B ds) (hl : ds.length ≤ 100000) : DE K (tTup t) σ B (.tuple ds) := fun H e Q q =>
  h H e _ fun vs B1 H1 g1 r1 => ⟨Nat.le_trans (by rw [dpall_len r1]; exact hl) (by decide), fun p hp => q _ (upd B1 p (.tup vs)) _ (g1.trans (Gw.new g1.i hp)) (.tup (.inl (.inl upd_same)) (dps_up (Gw.new g1.i hp).b _ _ r1))⟩
theorem de_lst {t : TA} {ds : List D} (h : DA K t σ B ds) (hl : ds.length ≤ 100000) : DE K (tLst t) σ B (.list ds) := fun H e Q q =>
  h H e _ fun vs B1 H1 g1 r1 => ⟨Nat.le_trans (by rw [dpall_len r1]; exact hl) (by decide), fun p hp => q _ (upd B1 p (.lst vs)) _ (g1.trans (Gw.new g1.i hp)) (.lst (.inl (.inl upd_same)) (dps_up (Gw.new g1.i hp).b _ _ r1))⟩
theorem de_cb {r : List V → Hp → VK → Prop} {t : TA} {ds : List D} (h : DA K t σ B ds) (hr : CD K r ds d) : DE K (tCB r t) σ B d := fun H e Q q =>
  h H e _ fun vs B1 H1 g1 r1 => hr B1 H1 vs g1.i r1 Q fun w B2 H2 g2 r2 => q w B2 H2 (g1.trans g2) r2
theorem dpall_app {vs ws : List V} {ds es : List D} (h : DpAll K B vs ds) (k : DpAll K B ws es) : DpAll K B (vs ++ ws) (ds ++ es) := by
  induction vs generalizing ds with
  | nil => cases h; exact k
  | cons v vs ih => cases h with | cons h1 h2 => exact .cons h1 (ih h2)
theorem de_call {sp : Sp} {dvs : List V} {E : XK} {t : TA} {ds es : List D} (h : DA K t σ B ds) (hd : ∀ B, DpAll K B dvs es) (hs : PD K sp (ds ++ es) d) : DE K (tCall sp dvs E t) σ B d := fun H e Q q =>
  h H e _ fun vs B1 H1 g1 r1 => hs B1 H1 _ g1.i (dpall_app r1 (hd _)) Q E fun w B2 H2 g2 r2 => q w B2 H2 (g1.trans g2) r2
theorem de_andV {a b : Bool} (h1 : DE K ta σ B (.bool a)) (h2 : a = true → DE K tb σ B (.bool b)) : DE K (tAndV ta tb) σ B (.bool (a && b)) := fun H e Q q => h1 H e _ fun u B1 H1 g1 r1 => by
  cases r1
  refine ⟨a, rfl, ?_⟩
  cases a with
  | true => exact iteT ((h2 rfl).up g1.b H1 g1.i _ fun w B2 H2 g2 r2 => q w B2 H2 (g1.trans g2) r2)
  | false => exact iteF (q _ B1 H1 g1 (.bl false))
theorem de_orV {a b : Bool} (h1 : DE K ta σ B (.bool a)) (h2 : a = false → DE K tb σ B (.bool b)) : DE K (tOrV ta tb) σ B (.bool (a || b)) := fun H e Q q => h1 H e _ fun u B1 H1 g1 r1 => by
  cases r1
  refine ⟨a, rfl, ?_⟩
  cases a with
  | true => exact iteT (q _ B1 H1 g1 (.bl true))
  | false => exact iteF ((h2 rfl).up g1.b H1 g1.i _ fun w B2 H2 g2 r2 => q w B2 H2 (g1.trans g2) r2)
theorem de_notV {a : Bool} (h1 : DE K ta σ B (.bool a)) : DE K (tNotV ta) σ B (.bool (!a)) := fun H e Q q => h1 H e _ fun u B1 H1 g1 r1 => by
  cases r1
  exact ⟨a, rfl, q _ B1 H1 g1 (.bl _)⟩
theorem de_if {b : Bool} (h : DT tt σ B b) (h1 : b = true → DE K ta σ B d) (h2 : b = false → DE K tb σ B d) : DE K (tIf tt ta tb) σ B d := fun H e Q q => h H e _ fun B1 H1 g1 => by
  cases b with
  | true => exact iteT ((h1 rfl).up g1.b H1 g1.i _ fun w B2 H2 g2 r2 => q w B2 H2 (g1.trans g2) r2)
  | false => exact iteF ((h2 rfl).up g1.b H1 g1.i _ fun w B2 H2 g2 r2 => q w B2 H2 (g1.trans g2) r2)
theorem de_ifb {b : Bool} {e1 e2 : D} (h : DT tt σ B b) (h1 : b = true → DE K ta σ B e1) (h2 : b = false → DE K tb σ B e2) : DE K (tIf tt ta tb) σ B (if b = true then e1 else e2) := by
  refine de_if h (fun q => ?_) fun q => ?_
  · subst q; exact h1 rfl
  · subst q; exact h2 rfl
/-! tests -/
theorem dt_test {b : Bool} (h : DE K te σ B (.bool b)) : DT (tTest te) σ B b := fun H e _ q => h H e _ fun u B1 H1 g1 r1 => by
  cases r1; exact ⟨b, rfl, q B1 H1 g1⟩
theorem dt_B {b : Bool} (h : DE K te σ B (.bool b)) : DT (tB te) σ B b := fun H e _ q => h H e _ fun u B1 H1 g1 r1 => by
  cases r1; exact ⟨b, rfl, q B1 H1 g1⟩
theorem dt_and {a b : Bool} (h1 : DT tt σ B a) (h2 : a = true → DT uu σ B b) : DT (tAnd tt uu) σ B (a && b) := fun H e Q q => h1 H e _ fun B1 H1 g1 => by
  cases a with
  | true => exact iteT ((h2 rfl).up g1.b H1 g1.i _ fun B2 H2 g2 => q B2 H2 (g1.trans g2))
  | false => exact iteF (q B1 H1 g1)
theorem dt_or {a b : Bool} (h1 : DT tt σ B a) (h2 : a = false → DT uu σ B b) : DT (tOr tt uu) σ B (a || b) := fun H e Q q => h1 H e _ fun B1 H1 g1 => by
  cases a with
  | true => exact iteT (q B1 H1 g1)
  | false => exact iteF ((h2 rfl).up g1.b H1 g1.i _ fun B2 H2 g2 => q B2 H2 (g1.trans g2))
theorem dt_not {a : Bool} (h1 : DT tt σ B a) : DT (tNot tt) σ B (!a) := fun H e Q q => h1 H e _ fun B1 H1 g1 => q B1 H1 g1
theorem de_chain {r r' : R2} {tc : TE} {z : D} {a b : Bool} (ha : DE K ta σ B x) (hb : DE K tb σ B y) (hr : RD K r x y (.bool a)) (hc : a = true → DE K tc σ B z) (hr' : a = true → RD K r' y z (.bool b)) : DE K (tChain r r' ta tb tc) σ B (.bool (a && b)) := fun H e Q q =>
  ha H e _ fun u B1 H1 g1 r1 => hb.up g1.b H1 g1.i _ fun v B2 H2 g2 r2 => hr B2 H2 u v g2.i (dp_up g2.b _ _ r1) r2 _ fun w B3 H3 g3 r3 => by
    cases r3
    refine ⟨a, rfl, ?_⟩
    have g13 := (g1.trans g2).trans g3
    cases a with
    | true => exact iteT ((hc rfl).up g13.b H3 g13.i _ fun w B4 H4 g4 r4 => hr' rfl B4 H4 v w g4.i (dp_up (g3.b.trans g4.b) _ _ r2) r4 Q fun w' B5 H5 g5 r5 => q w' B5 H5 ((g13.trans g4).trans g5) r5)
    | false => exact iteF (q _ B3 H3 g13 (.bl false))
/-! ### operators on data -/
theorem rd_I0 {g : Int → Int → V} {i j : Int} (h : ∀ B, Dp K B (g i j) d) : RD K (rI0 g) (.int i) (.int j) d := fun B H u v e hu hv Q q => by
  cases hu; cases hv
  exact ⟨i, j, rfl, rfl, q _ B H (.refl e) (h B)⟩
theorem rd_I {C : Int → Int → Prop} {g : Int → Int → V} {i j : Int} (hc : C i j) (h : ∀ B, Dp K B (g i j) d) : RD K (rI C g) (.int i) (.int j) d := fun B H u v e hu hv Q q => by
  cases hu; cases hv
  exact ⟨i, j, rfl, rfl, hc, q _ B H (.refl e) (h B)⟩
def rAddA (K : PySem.W.Frag) : R2 := fun x y H Q => rI0 (fun i j => .int (i + j)) x y H Q ∨ (∃ i j, x = .str i ∧ y = .str j ∧ i.length + j.length ≤ sizeLine ∧ Q (.str (i ++ j)) H) ∨ rCat x y H Q ∨ rCatA K x y H Q
theorem op_addA {X : Cx} : OpR X (binaryOp .Add) (rAddA X.K) := OpR.or op_add (OpR.or op_add_str (OpR.or op_cat op_catA))
theorem rd_addI {i j : Int} : RD K (rAddA K) (.int i) (.int j) (.int (i + j)) := fun B H u v e hu hv Q q => .inl (rd_I0 (fun _ => .int _) B H u v e hu hv Q q)
theorem rd_addS {i j : Str} (h : i.length + j.length ≤ 100000) : RD K (rAddA K) (.str i) (.str j) (.str (i ++ j)) := fun B H u v e hu hv Q q => by
  cases hu; cases hv
  exact .inr (.inl ⟨i, j, rfl, rfl, Nat.le_trans h (by decide), q _ B H (.refl e) (.str _)⟩)
theorem rd_addT {xs ys : List D} (h : xs.length + ys.length ≤ 100000) : RD K (rAddA K) (.tuple xs) (.tuple ys) (.tuple (xs ++ ys)) := fun B H u v e hu hv Q q => by
  cases hu with
  | tup hs ha =>
    cases hv with
    | tup hs' ha' =>
      rename_i a us b vs
      have l1 := dpall_len ha
      have l2 := dpall_len ha'
      refine .inr (.inr (.inr ⟨a, b, us, vs, rfl, rfl, seqT_up e hs, seqT_up e hs', by rw [l1, l2]; exact Nat.le_trans h (by decide), fun z => ?_, fun n z => ?_, fun n1 n2 p hp => ?_⟩))
      · subst z
        cases ha
        exact q _ B H (.refl e) (.tup hs' ha')
      · subst z
        cases ha'
        rw [List.append_nil] at q
        exact q _ B H (.refl e) (.tup hs ha)
      · exact q _ (upd B p _) _ (Gw.new e hp) (.tup (.inl (.inl upd_same)) (dps_up (Gw.new e hp).b _ _ (dpall_app ha ha')))
theorem rd_sub {i j : Int} : RD K (rI0 fun i j => .int (i - j)) (.int i) (.int j) (.int (i - j)) := rd_I0 fun _ => .int _
theorem rd_lt {i j : Int} : RD K (rI0 fun i j => .bl (decide (i < j))) (.int i) (.int j) (.bool (decide (i < j))) := rd_I0 fun _ => .bl _
theorem rd_le {i j : Int} : RD K (rI0 fun i j => .bl (decide (i ≤ j))) (.int i) (.int j) (.bool (decide (i ≤ j))) := rd_I0 fun _ => .bl _
theorem rd_gt {i j : Int} : RD K (rI0 fun i j => .bl (decide (j < i))) (.int i) (.int j) (.bool (decide (j < i))) := rd_I0 fun _ => .bl _
theorem rd_ge {i j : Int} : RD K (rI0 fun i j => .bl (decide (j ≤ i))) (.int i) (.int j) (.bool (decide (j ≤ i))) := rd_I0 fun _ => .bl _
theorem rd_mul {i j : Int} (h : (-(2 ^ 64) < i ∧ i < 2 ^ 64) ∨ (-(2 ^ 64) < j ∧ j < 2 ^ 64)) : RD K (rI CMul fun i j => .int (i * j)) (.int i) (.int j) (.int (i * j)) := rd_I h fun _ => .int _
theorem rd_mod {i j : Int} (h : 0 < j) : RD K (rI (fun _ j => 0 < j) fun i j => .int (i % j)) (.int i) (.int j) (.int (i % j)) := rd_I h fun _ => .int _
theorem rd_div {i j : Int} (h : 0 < j) (h2 : j.natAbs.log2 < 9000) : RD K (rI CDivW fun i j => .int (i / j)) (.int i) (.int j) (.int (i / j)) := rd_I ⟨h, h2⟩ fun _ => .int _
theorem rd_eqD (h1 : SeqAt.shaped x = true) (h2 : SeqAt.shaped y = true) : RD K (rEqD K) x y (.bool (PyData.eqv x y)) := fun B H u v e hu hv Q q => ⟨x, y, dp_up e _ _ hu, dp_up e _ _ hv, h1, h2, q _ B H (.refl e) (.bl _)⟩
theorem rd_neD (h1 : SeqAt.shaped x = true) (h2 : SeqAt.shaped y = true) : RD K (rNeD K) x y (.bool (!PyData.eqv x y)) := fun B H u v e hu hv Q q => ⟨x, y, dp_up e _ _ hu, dp_up e _ _ hv, h1, h2, q _ B H (.refl e) (.bl _)⟩
def isNone : D → Bool
  | .none => true
  | _ => false
theorem dec_non {B : Hp} {v : V} (h : Dp K B v x) : decide (v = V.non) = isNone x := by
  cases h <;> first | rfl | exact decide_eq_false (fun z => nomatch z)
theorem rd_isN : RD K rIsN x .none (.bool (isNone x)) := fun B H u v e hu hv Q q => by
  cases hv
  refine ⟨rfl, ?_⟩
  rw [dec_non hu]
  exact q _ B H (.refl e) (.bl _)
theorem rd_notN : RD K rNotN x .none (.bool (!isNone x)) := fun B H u v e hu hv Q q => by
  cases hv
  refine ⟨rfl, ?_⟩
  rw [dec_non hu]
  exact q _ B H (.refl e) (.bl _)
end
end Co
namespace Co
open PySem PyProof.Rows L2
/-! ### for x in a list or a tuple -/
def iSeq (K : PySem.W.Frag) (te : TE) : TI := fun σ H R => te σ H fun v H1 => ∃ a xs, v = .ref a ∧ ((SqL K H1 a xs ∧ R (Itl K a) H1) ∨ (SqT K H1 a xs ∧ R (Itt K a) H1))
theorem pi_seq {X : Cx} {tg l : Expr} {tl : TE} (hl : PE X l tl) : PI X tg l (iSeq X.K tl) := by
  refine ⟨fun pins s σ H R I h => ?_⟩
  refine thn (hl.run pins s σ H _ I h) fun v s1 ⟨x, H1, I1, r1, a, xs, e, q⟩ => ?_
  subst e
  cases r1
  have fr : ∀ c ∈ [s1.heap.objs.size], FpOk X pins H1 c := fun c hc => by
    rw [List.mem_singleton.mp hc]
    exact I1.fpOk (Nat.le_refl _) (I1.hok.fresh (Nat.le_refl _))
  rcases q with ⟨hq, q⟩ | ⟨hq, q⟩
  · obtain ⟨its, rv, p, _⟩ := I1.list hq
    exact wpAny_pyIter_list p.isList ⟨s1.heap.objs.size, [s1.heap.objs.size], _, _, H1, rfl, I1.kept (t' := s1.toks) fun b o e => Heap.get?_push_of_some _ e, turn_list a _, ⟨_, Heap.get?_push_size _ rfl, rfl, rfl⟩, fr, q⟩
  · obtain ⟨its, rv, p, _⟩ := I1.tuple hq
    exact wpAny_pyIter_tuple (show s1.heap.IsTuple a its.toArray from p) ⟨s1.heap.objs.size, [s1.heap.objs.size], _, _, H1, rfl, I1.kept (t' := s1.toks) fun b o e => Heap.get?_push_of_some _ e, turn_tuple a _, ⟨_, Heap.get?_push_size _ rfl, rfl, rfl⟩, fr, q⟩
inductive SeqD : D → List D → Prop
  | l (ds : List D) : SeqD (.list ds) ds
  | t (ds : List D) : SeqD (.tuple ds) ds
section
variable {K : PySem.W.Frag} {σ : L2.St} {B B1 H : Hp} {d d1 d2 x y : D} {te ta tb tc : TE} {tt uu : TT}
/-! ### isinstance -/
def tyName : D → String
  | .none => "NoneType"
  | .bool _ => "bool"
  | .int _ => "int"
  | .str _ => "str"
  | .list _ => "list"
  | .tuple _ => "tuple"
  | .dict _ => "dict"
theorem tyx_of {v : V} (h : Dp K H v x) : TyX K H v (.type (tyName x)) := by
  cases h with
  | non => exact .base .non
  | bl b => exact .base (.bl b)
  | int i => exact .base (.int i)
  | str i => exact .base (.str i)
  | lst h _ =>
    rcases h with (h | ⟨o, h⟩) | ⟨o, its, n, hk, hc, _⟩
    · exact .base (.lst h)
    · exact .base (.frz h)
    · exact .kList hk hc
  | tup h _ =>
    rcases h with (h | ⟨o, h⟩) | ⟨o, its, n, hk, hc, _⟩
    · exact .base (.tup h)
    · exact .fTuple h
    · exact .kTuple hk hc
inductive Ty where
  | int | bool | str | list | tuple
def Ty.nm : Ty → String
  | .int => "int"
  | .bool => "bool"
  | .str => "str"
  | .list => "list"
  | .tuple => "tuple"
def isA : D → Ty → Bool
  | .int _, .int => true
  | .bool _, .int => true
  | .bool _, .bool => true
  | .str _, .str => true
  | .list _, .list => true
  | .tuple _, .tuple => true
  | _, _ => false
theorem kit_isA (k : Ty) : kitB (tyName x) k.nm = some (isA x k) := by
  cases k <;> cases x <;> (show kitB _ _ = _) <;> (simp only [tyName, Ty.nm, isA]) <;> decide +kernel
theorem de_isi (n : Ty) (ha : DE K ta σ B x) : DE K (tCB (rIsi K) (tCons ta (tCons (tC (.ty n.nm)) tNil))) σ B (.bool (isA x n)) := fun H e Q q =>
  ha H e _ fun u B1 H1 g1 r1 => ⟨u, .ty n.nm, .type (tyName x), .type n.nm, isA x n, rfl, .ty n.nm, tyx_of (dp_up g1.i _ _ r1), kit_ty (kit_isA n), q _ B1 H1 g1 (.bl _)⟩
theorem de_isiT (n m : Ty) (ha : DE K ta σ B x) : DE K (tCB (rIsiT K) (tCons ta (tCons (tTup (tCons (tC (.ty n.nm)) (tCons (tC (.ty m.nm)) tNil))) tNil))) σ B (.bool (isA x n || isA x m)) := fun H e Q q =>
  ha H e _ fun u B1 H1 g1 r1 => ⟨by show 2 ≤ sizeLine; decide, fun p hp => by
    have g2 : Gw B1 H1 (upd B1 p (.tup [.ty n.nm, .ty m.nm])) (upd H1 p (.tup [.ty n.nm, .ty m.nm])) := Gw.new g1.i hp
    refine ⟨u, p, _, .type (tyName x), [.type n.nm, .type m.nm], isA x n || isA x m, rfl, upd_same, .cons (.ty n.nm) (.cons (.ty m.nm) .nil), tyx_of (dp_up (g1.i.trans g2.same) _ _ r1), ?_, q _ _ _ (g1.trans g2) (.bl _)⟩
    refine kitAny_cons (kit_ty (kit_isA n)) (fun z => ?_) (fun z => by rw [z]; rfl)
    rw [z]
    refine kitAny_cons (kit_ty (kit_isA m)) (fun z' => ?_) (fun z' => by rw [z']; rfl)
    rw [z']
    exact kitAny_nil⟩
/-! ### subscripts, slices -/
theorem dpall_get {vs : List V} : ∀ {ds : List D} {i : Nat} {d : D}, DpAll K B vs ds → ds[i]? = some d → ∃ v, vs[i]? = some v ∧ Dp K B v d := by
  induction vs with
  | nil => intro ds i d h e; cases h; simp at e
  | cons v vs ih =>
    intro ds i d h e
    cases h with
    | cons h1 h2 =>
      cases i with
      | zero => simp at e; subst e; exact ⟨v, by simp, h1⟩
      | succ i => obtain ⟨w, a, b⟩ := ih (i := i) h2 (by simpa using e); exact ⟨w, by simpa using a, b⟩
theorem dpall_mk {vs : List V} : ∀ {ds : List D}, vs.length = ds.length → (∀ (i : Nat) (v : V) (d : D), vs[i]? = some v → ds[i]? = some d → Dp K B v d) → DpAll K B vs ds := by
  induction vs with
  | nil => intro ds h _; cases ds with
    | nil => exact .nil
    | cons => simp at h
  | cons v vs ih => intro ds h k; cases ds with
    | nil => simp at h
    | cons d ds => exact .cons (k 0 v d (by simp) (by simp)) (ih (by simpa using h) fun i v d a b => k (i + 1) v d (by simpa using a) (by simpa using b))
theorem dpall_take {vs : List V} : ∀ {ds : List D} (n : Nat), DpAll K B vs ds → DpAll K B (vs.take n) (ds.take n) := by
  induction vs with
  | nil => intro ds n h; cases h; simp; exact .nil
  | cons v vs ih => intro ds n h; cases h with
    | cons h1 h2 => cases n with
      | zero => exact .nil
      | succ n => exact .cons h1 (ih n h2)
theorem dpall_drop {vs : List V} : ∀ {ds : List D} (n : Nat), DpAll K B vs ds → DpAll K B (vs.drop n) (ds.drop n) := by
  induction vs with
  | nil => intro ds n h; cases h; simp; exact .nil
  | cons v vs ih => intro ds n h; cases n with
    | zero => exact h
    | succ n => cases h with | cons h1 h2 => exact ih n h2
theorem atI_get {α : Type} {xs : List α} {i : Int} {v : α} (h0 : 0 ≤ i) (h : xs[i.toNat]? = some v) : atI xs i = some v := by
  have e := atI_nat h
  have z : ((i.toNat : Nat) : Int) = i := Int.toNat_of_nonneg h0
  rw [z] at e
  exact e
theorem rd_ixL {xs : List D} {i : Int} (h0 : 0 ≤ i) (h : xs[i.toNat]? = some d) : RD K (rIx K) (.list xs) (.int i) d := fun B H u v e hu hv Q q => by
  cases hv
  cases hu with
  | lst hs ha =>
    obtain ⟨w, e1, r⟩ := dpall_get ha h
    exact .inl ⟨_, _, i, w, rfl, rfl, e.seq hs, atI_get h0 e1, q w B H (.refl e) r⟩
theorem rd_ixT {xs : List D} {i : Int} (h0 : 0 ≤ i) (h : xs[i.toNat]? = some d) : RD K (rIx K) (.tuple xs) (.int i) d := fun B H u v e hu hv Q q => by
  cases hv
  cases hu with
  | tup hs ha =>
    obtain ⟨w, e1, r⟩ := dpall_get ha h
    exact .inr (.inl ⟨_, _, i, w, rfl, rfl, seqT_up e hs, atI_get h0 e1, q w B H (.refl e) r⟩)
theorem rd_ixS {z : Str} {i : Int} {c : Nat} (hz : z.length ≤ 100000) (h : atI z.cps.toList i = some c) : RD K (rIx K) (.str z) (.int i) (.str ⟨#[c]⟩) := fun B H u v e hu hv Q q => by
  cases hv; cases hu
  exact .inr (.inr ⟨z, i, c, rfl, rfl, Nat.le_trans hz (by decide), h, q _ B H (.refl e) (.str _)⟩)
theorem do_none : DO tNoPart σ B none := fun H e _ q => q B H (.refl e)
theorem do_some {i : Int} (h : DE K te σ B (.int i)) : DO (tPart te) σ B (some i) := fun H e _ q => h H e _ fun u B1 H1 g1 r1 => by
  cases r1; exact ⟨i, rfl, q B1 H1 g1⟩
theorem DO.up {to : TO} {o : Option Int} (h : DO to σ B o) (e : Same B B1) : DO to σ B1 o := fun H e1 Q q => h H (e.trans e1) Q fun B' H' g => by
  obtain ⟨g', k⟩ := g.widen e e1
  exact q _ H' g'
theorem de_sl {r : V → Option Int → Option Int → Hp → VK → Prop} {tl th : TO} {l u : Option Int} (ha : DE K ta σ B x) (hl : DO tl σ B l) (hu : DO th σ B u) (hr : SD K r x l u d) : DE K (tSl r ta tl th) σ B d := fun H e Q q =>
  ha H e _ fun v B1 H1 g1 r1 => hl.up g1.b H1 g1.i _ fun B2 H2 g2 => hu.up (g1.b.trans g2.b) H2 g2.i _ fun B3 H3 g3 => hr B3 H3 v g3.i (dp_up (g2.b.trans g3.b) _ _ r1) Q fun w B4 H4 g4 r4 => q w B4 H4 (((g1.trans g2).trans g3).trans g4) r4
def rSlX (K : PySem.W.Frag) : V → Option Int → Option Int → Hp → VK → Prop := fun x l u H Q => rSlL K x l u H Q ∨ rSlA K x l u H Q ∨ rSlS x l u H Q
theorem sl_any {X : Cx} : SlR X (rSlX X.K) := SlR.or sl_list (SlR.or sl_tupA sl_str)
def cutD (xs : List D) (lo hi : Option Int) : List D := (xs.drop (HT.sIx xs.length 0 lo)).take (HT.sIx xs.length xs.length hi - HT.sIx xs.length 0 lo)
theorem cut_rel {vs : List V} {ds : List D} {l u : Option Int} (h : DpAll K B vs ds) : DpAll K B (cutV vs l u) (cutD ds l u) := by
  unfold cutV cutD
  rw [dpall_len h]
  exact dpall_take _ (dpall_drop _ h)
theorem sd_L {xs : List D} {l u : Option Int} : SD K (rSlX K) (.list xs) l u (.list (cutD xs l u)) := fun B H v e hv Q q => by
  cases hv with
  | lst hs ha => exact .inl ⟨_, _, rfl, e.seq hs, fun p hp => q _ (upd B p _) _ (Gw.new e hp) (.lst (.inl (.inl upd_same)) (dps_up (Gw.new e hp).b _ _ (cut_rel ha)))⟩
theorem sd_T {xs : List D} {l u : Option Int} : SD K (rSlX K) (.tuple xs) l u (.tuple (cutD xs l u)) := fun B H v e hv Q q => by
  cases hv with
  | tup hs ha =>
    refine .inr (.inl ⟨_, _, rfl, seqT_up e hs, fun ⟨z1, z2⟩ => ?_, fun _ p hp => q _ (upd B p _) _ (Gw.new e hp) (.tup (.inl (.inl upd_same)) (dps_up (Gw.new e hp).b _ _ (cut_rel ha)))⟩)
    have el := dpall_len ha
    rw [el] at z1 z2
    have ec : cutD xs l u = xs := by
      unfold cutD
      rw [z1, z2]
      simp
    rw [ec] at q
    exact q _ B H (.refl e) (.tup hs ha)
theorem sd_S {z : Str} {l u : Option Int} (h : z.length ≤ 100000) : SD K (rSlX K) (.str z) l u (.str (cutS z l u)) := fun B H v e hv Q q => by
  cases hv
  exact .inr (.inr ⟨z, rfl, Nat.le_trans h (by decide), q _ B H (.refl e) (.str _)⟩)
/-! ### built-ins -/
def rLenA (K : PySem.W.Frag) : List V → Hp → VK → Prop := fun xs H Q => ∃ x n, xs = [x] ∧ LenV K x H n ∧ Q (.int n) H
theorem call_lenA {X : Cx} : CallR X (.builtin "len") (rLenA X.K) := call_len
theorem cd_lenL {xs : List D} : CD K (rLenA K) [.list xs] (.int (xs.length : Int)) := fun B H vs e h Q q => by
  cases h with
  | cons h1 h2 =>
    cases h2
    cases h1 with
    | lst hs ha =>
      exact ⟨_, _, rfl, .inl ⟨_, e.seq hs, rfl⟩, by rw [dpall_len ha]; exact q _ B H (.refl e) (.int _)⟩
theorem cd_lenT {xs : List D} : CD K (rLenA K) [.tuple xs] (.int (xs.length : Int)) := fun B H vs e h Q q => by
  cases h with
  | cons h1 h2 =>
    cases h2
    cases h1 with
    | tup hs ha => exact ⟨_, _, rfl, .inr ⟨_, seqT_up e hs, rfl⟩, by rw [dpall_len ha]; exact q _ B H (.refl e) (.int _)⟩
theorem cd_lenS {z : Str} (h : z.length ≤ 100000) : CD K (rLenA K) [.str z] (.int (z.length : Int)) := fun B H vs e hh Q q => by
  cases hh with
  | cons h1 h2 =>
    cases h2; cases h1
    exact ⟨_, _, rfl, ⟨Nat.le_trans h (by decide), rfl⟩, q _ B H (.refl e) (.int _)⟩
def rTupO (K : PySem.W.Frag) : List V → Hp → VK → Prop := fun xs H Q => ∃ p ys, xs = [.ref p] ∧ ((SqL K H p ys ∧ ∀ l, H l = none → Q (.ref l) (upd H l (.tup ys))) ∨ (SqT K H p ys ∧ Q (.ref p) H))
theorem call_tupO {X : Cx} : CallR X (.type "tuple") (rTupO X.K) := call_tuple_of
theorem cd_tupL {xs : List D} : CD K (rTupO K) [.list xs] (.tuple xs) := fun B H vs e h Q q => by
  cases h with
  | cons h1 h2 =>
    cases h2
    cases h1 with
    | lst hs ha => exact ⟨_, _, rfl, .inl ⟨e.seq hs, fun p hp => q _ (upd B p _) _ (Gw.new e hp) (.tup (.inl (.inl upd_same)) (dps_up (Gw.new e hp).b _ _ ha))⟩⟩
theorem cd_tupT {xs : List D} : CD K (rTupO K) [.tuple xs] (.tuple xs) := fun B H vs e h Q q => by
  cases h with
  | cons h1 h2 =>
    cases h2
    cases h1 with
    | tup hs ha => exact ⟨_, _, rfl, .inr ⟨seqT_up e hs, q _ B H (.refl e) (.tup hs ha)⟩⟩
def rLstO (K : PySem.W.Frag) : List V → Hp → VK → Prop := fun xs H Q => ∃ p ys, xs = [.ref p] ∧ (SqL K H p ys ∨ SqT K H p ys) ∧ ∀ l, H l = none → Q (.ref l) (upd H l (.lst ys))
theorem call_lstO {X : Cx} : CallR X (.type "list") (rLstO X.K) := call_list_of
theorem cd_lstL {xs : List D} : CD K (rLstO K) [.list xs] (.list xs) := fun B H vs e h Q q => by
  cases h with
  | cons h1 h2 =>
    cases h2
    cases h1 with
    | lst hs ha => exact ⟨_, _, rfl, .inl (e.seq hs), fun p hp => q _ (upd B p _) _ (Gw.new e hp) (.lst (.inl (.inl upd_same)) (dps_up (Gw.new e hp).b _ _ ha))⟩
theorem cd_lstT {xs : List D} : CD K (rLstO K) [.tuple xs] (.list xs) := fun B H vs e h Q q => by
  cases h with
  | cons h1 h2 =>
    cases h2
    cases h1 with
    | tup hs ha => exact ⟨_, _, rfl, .inr (seqT_up e hs), fun p hp => q _ (upd B p _) _ (Gw.new e hp) (.lst (.inl (.inl upd_same)) (dps_up (Gw.new e hp).b _ _ ha))⟩
theorem dpall_bools {vs : List V} : ∀ {bs : List Bool}, DpAll K B vs (bs.map .bool) → vs = bs.map V.bl := by
  induction vs with
  | nil => intro bs h; cases bs with
    | nil => rfl
    | cons => cases h
  | cons v vs ih => intro bs h; cases bs with
    | nil => cases h
    | cons b bs => cases h with | cons h1 h2 => cases h1; rw [ih h2]; rfl
theorem dpall_ints {vs : List V} : ∀ {ns : List Int}, DpAll K B vs (ns.map .int) → vs = ns.map V.int := by
  induction vs with
  | nil => intro bs h; cases bs with
    | nil => rfl
    | cons => cases h
  | cons v vs ih => intro bs h; cases bs with
    | nil => cases h
    | cons b bs => cases h with | cons h1 h2 => cases h1; rw [ih h2]; rfl
theorem dpall_intsI : ∀ {ns : List Int}, DpAll K B (ns.map V.int) (ns.map .int)
  | [] => .nil
  | n :: ns => .cons (.int n) dpall_intsI
theorem cd_all {bs : List Bool} : CD K (rAll K) [.list (bs.map .bool)] (.bool (bs.all id)) := fun B H vs e h Q q => by
  cases h with
  | cons h1 h2 =>
    cases h2
    cases h1 with
    | lst hs ha =>
      have z := dpall_bools ha
      subst z
      exact ⟨_, bs, rfl, e.seq hs, q _ B H (.refl e) (.bl _)⟩
theorem cd_abs {i : Int} : CD K (fun xs H Q => ∃ i, xs = [.int i] ∧ Q (.int (if i < 0 then -i else i)) H) [.int i] (.int (if i < 0 then -i else i)) := fun B H vs e h Q q => by
  cases h with
  | cons h1 h2 => cases h2; cases h1; exact ⟨i, rfl, q _ B H (.refl e) (.int _)⟩
def rInt1 : List V → Hp → VK → Prop := fun xs H Q => (∃ i, xs = [.int i] ∧ Q (.int i) H) ∨ ∃ k, xs = [.bl k] ∧ Q (.int (if k then 1 else 0)) H
theorem call_int1A {X : Cx} : CallR X (.type "int") rInt1 := call_int1
theorem cd_int {i : Int} : CD K rInt1 [.int i] (.int i) := fun B H vs e h Q q => by
  cases h with
  | cons h1 h2 => cases h2; cases h1; exact .inl ⟨i, rfl, q _ B H (.refl e) (.int _)⟩
/-! ### statements -/
variable {Dn : Ends} {t u : TS} {i : Nat}
theorem st_asg (h : DE K te σ B d) (e : Same B H) (k : ∀ v B' H', Gw B H B' H' → Dp K B' v d → Dn.nx (σ.set i (some v)) H') : tAsg te (gName i) Dn σ H := h H e _ fun v B' H' g r => k v B' H' g r
theorem st_ret (h : DE K te σ B d) (e : Same B H) (k : ∀ v B' H', Gw B H B' H' → Dp K B' v d → Dn.rt v H') : tRet te Dn σ H := h H e _ fun v B' H' g r => k v B' H' g r
theorem st_drop (h : DE K te σ B d) (e : Same B H) (k : ∀ B' H', Gw B H B' H' → Dn.nx σ H') : tDrop te Dn σ H := h H e _ fun v B' H' g r => k B' H' g
theorem st_if {b : Bool} (h : DT tt σ B b) (e : Same B H) (k1 : b = true → ∀ B' H', Gw B H B' H' → t Dn σ H') (k2 : b = false → ∀ B' H', Gw B H B' H' → u Dn σ H') : tIfS tt t u Dn σ H := h H e _ fun B' H' g => by
  cases b with
  | true => exact iteT (k1 rfl B' H' g)
  | false => exact iteF (k2 rfl B' H' g)
/-- a for over a list or a tuple of such data -/
theorem st_for {tl : TE} {g : TG} {ds : List D} (h : DE K tl σ B x) (sd : SeqD x ds) (e : Same B H)
    (k : ∀ B1 H1, Gw B H B1 H1 → ∃ P : Nat → L2.St → Hp → Prop, P 0 σ H1 ∧ (∀ i σ' H', P i σ' H' → Same B1 H') ∧
      (∀ i d v σ' H', ds[i]? = some d → Dp K B1 v d → P i σ' H' → g v σ' H' fun σ2 H2 => t { Dn with nx := P (i + 1), ct := P (i + 1), bk := Dn.nx } σ2 H2) ∧
      (∀ σ' H', P ds.length σ' H' → Dn.nx σ' H')) : tFor (iSeq K tl) g t Dn σ H := h H e _ fun v B1 H1 g1 r1 => by
  obtain ⟨P, p0, ps, pt, pd⟩ := k B1 H1 g1
  have go : ∀ {vs : List V}, DpAll K B1 vs ds → ∀ i x σ' H', vs[i]? = some x → P i σ' H' → g x σ' H' fun σ2 H2 => t { Dn with nx := P (i + 1), ct := P (i + 1), bk := Dn.nx } σ2 H2 := fun {vs} ha i x σ' H' hx p => by
    have hi := (List.getElem?_eq_some_iff.mp hx).1
    rw [dpall_len ha] at hi
    obtain ⟨w, e1, e2⟩ := dpall_get ha (List.getElem?_eq_getElem hi)
    rw [hx] at e1
    cases e1
    exact pt i _ _ σ' H' (List.getElem?_eq_getElem hi) e2 p
  cases sd with
  | l ds =>
    cases r1 with
    | lst hs ha => exact ⟨_, _, rfl, .inl ⟨g1.i.seq hs, for_list P p0 (fun i σ' H' _ p => (ps i σ' H' p).seq hs) (fun i x σ' H' hx p => go ha i x σ' H' hx p) (fun σ' H' p => pd σ' H' (by rw [← dpall_len ha]; exact p))⟩⟩
  | t ds =>
    cases r1 with
    | tup hs ha => exact ⟨_, _, rfl, .inr ⟨seqT_up g1.i hs, for_tup P p0 (fun i σ' H' _ p => seqT_up (ps i σ' H' p) hs) (fun i x σ' H' hx p => go ha i x σ' H' hx p) (fun σ' H' p => pd σ' H' (by rw [← dpall_len ha]; exact p))⟩⟩
theorem st_rng1 {tn : TE} {j : Nat} {n : Int} (h : DE K tn σ B (.int n)) (e : Same B H) (hn : -(2 ^ 62) ≤ n ∧ n < 2 ^ 62)
    (k : ∀ B1 H1, Gw B H B1 H1 → ∃ P : Nat → L2.St → Hp → Prop, P 0 σ H1 ∧
      (∀ i σ' H', i < n.toNat → P i σ' H' → t { Dn with nx := P (i + 1), ct := P (i + 1), bk := Dn.nx } (σ'.set j (some (.int (i : Int)))) H') ∧
      (∀ σ' H', P n.toNat σ' H' → Dn.nx σ' H')) : tFor (iRng1 (tCons tn tNil)) (gName j) t Dn σ H := h H e _ fun v B1 H1 g1 r1 => by
  cases r1
  obtain ⟨P, p0, pt, pd⟩ := k B1 H1 g1
  refine ⟨n, rfl, hn.1, hn.2, for_range (lo := 0) (n := n.toNat) P p0 (fun i σ' H' hi p => ?_) pd⟩
  have z : (0 : Int) + (i : Int) = (i : Int) := Int.zero_add _
  rw [z]
  exact pt i σ' H' hi p
/-! ### a list that was just made (or is tracked as such) -/
def DL (K : PySem.W.Frag) (te : TE) (σ : L2.St) (B : Hp) (ds : List D) : Prop := ∀ H, Same B H → ∀ Q : VK, (∀ p vs B' H', Gw B H B' H' → B' p = some (.lst vs) → DpAll K B' vs ds → Q (.ref p) H') → te σ H Q
theorem DL.de {ds : List D} (h : DL K te σ B ds) : DE K te σ B (.list ds) := fun H e Q q => h H e Q fun p vs B' H' g hp ha => q _ B' H' g (.lst (.inl (.inl hp)) ha)
theorem DL.up {ds : List D} (h : DL K te σ B ds) (e : Same B B1) : DL K te σ B1 ds := fun H e1 Q q => h H (e.trans e1) Q fun p vs B' H' g hp ha => by
  obtain ⟨g', k⟩ := g.widen e e1
  exact q p vs _ H' g' (k _ _ hp) (dps_up k _ _ ha)
theorem dl_lst {t : TA} {ds : List D} (h : DA K t σ B ds) (hl : ds.length ≤ 100000) : DL K (tLst t) σ B ds := fun H e Q q =>
  h H e _ fun vs B1 H1 g1 r1 => ⟨Nat.le_trans (by rw [dpall_len r1]; exact hl) (by decide), fun p hp => q _ vs (upd B1 p (.lst vs)) _ (g1.trans (Gw.new g1.i hp)) upd_same (dps_up (Gw.new g1.i hp).b _ _ r1)⟩
theorem dl_var {i : Nat} {p : Addr} {vs : List V} {ds : List D} (h : σ[i]? = some (some (.ref p))) (hp : B p = some (.lst vs)) (ha : DpAll K B vs ds) : DL K (tVar i) σ B ds := fun H e _ q => ⟨_, h, q p vs B H (.refl e) hp ha⟩
theorem dl_cat {ds es : List D} (ha : DL K ta σ B ds) (hb : DL K tb σ B es) (hz : ds.length + es.length ≤ 100000) : DL K (tOp (rAddA K) ta tb) σ B (ds ++ es) := fun H e Q q =>
  ha H e _ fun p vs B1 H1 g1 hp h1 => hb.up g1.b H1 g1.i _ fun p2 ws B2 H2 g2 hp2 h2 => by
    refine .inr (.inr (.inl ⟨p, p2, vs, ws, rfl, rfl, g2.i _ _ (g2.b _ _ hp), g2.i _ _ hp2, Nat.le_trans (by rw [dpall_len h1, dpall_len h2]; exact hz) (by decide), fun l hl => ?_⟩))
    have g3 : Gw B2 H2 (upd B2 l (.lst (vs ++ ws))) (upd H2 l (.lst (vs ++ ws))) := Gw.new g2.i hl
    exact q l _ _ _ ((g1.trans g2).trans g3) upd_same (dps_up g3.b _ _ (dpall_app (dps_up g2.b _ _ h1) h2))
/-! ### comprehensions whose parts are such data -/
theorem take_succ' {α : Type} {l : List α} {i : Nat} {a : α} (h : l[i]? = some a) : l.take (i + 1) = l.take i ++ [a] := by
  rw [List.take_add_one, h]
  rfl
theorem yes_at {A C : Hp → Prop} (h : A H) : tYes σ H (fun b H3 => if b = true then A H3 else C H3) := iteT (A := A H) (B := C H) h
/-- [f(x) for x in ds]: f i is the i-th item's element -/
structure LcW (B1 H1 : Hp) (K : PySem.W.Frag) (Da : Addr) (out : List D) (H' : Hp) : Prop where
  nb : B1 Da = none
  ex : ∃ B' vs, Gm (· = Da) B1 H1 B' H' ∧ B' Da = none ∧ H' Da = some (.lst vs) ∧ DpAll K B' vs out
theorem lcw0 {Da : Addr} (e : Same B1 H) (h : H Da = none) : LcW B1 H K Da [] (upd H Da (.lst [])) :=
  ⟨base_none e h, B1, [], (Gw.own e h).weak (fun _ z => z.elim), base_none e h, upd_same, .nil⟩
theorem lcw_turn {Da : Addr} {out : List D} {H' : Hp} {te : TE} {σ2 : L2.St} {dv : D} {Nx : Hp → Prop} (w : LcW B1 H K Da out H') (hD : H Da = none) (hz : out.length < 100000) (he : DE K te σ2 B1 dv) (k : ∀ H5, LcW B1 H K Da (out ++ [dv]) H5 → Nx H5) :
    te σ2 H' fun y H4 => ∃ acc, H4 Da = some (.lst acc) ∧ acc.length < sizeLine ∧ Nx (upd H4 Da (.lst (acc ++ [y]))) := by
  obtain ⟨B', vs, g, nb, hl, ha⟩ := w.ex
  refine he.up g.b H' g.i _ fun y B2 H2 g2 r2 => ⟨vs, g2.same _ _ hl, Nat.lt_of_lt_of_le (by rw [dpall_len ha]; exact hz) (by decide), k _ ⟨w.nb, B2, vs ++ [y], ?_, ?_, upd_same, dpall_app (dps_up g2.b _ _ ha) (.cons r2 .nil)⟩⟩
  · have n2 : B2 Da = none := g2.f Da nb (by rw [hl]; intro z; cases z)
    refine Gm.trans (B1 := B2) (H1 := H2) (Gm.trans g (g2.weak (fun _ z => z.elim)) ?_) (Gm.mut g2.i n2) ?_
    · intro a z n; exact absurd (z ▸ hD) n
    · intro a z n; exact absurd (z ▸ hD) n
  · exact g2.f Da nb (by rw [hl]; intro z; cases z)
theorem lcw_done {Da : Addr} {out : List D} {H' : Hp} (w : LcW B1 H K Da out H') (hD : H Da = none) : ∃ B' vs, Gw B1 H B' H' ∧ B' Da = some (.lst vs) ∧ DpAll K B' vs out := by
  obtain ⟨B', vs, g, nb, hl, ha⟩ := w.ex
  have k : Same B' (upd B' Da (.lst vs)) := fun a o q => by rw [upd_ne (ne_of_none q nb)]; exact q
  refine ⟨upd B' Da (.lst vs), vs, ⟨g.b.trans k, fun a o q => ?_, fun a o _ q => ?_, fun a q n => ?_⟩, upd_same, dps_up k _ _ ha⟩
  · by_cases z : a = Da
    · subst z; rw [upd_same] at q; cases q; exact hl
    · rw [upd_ne z] at q; exact g.i a o q
  · refine g.r a o (fun z => ?_) q
    subst z; rw [hD] at q; cases q
  · have z : a ≠ Da := fun z => n (z ▸ hD)
    rw [upd_ne z]
    exact g.f a q n
theorem dl_lc {tl : TE} {j : Nat} {ds : List D} {f : D → D} {vs : List Nat} (h : DE K tl σ B x) (sd : SeqD x ds) (hz : ds.length ≤ 90000) (hw : ∀ x, wipe ((wipe σ vs).set j (some x)) vs = wipe σ vs)
    (he : ∀ d v B1, d ∈ ds → Same B B1 → Dp K B1 v d → DE K te ((wipe σ vs).set j (some v)) B1 (f d)) : DL K (tLc (iSeq K tl) (gName j) tYes te vs) σ B (ds.map f) := fun H e Q q => h H e _ fun v B1 H1 g1 r1 => by
  have go : ∀ {us : List V} {Da : Addr}, H1 Da = none → DpAll K B1 us ds → ∀ i x H', us[i]? = some x → LcW B1 H1 K Da ((ds.take i).map f) H' → tYes ((wipe σ vs).set j (some x)) H' fun b H3 => if b = true then te ((wipe σ vs).set j (some x)) H3 fun y H4 => ∃ acc, H4 Da = some (.lst acc) ∧ acc.length < sizeLine ∧ LcW B1 H1 K Da ((ds.take (i + 1)).map f) (upd H4 Da (.lst (acc ++ [y]))) else LcW B1 H1 K Da ((ds.take (i + 1)).map f) H3 := fun {us Da} hD ha i x H' hx w => by
    refine yes_at ?_
    have hi := (List.getElem?_eq_some_iff.mp hx).1
    rw [dpall_len ha] at hi
    have hd := List.getElem?_eq_getElem hi
    obtain ⟨w', e1, e2⟩ := dpall_get ha hd
    rw [hx] at e1
    cases e1
    refine lcw_turn w hD (by rw [List.length_map, List.length_take]; omega) (he _ _ B1 (List.getElem_mem hi) g1.b e2) fun H5 w5 => ?_
    rw [take_succ' hd, List.map_append]
    exact w5
  cases sd with
  | l ds =>
    cases r1 with
    | lst hs ha =>
      rename_i aL xsL
      refine ⟨_, _, rfl, .inl ⟨g1.i.seq hs, fun Da hD => lc_list (xs := xsL) (fun i H' => LcW B1 H1 K Da ((ds.take i).map f) H') (lcw0 g1.i hD) (fun i H' _ w => ?_) (fun i x H' hx w => ⟨hw x, go hD ha i x H' hx w⟩) (fun H' w => ?_)⟩⟩
      · obtain ⟨B', vs', g, _⟩ := w.ex
        exact (g.b.trans g.i).seq hs
      · rw [dpall_len ha, List.take_length] at w
        obtain ⟨B', us, g, hp, r⟩ := lcw_done w hD
        exact q _ us B' H' (g1.trans g) hp r
  | t ds =>
    cases r1 with
    | tup hs ha =>
      rename_i aL xsL
      refine ⟨_, _, rfl, .inr ⟨seqT_up g1.i hs, fun Da hD => lc_tup (xs := xsL) (fun i H' => LcW B1 H1 K Da ((ds.take i).map f) H') (lcw0 g1.i hD) (fun i H' _ w => ?_) (fun i x H' hx w => ⟨hw x, go hD ha i x H' hx w⟩) (fun H' w => ?_)⟩⟩
      · obtain ⟨B', vs', g, _⟩ := w.ex
        exact seqT_up (g.b.trans g.i) hs
      · rw [dpall_len ha, List.take_length] at w
        obtain ⟨B', us, g, hp, r⟩ := lcw_done w hD
        exact q _ us B' H' (g1.trans g) hp r
theorem dl_lcR {tn : TE} {j : Nat} {n : Int} {f : Nat → D} {vs : List Nat} (h : DE K tn σ B (.int n)) (hz : -1000 ≤ n ∧ n ≤ 90000) (hw : ∀ x, wipe ((wipe σ vs).set j (some x)) vs = wipe σ vs)
    (he : ∀ (i : Nat) B1, i < n.toNat → Same B B1 → DE K te ((wipe σ vs).set j (some (.int (i : Int)))) B1 (f i)) : DL K (tLc (iRng1 (tCons tn tNil)) (gName j) tYes te vs) σ B ((List.range n.toNat).map f) := fun H e Q q => h H e _ fun v B1 H1 g1 r1 => by
  cases r1
  refine ⟨n, rfl, by omega, by omega, fun Da hD => lc_range (lo := 0) (n := n.toNat) (fun i H' => LcW B1 H1 K Da ((List.range i).map f) H') (lcw0 g1.i hD) (fun i H' hi w => ?_) (fun H' w => ?_)⟩
  · have z : (0 : Int) + (i : Int) = (i : Int) := Int.zero_add _
    rw [z]
    refine ⟨hw _, yes_at ?_⟩
    refine lcw_turn w hD (by rw [List.length_map, List.length_range]; omega) (he i B1 hi g1.b) fun H5 w5 => ?_
    rw [List.range_succ, List.map_append]
    exact w5
  · obtain ⟨B', us, g, hp, r⟩ := lcw_done w hD
    exact q _ us B' H' (g1.trans g) hp r
theorem dl_lcS {tl : TE} {j : Nat} {z : Str} {f : Nat → D} {vs : List Nat} (h : DE K tl σ B (.str z)) (hz : z.length ≤ 90000) (hw : ∀ x, wipe ((wipe σ vs).set j (some x)) vs = wipe σ vs)
    (he : ∀ (c : Nat) B1, c ∈ z.cps.toList → Same B B1 → DE K te ((wipe σ vs).set j (some (.str ⟨#[c]⟩))) B1 (f c)) : DL K (tLc (iStr tl) (gName j) tYes te vs) σ B (z.cps.toList.map f) := fun H e Q q => h H e _ fun v B1 H1 g1 r1 => by
  cases r1
  have hsz : z.cps.toList.length = z.cps.size := by simp
  have hzz : z.cps.size ≤ 90000 := hz
  refine ⟨z, rfl, fun Da hD => ?_⟩
  refine ⟨fun i m H' => m = z.cps.size - i ∧ i ≤ z.cps.size ∧ LcW B1 H1 K Da ((z.cps.toList.take i).map f) H', ⟨z.cps.size, rfl, Nat.zero_le _, lcw0 g1.i hD⟩, ?_⟩
  rintro i m H' ⟨rfl, hi, w⟩
  by_cases hlt : i < z.cps.size
  · refine .inr ⟨hlt, fun H5 => LcW B1 H1 K Da ((z.cps.toList.take (i + 1)).map f) H5, fun H5 w5 => ⟨z.cps.size - (i + 1), by omega, rfl, hlt, w5⟩, fun x H5 y => ?_⟩
    obtain ⟨rfl, c, hc, rfl⟩ := y
    have hd : z.cps.toList[i]? = some c := by simpa using hc
    refine ⟨hw _, yes_at ?_⟩
    refine lcw_turn w hD (by rw [List.length_map, List.length_take]; omega) (he c B1 (List.mem_of_getElem? hd) g1.b) fun H5 w5 => ?_
    rw [take_succ' hd, List.map_append]
    exact w5
  · have : i = z.cps.size := by omega
    subst this
    rw [← hsz, List.take_length] at w
    obtain ⟨B', us, g, hp, r⟩ := lcw_done w hD
    exact .inl ⟨Nat.le_refl _, q _ us B' H' (g1.trans g) hp r⟩
end
end Co
namespace Co
open PySem PySem.Spec PyProof.Rows L2
/-! ### a list or a tuple, by k -/
def SqB (K : PySem.W.Frag) (k : Bool) (H : Hp) (a : Addr) (xs : List V) : Prop := if k = true then SqL K H a xs else SqT K H a xs
def ItB (k : Bool) (h : Heap) (i a : Addr) (n : Nat) : Prop := if k = true then h.IsListIter i a n else h.IsTupleIter i a n
def HsB (k : Bool) (h : Heap) (a : Addr) (items : Array Value) : Prop := if k = true then h.IsList a items else h.IsTuple a items
theorem SqB.up {K : PySem.W.Frag} {k : Bool} {H H' : Hp} {a : Addr} {xs : List V} (e : Same H H') (h : SqB K k H a xs) : SqB K k H' a xs := by
  cases k with
  | true => exact e.seq h
  | false => exact seqT_up e h
theorem drawsB {prog : Program} {w : World} {A : Around} (hh : A.handled = none) (k : Bool) (it a : Addr) (hne : a ≠ it) (items : Array Value) :
    Draws prog w A it [it, a] items.size (fun i v => items[i]? = some v) (fun i h => ItB k h it a i ∧ HsB k h a items) := by
  cases k with
  | true => exact Draws.list hh it a hne items
  | false => exact Draws.tuple hh it a hne items
theorem ItB.at {k : Bool} {h h' : Heap} {i a : Addr} {n : Nat} (x : ItB k h i a n) (e : ∀ o, h.get? i = some o → h'.get? i = some o) : ItB k h' i a n := by
  cases k with
  | true =>
    have y : h.IsListIter i a n := x
    exact (y.at e : h'.IsListIter i a n)
  | false =>
    have y : h.IsTupleIter i a n := x
    exact (y.at e : h'.IsTupleIter i a n)
theorem ItB.obj {k : Bool} {h : Heap} {i a : Addr} {n : Nat} (x : ItB k h i a n) : ∃ o, h.get? i = some o ∧ ∀ v, o.data ≠ .cell v := by
  cases k with
  | true =>
    obtain ⟨o, e, _, d⟩ := (x : h.IsListIter i a n)
    exact ⟨o, e, fun v q => by rw [d] at q; cases q⟩
  | false =>
    obtain ⟨o, e, _, d⟩ := (x : h.IsTupleIter i a n)
    exact ⟨o, e, fun v q => by rw [d] at q; cases q⟩
section
variable {X : Cx} {pins : List (Addr × Obj)} {σ : L2.St} {H : Hp} {s : Shared}
theorem seqB (I : Inv X pins σ H s) {k : Bool} {a : Addr} {xs : List V} (h : SqB X.K k H a xs) : ∃ its : List Value, Vals xs its ∧ HsB k s.heap a its.toArray ∧ a < s.heap.objs.size := by
  cases k with
  | true =>
    obtain ⟨its, rv, p, _⟩ := I.list h
    exact ⟨its, rv, p.isList, p.lt⟩
  | false =>
    obtain ⟨its, rv, p, _⟩ := I.tuple h
    obtain ⟨o, ho, _⟩ := id p
    exact ⟨its, rv, (show s.heap.IsTuple a its.toArray from p), Heap.lt_size ho⟩
theorem seqB_inj (I : Inv X pins σ H s) {k : Bool} {a : Addr} {xs ys : List V} (h : SqB X.K k H a xs) (h' : SqB X.K k H a ys) : xs = ys := by
  cases k with
  | true => exact I.list_inj h h'
  | false => exact I.tuple_inj h h'
end
/-- zip of two such: the items in new pairs -/
def ItzG (K : PySem.W.Frag) (k m : Bool) (a b : Addr) : It :=
  ⟨fun i H => ∃ (xs ys : List V) (x y : V), SqB K k H a xs ∧ SqB K m H b ys ∧ xs[i]? = some x ∧ ys[i]? = some y,
    fun i H v H' => ∃ T x y, v = .ref T ∧ H T = none ∧ H' = upd H T (.tup [x, y]) ∧ (∀ xs, SqB K k H a xs → xs[i]? = some x) ∧ ∀ ys, SqB K m H b ys → ys[i]? = some y,
    fun i H => ∃ xs ys : List V, SqB K k H a xs ∧ SqB K m H b ys ∧ i ≤ xs.length ∧ i ≤ ys.length ∧ (xs.length = i ∨ ys.length = i)⟩
structure Apart5 (z TI TO i1 i2 a b : Addr) : Prop where
  S : ZipSep2 z TI TO i1 i2 [i1, a] [i2, b]
  a1 : a ≠ i1
  b2 : b ≠ i2
  i1z : i1 ≠ z
  i2z : i2 ≠ z
theorem turn_zipG {P : Program} {w : World} {K : PySem.W.Frag} {elts : List Expr} {kk : Nat} {tpos : Pos} {a b z TI TO i1 i2 : Addr} {k m : Bool} (D : Apart5 z TI TO i1 i2 a b) :
    Turn P w K (.Tuple elts kk tpos) (ItzG K k m a b) [z, TI, TO, i1, i2] z
      (fun i h => IsZip h z TI TO .none ∧ IsTupOf2 h TI (.ref i1) (.ref i2) ∧ (∃ x y, IsTupOf2 h TO x y) ∧ ItB k h i1 a i ∧ ItB m h i2 b i) where
  mem := List.mem_cons_self ..
  obj := fun i h st c hc => by
    obtain ⟨hz, hTI, ⟨x, y, hTO⟩, h1, h2⟩ := st
    simp only [List.mem_cons, List.not_mem_nil, or_false] at hc
    rcases hc with q | q | q | q | q
    · subst q; exact ⟨_, hz, fun v q => by cases q⟩
    · subst q; exact ⟨_, hTI, fun v q => by cases q⟩
    · subst q; exact ⟨_, hTO, fun v q => by cases q⟩
    · subst q; exact h1.obj
    · subst q; exact h2.obj
  keep := fun i h h' st e => by
    obtain ⟨hz, hTI, ⟨x, y, hTO⟩, h1, h2⟩ := st
    exact ⟨e z (by simp) _ hz, e TI (by simp) _ hTI, ⟨x, y, e TO (by simp) _ hTO⟩, h1.at (e i1 (by simp)), h2.at (e i2 (by simp))⟩
  item := by
    intro X hP hw hK hc i pins s σ H E I hf st hg
    subst hP hw hK
    obtain ⟨hz, hTI, ⟨x0, y0, hTO⟩, h1, h2⟩ := st
    obtain ⟨xs, ys, x, y, hqx, hqy, hx, hy⟩ := hg
    obtain ⟨its, rv, p, _⟩ := seqB I hqx
    obtain ⟨its2, rv2, p2, _⟩ := seqB I hqy
    obtain ⟨u, hu, ru⟩ := rv.get hx
    obtain ⟨u2, hu2, ru2⟩ := rv2.get hy
    have hh : X.A.in1.handled = none := I.ok.hd hc
    have l1 : i < its.toArray.size := by rw [List.size_toArray]; exact (List.getElem?_eq_some_iff.mp hu).1
    have l2 : i < its2.toArray.size := by rw [List.size_toArray]; exact (List.getElem?_eq_some_iff.mp hu2).1
    have hzl := Heap.lt_size hz
    refine wpAny_pyNext_zipD2_item D.S (drawsB hh k i1 a D.a1 its.toArray) (drawsB hh m i2 b D.b2 its2.toArray) hz hTI hTO ⟨h1, p⟩ ⟨h2, p2⟩ l1 l2 fun v1 v2 h' tk e1 e2 z' TO' d1 d2 hT hsz hk => ?_
    have q1 : v1 = u := by
      have e1' : its[i]? = some v1 := by simpa using e1
      rw [hu] at e1'; exact (Option.some.inj e1').symm
    have q2 : v2 = u2 := by
      have e2' : its2[i]? = some v2 := by simpa using e2
      rw [hu2] at e2'; exact (Option.some.inj e2').symm
    subst q1 q2
    refine ⟨_, rfl, wpAny_letOwnedTupleGo_zip (s := { s with heap := h', toks := tk }) z' fun h'' z'' sb => ?_⟩
    have keep : ∀ c o, c ≠ z → c ≠ TO → c ≠ i1 → c ≠ i2 → s.heap.get? c = some o → h''.get? c = some o := fun c o n1 n2 n3 n4 q => (sb.2 c n1).trans (hk c o n1 n2 n3 n4 q)
    have hT2 : h''.get? s.heap.objs.size = some { cls := .type "tuple", data := .seq #[v1, v2] } := (sb.2 _ (Nat.ne_of_gt hzl)).trans hT
    have new : ObjOk X.prog X.w (upd H s.heap.objs.size (.tup [x, y])) h'' s.heap.objs.size (.tup [x, y]) :=
      ⟨(by show 2 ≤ sizeLine; decide), [v1, v2], .cons ru (.cons ru2 .nil), ⟨_, hT2, rfl, _, rfl⟩⟩
    have I1 : Inv X pins σ (upd H s.heap.objs.size (.tup [x, y])) { s with heap := h'', toks := tk } :=
      I.turnedNew (t' := tk) (ch := [z, TI, TO, i1, i2]) (fun c o hb q => keep c o (fun e => hb (by simp [e])) (fun e => hb (by simp [e])) (fun e => hb (by simp [e])) (fun e => hb (by simp [e])) q) hf (Nat.le_refl _) new
    refine ⟨.ref s.heap.objs.size, _, I1, rfl, ⟨_, x, y, rfl, I.hok.fresh (Nat.le_refl _), rfl, fun l hl => by rw [seqB_inj I hl hqx]; exact hx, fun l hl => by rw [seqB_inj I hl hqy]; exact hy⟩, ⟨z'', ?_, ⟨v1, v2, ?_⟩, ?_, ?_⟩, fun c hcm => ?_⟩
    · exact keep _ _ D.S.TIz D.S.TITO D.S.TIi1 D.S.TIi2 hTI
    · exact (sb.2 _ D.S.TOz).trans TO'
    · exact d1.1.at fun o q => (sb.2 _ D.i1z).trans q
    · exact d2.1.at fun o q => (sb.2 _ D.i2z).trans q
    · have hlt : c < s.heap.objs.size := by
        simp only [List.mem_cons, List.not_mem_nil, or_false] at hcm
        rcases hcm with q | q | q | q | q
        · rw [q]; exact hzl
        · rw [q]; exact Heap.lt_size hTI
        · rw [q]; exact Heap.lt_size hTO
        · rw [q]; obtain ⟨_, e, _⟩ := h1.obj; exact Heap.lt_size e
        · rw [q]; obtain ⟨_, e, _⟩ := h2.obj; exact Heap.lt_size e
      rw [upd_ne (Nat.ne_of_lt hlt)]
      exact (hf c hcm).1
  done := by
    intro X hP hw hK hc i pins s σ H E I hf st hg
    subst hP hw hK
    obtain ⟨hz, hTI, ⟨x0, y0, hTO⟩, h1, h2⟩ := st
    obtain ⟨xs, ys, hqx, hqy, le1, le2, hend⟩ := hg
    obtain ⟨its, rv, p, _⟩ := seqB I hqx
    obtain ⟨its2, rv2, p2, _⟩ := seqB I hqy
    have l1 := rv.length
    have l2 := rv2.length
    have hh : X.A.in1.handled = none := I.ok.hd hc
    refine wpAny_pyNext_zipD2_end D.S (drawsB hh k i1 a D.a1 its.toArray) (drawsB hh m i2 b D.b2 its2.toArray) hz hTI hTO ⟨h1, p⟩ ⟨h2, p2⟩ (by rw [List.size_toArray]; omega) (by rw [List.size_toArray]; omega) (by rw [List.size_toArray, List.size_toArray]; omega) fun h' tk hk => ⟨rfl, ?_⟩
    exact I.turnedL (t' := tk) (ch := [z, TI, TO, i1, i2]) (fun c o hb q => hk c o (fun e => hb (by simp [e])) (fun e => hb (by simp [e])) (fun e => hb (by simp [e])) (fun e => hb (by simp [e])) q) hf
  self := fun A i s Q E st h => wpAny_pyIter_zip st.1 h
theorem begB {k : Bool} {a : Addr} (items : Array Value) : ∃ o : Obj, Begins (.ref a) o (fun h => HsB k h a items) ∧ ∀ (h : Heap) (i : Addr), h.get? i = some o → ItB k h i a 0 := by
  cases k with
  | true => exact ⟨_, begins_list a items, fun h i e => (⟨_, e, rfl, rfl⟩ : h.IsListIter i a 0)⟩
  | false => exact ⟨_, begins_tuple a items, fun h i e => (⟨_, e, rfl, rfl⟩ : h.IsTupleIter i a 0)⟩
theorem apart_new {N a b : Nat} (ha : a < N) (hb : b < N) : Apart5 (N + 4) (N + 2) (N + 3) N (N + 1) a b where
  S := zip_sep2 (N := N) (fp1 := [a]) (fp2 := [b]) (by intro c h; simp at h; subst h; exact ha) (by intro c h; simp at h; subst h; exact hb)
  a1 := Nat.ne_of_lt ha
  b2 := (show b ≠ N + 1 by omega)
  i1z := (show N ≠ N + 4 by omega)
  i2z := (show N + 1 ≠ N + 4 by omega)
def iZipG (K : PySem.W.Frag) (ta : TA) : TI := fun σ H R => ta σ H fun vs H1 => ∃ a b xs ys k m, vs = [.ref a, .ref b] ∧ SqB K k H1 a xs ∧ SqB K m H1 b ys ∧ R (ItzG K k m a b) H1
theorem pi_zipX {X : Cx} {e e2 : Expr} {ta : TA} {p pos tpos : Pos} {elts : List Expr} {kk : Nat} (hg : Gl X "zip") (hm : X.mg "zip" = none) (ha : PA X [e, e2] ta)
    (hs : starEach [e, e2] X.env = (false, eval e X.env) :: starEach [e2] X.env := by rfl) (hpl : (backTo pos (starEach [e2] X.env)).any (·.1) = false := by rfl) :
    PI X (.Tuple elts kk tpos) (.Call (.Name "zip" p) [e, e2] [] pos) (iZipG X.K ta) := by
  refine ⟨fun pins s σ H R I h => ?_⟩
  refine Call_ (ld_blt I hg hm boot_zip (callWith_type1 (thn (ha.run pos pins s σ H _ I h) fun us s1 ⟨vs, H1, I1, r1, a, b, xs, ys, k, m, ev, hqx, hqy, q⟩ => ?_) hs hpl))
  subst ev
  cases r1 with
  | cons r rr =>
    cases rr with
    | cons r' rr =>
      cases rr; cases r; cases r'
      obtain ⟨its, rv, p1, lt1⟩ := seqB I1 hqx
      obtain ⟨its2, rv2, p2, lt2⟩ := seqB I1 hqy
      obtain ⟨o1, B1, j1⟩ := begB (k := k) (a := a) its.toArray
      obtain ⟨o2, B2, j2⟩ := begB (k := m) (a := b) its2.toArray
      refine zip_begins2 B1 B2 p1 p2 fun h' hz hTI hTO h1 h2 hsz hk => wpAny_pyIter_zip hz ?_
      refine ⟨s1.heap.objs.size + 4, [s1.heap.objs.size + 4, s1.heap.objs.size + 2, s1.heap.objs.size + 3, s1.heap.objs.size, s1.heap.objs.size + 1], _, ItzG X.K k m a b, H1, rfl, I1.kept (t' := s1.toks) hk, turn_zipG (apart_new lt1 lt2), ⟨hz, hTI, ⟨_, _, hTO⟩, j1 _ _ h1, j2 _ _ h2⟩, fun c hcm => ?_, q⟩
      have hle : s1.heap.objs.size ≤ c := by
        simp only [List.mem_cons, List.not_mem_nil, or_false] at hcm
        rcases hcm with z | z | z | z | z
        · rw [z]; exact Nat.le_add_right _ _
        · rw [z]; exact Nat.le_add_right _ _
        · rw [z]; exact Nat.le_add_right _ _
        · rw [z]; exact Nat.le_refl _
        · rw [z]; exact Nat.le_add_right _ _
      exact I1.fpOk hle (I1.hok.fresh hle)
end Co
namespace Co
open PySem PySem.Spec PyProof.Rows L2
/-! ### defs that are called where no repr is under way (so that they may say repr) -/
abbrev Bare0 (A : Around) : Prop := A.guards = some []
structure FnG (P : Program) (w : World) (K : PySem.W.Frag) (mg : Str → Option Value) (base : Heap) (CX : CXT) (k : Nat) (f : Addr) (fd : FuncData) (ps : List Str) (sp : Sp) : Prop where
  len : ∀ vs H Q E, sp vs H Q E → vs.length = ps.length
  run : ∀ (A : Around) (outer : List Env) (s : Shared) (H : Hp) (args : Args) (us : List Value) (vs : List V) (Q : VK) (E : XK), Bare0 A → Room k A → Env0 P w K mg base A outer s H → BindsTo s fd args (ps.zip us) → Vals vs us → sp vs H Q E → codeAny (model P w) A (.call (.ref f) args) (CR CX outer P w H s Q E) s
section
variable {CX : CXT} {P : Program} {w : World} {K : PySem.W.Frag} {mg : Str → Option Value} {base : Heap}
theorem fnG_of {x qual : Str} {st : Stmt} {f : Addr} {fd : FuncData} {N ps : List Str} {k : Nat} {sp : Sp} (F : Fun K x qual st f fd) (S : FnScope N ps (defScope st)) (len : ∀ vs H Q E, sp vs H Q E → vs.length = ps.length)
    (hbody : ∀ (cdv : Value) (A : Around) (outer : List Env) (s : Shared) (H : Hp) (vs : List V) (Q : VK) (E : XK), Bare0 A → Room k (A.deeper (envOfC qual (defScope st) s.heap.objs.size f cdv)) → sp vs H Q E →
      ∃ t, PSs (cxOf CX P w K mg base N qual (defScope st) f cdv A outer s H E) (defBody st) t ∧ t { nx := fun _ H' => Q .non H', rt := Q } (start N vs) H) : FnG P w K mg base CX (k + 1) f fd ps sp := by
  obtain ⟨oc, od, kV, doc, pm, an, cdv, ct, osl, rfl, lk, hcd⟩ := F.ex
  refine ⟨len, fun A outer s H args us vs Q E ga room e0 bind rel promised => ?_⟩
  have KX : K.In s.heap := e0.mod.kin.keeps fun b o e => (e0.bs b o e).1
  have kinds : ∀ y ∈ ps.zip us, (defScope st).names.lookup y.1 = some .local ∨ ((defScope st).names.lookup y.1 = some .cell ∧ ((cellsFrom (s.heap.objs.size + 1) (defScope st).names []).lookup y.1).isSome = true) := by
    rintro ⟨n, v⟩ hy
    exact (S.par n (List.of_mem_zip hy).1).imp id fun q => ⟨q, PySem.W.cellsFrom_some _ _ _ (.inl q)⟩
  refine codeAny_call_function room.depth (KX _ _ lk) rfl S.co S.gen rfl (PySem.W.codeRec_of KX hcd) (bind _ _ _ _ (wpAny_newFunctionEnv_cells S.kind kinds fun env he s1 x => ?_))
  subst he
  refine ⟨(e0.mod.nolimit.keeps fun b o e => (e0.bs b o e).1).keeps x.toInCall.keep, codeAny_func ?_⟩
  obtain ⟨t, ht, hq⟩ := hbody cdv A outer s H vs Q E ga (room.deeper _) promised
  refine wpAny_mono (ht.run [] s1 (start N vs) H _ (inv_start S room.hd e0 (len _ _ _ _ promised) rel x) hq) (fun fl s' out => ?_) fun e s' out => out
  match fl, out with
  | .ret u, ⟨v, _, H', J, rv, q⟩ => exact ⟨v, H', J.os, J.bare, J.base, J.hok, rv, q⟩
  | .next, ⟨_, H', J, q⟩ => exact ⟨V.non, H', J.os, J.bare, J.base, J.hok, rfl, q⟩
  | .brk, ⟨_, _, _, q⟩ => exact q.elim
  | .cont, ⟨_, _, _, q⟩ => exact q.elim
variable {X : Cx} {x : Str} {p pos : Pos} {e : Expr} {es : List Expr} {t : TA} {f : Addr} {fd : FuncData} {ps : List Str} {sp : Sp} {k : Nat} {ds : List Value} {dvs : List V} {E : XK}
theorem pe_callG (F : FnG X.prog X.w X.K X.mg X.base CX k f fd ps sp) (ga : Bare0 X.A) (hr : Room k X.A) (hg : Gl X x) (hm : X.mg x = some (.ref f)) (hk : PySem.W.keepIn X.K (.ref f) = true) (hb : Binds X.K fd ps ds) (hd : Vals dvs ds) (hx : Passes CX X E) (ha : PA X (e :: es) t)
    (hdb : (x == ("__debug__" : Str)) = false := by decide) (he : starEach (e :: es) X.env = (false, eval e X.env) :: starEach es X.env := by rfl) (hpl : (backTo pos (starEach es X.env)).any (·.1) = false := by rfl) : PE X (.Call (.Name x p) (e :: es) [] pos) (tCall sp dvs E t) := by
  refine ⟨fun pins s σ H Q I h => wpAny_Call_Name_kw (ld_glob I hg hm ?_ hdb)⟩
  refine PySem.W.callWith_K (h₀ := X.base) I.ok.mod.kin hk (thn (ha.run pos pins s σ H _ I h) fun us s1 ⟨vs, H1, I1, r, q⟩ => ⟨I1.kIn, ?_⟩) he hpl
  have r2 : Vals (vs ++ dvs) (us ++ ds) := r.append hd
  refine wpAny_call (codeAny_mono (F.run X.A X.stack s1 H1 ⟨us, []⟩ (us ++ ds) (vs ++ dvs) Q E ga hr I1.env0 (hb s1 us I1.kIn (by rw [← r2.length]; exact F.len _ _ _ _ q)) r2 q) fun out s' hq => ?_)
  match out, hq with
  | .error e, hq => exact hx pins σ H1 s1 e s' I1 hq
  | .ok (.ret u), hq => exact I1.after hq
  | .ok .next, hq => exact hq.elim
  | .ok .brk, hq => exact hq.elim
  | .ok .cont, hq => exact hq.elim
end
/-! ### the end of a law whose def is such a one -/
theorem law_callG {P : Program} {w : World} {K : PySem.W.Frag} {mg mb : Str → Option Value} {k : Nat} {fa a : Addr} {fd : FuncData} {x : Str} {sp : Sp} {s₁ : Shared} {vs : List Value} {ns : List Int} (KX : K.In s₁.heap) (hns : s₁.heap.Ns mainGlobals mg) (hb : s₁.heap.Ns builtinsNs mb)
    (hbb : ∀ x : Str, x ≠ "__name__" → mb x = bootBuiltins x) (hlim : s₁.heap.NoLimit) (hg : s₁.gens = #[]) (ha : s₁.heap.get? a = some { cls := .type "list", data := .seq vs.toArray }) (hi : IntsAre vs ns) (hl : ns.length ≤ sizeLine) (hr : Room k callerA)
    (F : ∀ base : Heap, K.In base → base.Ns mainGlobals mg → FnG P w K mg base CX0 k fa fd [x] sp) (hbind : ∀ (s : Shared) (u : Value), BindsTo s fd ⟨[u], []⟩ [(x, u)]) (hsp : ∀ H : Hp, Only H → SqL K H a (ns.map V.int) → sp [.ref a] H (fun v _ => v = .bl true) fun _ _ _ => False) :
    codeAny (model P w) callerA (.call (.ref fa) ⟨[.ref a], []⟩) (fun r s' => r = .ok (.ret (.bool true)) ∧ OldK s₁.heap s'.heap ∧ s'.os = s₁.os ∧ AllBare s'.gens) s₁ := by
  have rv := vals_ints hi
  have main : ∀ H : Hp, Only H → SqL K H a (ns.map V.int) → HOk P w H s₁.heap → (∀ b, H b ≠ none → b = a ∧ K.lookup a = none) →
      codeAny (model P w) callerA (.call (.ref fa) ⟨[.ref a], []⟩) (fun r s' => r = .ok (.ret (.bool true)) ∧ OldK s₁.heap s'.heap ∧ s'.os = s₁.os ∧ AllBare s'.gens) s₁ := by
    intro H hO hS hok only
    have seen : ∀ {b : Addr} {o : Obj}, s₁.heap.get? b = some o → H b = none → (hidT s₁.heap H).get? b = some o := fun e n => hidT_get e n
    have away : ∀ {b : Addr}, b ≠ a → H b = none := fun {b} n => by
      cases q : H b with
      | none => rfl
      | some u => exact absurd (only b (by rw [q]; intro z; cases z)).1 n
    have space : ∀ {b : Addr} {m : Str → Option Value}, s₁.heap.Ns b m → (hidT s₁.heap H).Ns b m := fun {b m} ⟨o, es, ep, e, d, r⟩ => ⟨o, es, ep, seen e (away fun z => by
      subst z
      rw [ha] at e
      cases e
      exact absurd (show Data.seq vs.toArray _ = Data.dict es ep from d) (fun q => nomatch q)), d, r⟩
    have kin : K.In (hidT s₁.heap H) := fun b o e => seen (KX b o e) (by
      cases q : H b with
      | none => rfl
      | some u =>
        obtain ⟨z, n⟩ := only b (by rw [q]; intro z; cases z)
        rw [z, n] at e
        cases e)
    have modl : Mod K mg (hidT s₁.heap H) := ⟨kin, space hns, ⟨mb, space hb, hbb⟩, let ⟨mc, h1, h2⟩ := hlim; ⟨mc, space h1, h2⟩⟩
    have env : Env0 P w K mg (hidT s₁.heap H) callerA [] s₁ H := { frames := rfl, mod := modl, bs := fun b o e => of_hidT e, bsz := Nat.le_of_eq (hidT_size _ _), funs := trivial, frf := fun b hb => (by cases hb), hok := hok, bare := .of_eq hg }
    refine codeAny_mono ((F _ kin (space hns)).run callerA [] s₁ H ⟨[.ref a], []⟩ [.ref a] [.ref a] _ _ rfl hr env (hbind s₁ (.ref a)) (.cons rfl .nil) (hsp H hO hS)) fun r s' out => ?_
    match r, out with
    | .error e, out => exact (show False from out).elim
    | .ok .next, out => exact (show False from out).elim
    | .ok .brk, out => exact (show False from out).elim
    | .ok .cont, out => exact (show False from out).elim
    | .ok (.ret u), ⟨v, H', os, bare, un, hok', r', q⟩ =>
      obtain rfl : v = .bl true := q
      obtain rfl : u = Value.bool true := r'
      refine ⟨rfl, OldK.of_keep fun b o e => ?_, os, bare⟩
      by_cases hb : b = a
      · subst hb
        rcases hO b with z | ⟨ob, xs, z⟩
        · exact un.keep b o e z (by intro z; cases z) (by intro z; cases z)
        · have f1 := (hok b _ z).1
          have f2 := (hok' b _ (un.frzs b ob _ z)).1
          rw [e] at f1
          cases f1
          exact f2
      · exact un.keep b o e (away hb) (by intro z; cases z) (by intro z; cases z)
  cases hk : K.lookup a with
  | some o =>
    have e := KX a o hk
    rw [ha] at e
    cases e
    exact main (fun _ => none) (fun _ => .inl rfl) (.inr ⟨_, vs.toArray, _, hk, rfl, rfl, rfl, by rw [List.size_toArray, hi.length]; exact hl, by simpa using rv⟩) (fun b u z => by cases (show (none : Option HO) = some u from z)) fun b z => absurd rfl z
  | none =>
    let o : Obj := { cls := .type "list", data := .seq vs.toArray }
    refine main (fun b => if b = a then some (.frz o (.lst (ns.map V.int))) else none) (fun b => ?_) (.inl (.inr ⟨o, if_pos rfl⟩)) (fun b u z => ?_) fun b z => ?_
    · by_cases hb : b = a
      · exact .inr ⟨_, _, if_pos hb⟩
      · exact .inl (if_neg hb)
    · by_cases hb : b = a
      · have e1 : some (HO.frz o (.lst (ns.map V.int))) = some u := (if_pos hb).symm.trans z
        cases e1
        subst hb
        exact ⟨ha, (by rw [List.length_map]; exact hl), vs, _, rv, ha⟩
      · cases (show (none : Option HO) = some u from (if_neg hb).symm.trans z)
    · by_cases hb : b = a
      · exact ⟨hb, hk⟩
      · exact absurd (if_neg hb) z
theorem walk_ofG {l : PySem.W.OpenLaw} {n k : Nat} {q : Program} {loose : List Str} {XP : (Str → Option Value) → Heap → Prop} {YP : World → Heap → Prop} {d : DefRec} {K : Params → PySem.W.Frag} {sp : World → Sp} {x : Str} (hn : l.most = some n) (hn2 : n ≤ sizeLine) (hdf : d.params.defaults = []) (hr : Room k callerA)
    (hY : ∀ (w : World) (h : Heap), YP w h → (K w.params).In h) (F : ∀ (w : World) (mg : Str → Option Value) (fa : Addr) (h : Heap), (K w.params).In h → h.Ns mainGlobals mg → mg d.name = some (.ref fa) → ∃ fd : FuncData, (∀ (s : Shared) (u : Value), BindsTo s fd ⟨[u], []⟩ [(x, u)]) ∧
      ∀ base : Heap, (K w.params).In base → base.Ns mainGlobals mg → FnG l.prog w (K w.params) mg base CX0 k fa fd [x] (sp w))
    (hsp : ∀ (w : World) (H : Hp) (a : Addr) (ns : List Int), ns.length ≤ n → (∀ z ∈ ns, Builtin.Int.intBits z ≤ 1048576) → Only H → SqL (K w.params) H a (ns.map V.int) → sp w [.ref a] H (fun v _ => v = .bl true) fun _ _ _ => False) : PySem.W.WalkO q loose XP YP l.row.toRowW d [] (fun f vs => PySem.call f vs) := by
  refine Att.attach_callB hn hdf fun w s₀ s₁ mg mb fa o pm cd doc a vs ns G Y ho hd hcd hmg hobj hints hlen hbits hg => ?_
  obtain ⟨fd, hb, hF⟩ := F w mg fa _ (hY w _ Y) G.T.g hmg
  exact law_callG (hY w _ Y) G.T.g G.T.b G.T.builtins G.T.nolimit hg hobj hints (Nat.le_trans hlen hn2) hr hF hb fun H hO hS => hsp w H a ns hlen hbits hO hS
/-! ### repr of data -/
mutual
theorem dp_nodict {K : PySem.W.Frag} {H : Hp} : ∀ (d : D) (v : V), Dp K H v d → d.hasDict = false
  | .none, _, _ => by simp only [PyData.hasDict]
  | .bool _, _, _ => by simp only [PyData.hasDict]
  | .int _, _, _ => by simp only [PyData.hasDict]
  | .str _, _, _ => by simp only [PyData.hasDict]
  | .list ds, _, h => by
    cases h with
    | lst hs ha => simp only [PyData.hasDict]; exact dps_nodict ds _ ha
  | .tuple ds, _, h => by
    cases h with
    | tup hs ha => simp only [PyData.hasDict]; exact dps_nodict ds _ ha
  | .dict _, _, h => by cases h
theorem dps_nodict {K : PySem.W.Frag} {H : Hp} : ∀ (ds : List D) (vs : List V), DpAll K H vs ds → PyData.hasDictAll ds = false
  | [], _, _ => by simp only [PyData.hasDictAll]
  | d :: ds, _, h => by
    cases h with
    | cons h1 h2 => simp only [PyData.hasDictAll, dp_nodict d _ h1, dps_nodict ds _ h2, Bool.or_self]
end
def rReprD (K : PySem.W.Frag) : List V → Hp → VK → Prop := fun xs H Q => ∃ x d, xs = [x] ∧ Dp K H x d ∧ d.showable = true ∧ d.depth ≤ 60 ∧ d.shown.length ≤ 1000000 ∧ Q (.str d.shown) H
theorem call_reprD {X : Cx} (ga : Bare0 X.A) (hu : X.A.units + 64 < cLine) : CallR X (.builtin "repr") (rReprD X.K) := by
  intro pins s σ H xs us Q I r h
  obtain ⟨x, d, rfl, hd, h1, h2, h3, q⟩ := h
  cases r with
  | cons rv rn =>
    cases rn
    rename_i u
    have big : (1000000 : Nat) ≤ sizeLine := by decide
    have fin : ∀ h' tk t, (∀ b o, s.heap.get? b = some o → h'.get? b = some o) → EP X pins σ Q (.str d.shown t) { s with heap := h', toks := tk } := fun h' tk t k => ⟨.str d.shown, H, I.kept (t' := tk) k, ⟨t, rfl⟩, q⟩
    cases hd with
    | non =>
      obtain rfl : u = Value.none := rv
      exact P.repr_of_none (fin _ _ _ fun _ _ e => e)
    | bl b =>
      obtain rfl : u = Value.bool b := rv
      exact P.repr_of_bool (by cases b <;> exact fin _ _ _ fun _ _ e => e)
    | int i =>
      obtain ⟨t, rfl⟩ := rv
      exact P.repr_of_int (by simpa [PyData.showable] using h1) (fin _ _ _ fun _ _ e => e)
    | str z =>
      obtain ⟨t, rfl⟩ := rv
      exact P.repr_of_str (fin _ _ _ fun _ _ e => e) (Nat.le_trans h3 big)
    | lst hs ha =>
      rename_i a vs ds
      obtain rfl : u = Value.ref a := rv
      obtain ⟨as, rd⟩ := Dp.reads I (.list ds) (.ref a) (.ref a) (.lst hs ha) rfl
      exact repr_of_reads' rd h1 (PyData.noDict_hsm (dp_nodict _ _ (.lst hs ha))) ga (by omega) (fun _ _ e => e) (fun h' t tk k => fin h' tk t k) (Nat.le_trans h3 big)
    | tup hs ha =>
      rename_i a vs ds
      obtain rfl : u = Value.ref a := rv
      obtain ⟨as, rd⟩ := Dp.reads I (.tuple ds) (.ref a) (.ref a) (.tup hs ha) rfl
      exact repr_of_reads' rd h1 (PyData.noDict_hsm (dp_nodict _ _ (.tup hs ha))) ga (by omega) (fun _ _ e => e) (fun h' t tk k => fin h' tk t k) (Nat.le_trans h3 big)
theorem cd_repr {K : PySem.W.Frag} {x : D} (h1 : x.showable = true) (h2 : x.depth ≤ 60) (h3 : x.shown.length ≤ 1000000) : CD K (rReprD K) [x] (.str x.shown) := fun B H vs e h Q q => by
  cases h with
  | cons r rn =>
    cases rn
    exact ⟨_, x, rfl, dp_up e _ _ r, h1, h2, h3, q _ B H (.refl e) (.str _)⟩
/-! ### an own error without arguments -/
theorem pmk_own0 {X : Cx} {C : Addr} {bmB : List Value} {B newId initId : String} {x : Str} {p pos : Pos} (F : ExcBaseFacts B newId initId bmB) (q : PySem.W.excIn X.K C bmB newId = true) (gC : X.mg x = some (.ref C)) (kC : PySem.W.keepIn X.K (.ref C) = true)
    (r : Raises X (.ref C)) (hg : Gl X x) (hdb : (x == ("__debug__" : Str)) = false := by decide) : PMk X (.Call (.Name x p) [] [] pos) (fun _ H Q => Q (.ref C) none H) := by
  intro pins s σ H Q I h
  refine wpAny_Call_Name_kw (ld_glob I hg gC (PySem.W.callWith_K0 I.kIn kC ?_) hdb)
  obtain ⟨bm, N, nm, qn, bs, hdct, sn, sub, ab, col, dd, k0, k1, k2, k3, k5, mN, hC, hN, hni, T⟩ := exc_obj I.kIn q
  exact wpAny_call_exc_subT F T hC hN hni (fun h' e hm => mk_of I hm r h (I.hok.gone hm.new)) (Nat.zero_le _)
end Co
namespace Co
open PySem PySem.Spec PyProof.Rows L2
section
variable {K : PySem.W.Frag}
/-! ### readings step by step, whatever the heap does -/
section
variable {σ : L2.St} {H : Hp} {Q : VK} {Dn : Ends} {ta tb te tc : TE} {t u : TS} {c : TT} {r r' : R2} {g : TG} {tr : TA}
theorem w_seq (h : t { Dn with nx := u Dn } σ H) : tSeq t u Dn σ H := h
theorem w_next (h : Dn.nx σ H) : tNext Dn σ H := h
theorem w_asg (h : te σ H fun x H1 => g x σ H1 Dn.nx) : tAsg te g Dn σ H := h
theorem w_set {i : Nat} {v : V} (h : Dn.nx (σ.set i (some v)) H) : gName i v σ H Dn.nx := h
theorem w_ret (h : te σ H Dn.rt) : tRet te Dn σ H := h
theorem w_drop (h : te σ H fun _ H1 => Dn.nx σ H1) : tDrop te Dn σ H := h
theorem w_if (h : c σ H fun b H1 => if b = true then t Dn σ H1 else u Dn σ H1) : tIfS c t u Dn σ H := h
theorem w_test {Q : Bool → Hp → Prop} (h : te σ H fun x H' => ∃ k, x = .bl k ∧ Q k H') : tTest te σ H Q := h
theorem w_B {Q : Bool → Hp → Prop} (h : te σ H fun x H' => ∃ k, x = .bl k ∧ Q k H') : tB te σ H Q := h
theorem w_op (h : ta σ H fun x H1 => tb σ H1 fun y H2 => r x y H2 Q) : tOp r ta tb σ H Q := h
theorem w_var {i : Nat} {v : V} (h : σ[i]? = some (some v)) (q : Q v H) : tVar i σ H Q := ⟨v, h, q⟩
theorem w_c {v : V} (q : Q v H) : tC v σ H Q := q
theorem w_cb {r : List V → Hp → VK → Prop} (h : tr σ H fun vs H1 => r vs H1 Q) : tCB r tr σ H Q := h
theorem w_cons {Q : List V → Hp → Prop} (h : ta σ H fun x H1 => tr σ H1 fun xs H2 => Q (x :: xs) H2) : tCons ta tr σ H Q := h
theorem w_nil {Q : List V → Hp → Prop} (h : Q [] H) : tNil σ H Q := h
theorem w_call {sp : Sp} {dvs : List V} {E : XK} (h : tr σ H fun vs H1 => sp (vs ++ dvs) H1 Q E) : tCall sp dvs E tr σ H Q := h
theorem w_ix {K : PySem.W.Frag} {m : Addr} {xs : List V} {j : Int} {v : V} (hm : H m = some (.lst xs)) (hx : atI xs j = some v) (q : Q v H) : rIx K (.ref m) (.int j) H Q := .inl ⟨m, xs, j, v, rfl, rfl, SqL.of hm, hx, q⟩
/-- m[j], m a list at slot i -/
theorem w_at {K : PySem.W.Frag} {i : Nat} {m : Addr} {xs : List V} {j : Int} {v : V} (hs : σ[i]? = some (some (.ref m))) (hm : H m = some (.lst xs)) (hx : atI xs j = some v) (q : Q v H) : tOp (rIx K) (tVar i) (tC (.int j)) σ H Q := w_op (w_var hs (w_c (w_ix hm hx q)))
theorem w_I0 {f : Int → Int → V} {i j : Int} (q : Q (f i j) H) : rI0 f (.int i) (.int j) H Q := ⟨i, j, rfl, rfl, q⟩
theorem w_I {C : Int → Int → Prop} {f : Int → Int → V} {i j : Int} (h : C i j) (q : Q (f i j) H) : rI C f (.int i) (.int j) H Q := ⟨i, j, rfl, rfl, h, q⟩
theorem w_add {K : PySem.W.Frag} {i j : Int} (q : Q (.int (i + j)) H) : rAddA K (.int i) (.int j) H Q := .inl ⟨i, j, rfl, rfl, q⟩
theorem w_int {i : Int} (q : Q (.int i) H) : rInt1 [.int i] H Q := .inl ⟨i, rfl, q⟩
theorem w_bl {k : Bool} {Q : Bool → Hp → Prop} (q : Q k H) : ∃ k', V.bl k = .bl k' ∧ Q k' H := ⟨k, rfl, q⟩
/-- m[j] = v, m a list at slot i -/
theorem w_put {N : L2.St → Hp → Prop} {i : Nat} {m : Addr} {xs : List V} {j : Int} {n : Nat} {v : V} (hs : σ[i]? = some (some (.ref m))) (hm : H m = some (.lst xs)) (hj : ixN xs.length j = some n) (q : N σ (upd H m (.lst (xs.set n v)))) :
    gSub (tVar i) (tC (.int j)) rSetL v σ H N := ⟨_, hs, m, xs, j, n, rfl, rfl, hm, hj, q⟩
end
/-- a bag: the script's ints (a list at p), the place, the rest, the count, the seed -/
structure BS where
  p : Addr
  ns : List Int
  i : Int
  g : Int
  c : Int
  s : Int
def mix1 (s c z : Int) : Int := (s * 48271 + z % 2147483629 * 69621 + c * 7919 + 11) % 2147483647
def mix2 (m c : Int) : Int := (m * 16807 + c * c * 104729 + m / 65536) % 998244353
def absI (z : Int) : Int := if z < 0 then -z else z
/-- a draw and the bag behind it -/
def drw (b : BS) (lim : Int) : Int × BS :=
  if 0 < b.g then (b.g % lim, { b with g := b.g / lim, c := b.c + 1 })
  else if b.i < b.ns.length then
    if 10 ^ 18 ≤ absI (b.ns.getD b.i.toNat 0) then (absI (b.ns.getD b.i.toNat 0) % lim, { b with i := b.i + 1, g := absI (b.ns.getD b.i.toNat 0) / lim, c := b.c + 1 })
    else (mix2 (mix1 b.s (b.c + 1) (b.ns.getD b.i.toNat 0)) (b.c + 1) / 7 % lim, { b with i := b.i + 1, c := b.c + 1, s := mix1 b.s (b.c + 1) (b.ns.getD b.i.toNat 0) })
  else (mix2 (mix1 b.s (b.c + 1) (b.c + 1)) (b.c + 1) / 7 % lim, { b with c := b.c + 1, s := mix1 b.s (b.c + 1) (b.c + 1) })
abbrev dv (b : BS) (lim : Int) : Int := (drw b lim).1
abbrev db (b : BS) (lim : Int) : BS := (drw b lim).2
theorem draw_range {b : BS} {lim : Int} (h : 1 ≤ lim) : 0 ≤ dv b lim ∧ dv b lim < lim := by
  have h0 : ∀ x : Int, 0 ≤ x % lim ∧ x % lim < lim := fun x => ⟨Int.emod_nonneg _ (by omega), Int.emod_lt_of_pos _ (by omega)⟩
  unfold dv drw
  split
  · exact h0 _
  · split
    · split <;> exact h0 _
    · exact h0 _
/-- the bag b at m; n more draws may be made -/
structure BagAt (K : PySem.W.Frag) (B H : Hp) (m : Addr) (b : BS) (n : Nat) : Prop where
  nb : B m = none
  at' : H m = some (.lst [.ref b.p, .int b.i, .int b.g, .int b.c, .int b.s])
  ls : SqL K B b.p (b.ns.map V.int)
  bits : ∀ z ∈ b.ns, Builtin.Int.intBits z ≤ 1048576
  i0 : 0 ≤ b.i
  g0 : 0 ≤ b.g
  c0 : 0 ≤ b.c
  cn : b.c + n ≤ 1000000000
  s0 : 0 ≤ b.s
  s1 : b.s < 2147483647
theorem BagAt.less {B H : Hp} {m : Addr} {b : BS} {n k : Nat} (x : BagAt K B H m b n) (h : k ≤ n) : BagAt K B H m b k :=
  ⟨x.nb, x.at', x.ls, x.bits, x.i0, x.g0, x.c0, by have := x.cn; omega, x.s0, x.s1⟩
theorem BagAt.up {B H B' H' : Hp} {m : Addr} {b : BS} {n : Nat} (x : BagAt K B H m b n) (g : Gw B H B' H') : BagAt K B' H' m b n :=
  ⟨g.f m x.nb (by rw [x.at']; intro z; cases z), g.same _ _ x.at', g.b.seq x.ls, x.bits, x.i0, x.g0, x.c0, x.cn, x.s0, x.s1⟩
/-- a draw -/
def spDraw (K : PySem.W.Frag) : Sp := fun vs H Q _ => ∃ (B : Hp) (m : Addr) (b : BS) (n : Nat) (lim : Int), vs = [.ref m, .int lim] ∧ Same B H ∧ BagAt K B H m b (n + 1) ∧ 1 ≤ lim ∧ lim ≤ 10 ^ 30 ∧
  ∀ H', Gm (· = m) B H B H' → BagAt K B H' m (db b lim) n → Q (.int (dv b lim)) H'
/-- the bag's making -/
def spBag (K : PySem.W.Frag) : Sp := fun vs H Q _ => ∃ (B : Hp) (a : Addr) (ns : List Int), vs = [.ref a] ∧ Same B H ∧ SqL K B a (ns.map V.int) ∧ ns.length ≤ 63 ∧ (∀ z ∈ ns, Builtin.Int.intBits z ≤ 1048576) ∧
  ∀ m b B' H', Gw B H B' H' → BagAt K B' H' m b 900000000 → Q (.ref m) H'
theorem ten30 : (10 : Int) ^ 30 = 1000000000000000000000000000000 := by decide
theorem lim_wide {lim : Int} (h1 : 1 ≤ lim) (h2 : lim ≤ 10 ^ 30) : CDivW 0 lim := by
  rw [ten30] at h2
  refine wide_div (b := 100) (by omega) ?_ (by decide) (by decide)
  have : (2 : Nat) ^ 100 = 1267650600228229401496703205376 := by decide
  rw [this]
  omega
/-- one more write at m -/
theorem Gm.put {B H B' H' : Hp} {m : Addr} {o : HO} (g : Gm (· = m) B H B' H') (nb : B' m = none) : Gm (· = m) B H B' (upd H' m o) where
  b := g.b
  i := fun a u q => by rw [upd_ne (ne_of_none q nb)]; exact g.i a u q
  r := fun a u n q => by rw [upd_ne n]; exact g.r a u n q
  f := g.f
/-- m[j] = v where the heap is known by g -/
theorem w_putG {σ : L2.St} {N : L2.St → Hp → Prop} {B H B' H' : Hp} {i : Nat} {m : Addr} {xs ys : List V} {j : Int} {n : Nat} {v : V} (g : Gm (· = m) B H B' H') (nb : B' m = none) (hs : σ[i]? = some (some (.ref m))) (hm : H' m = some (.lst xs)) (hj : ixN xs.length j = some n) (hy : xs.set n v = ys)
    (q : ∀ H2, Gm (· = m) B H B' H2 → H2 m = some (.lst ys) → N σ H2) : gSub (tVar i) (tC (.int j)) rSetL v σ H' N := w_put hs hm hj (by rw [hy]; exact q _ (g.put nb) upd_same)
/-- many writes at m -/
theorem gm_puts {B H : Hp} {m : Addr} {o : HO} (e : Same B H) (nb : B m = none) : Gm (· = m) B H B (upd H m o) := Gm.mut e nb
end
end Co
namespace Co
open PySem PySem.Spec PyProof.Rows L2
section
variable {K : PySem.W.Frag}
/-- a def that is a function of data, where it is one -/
def spF (K : PySem.W.Frag) (F : List D → Option D) : Sp := fun vs H Q _ => ∃ (B : Hp) (ds : List D) (d : D), Same B H ∧ DpAll K B vs ds ∧ F ds = some d ∧ ∀ v B' H', Gw B H B' H' → Dp K B' v d → Q v H'
theorem pd_of {F : List D → Option D} {ds : List D} {d : D} (h : F ds = some d) : PD K (spF K F) ds d := fun B H vs e r Q E q => ⟨B, ds, d, e, r, h, q⟩
/-- a def that gives data in such a relation to its arguments' data -/
def spR (K : PySem.W.Frag) (R : List D → D → Prop) : Sp := fun vs H Q _ => ∃ (B : Hp) (ds : List D) (d : D), Same B H ∧ DpAll K B vs ds ∧ R ds d ∧ ∀ v B' H', Gw B H B' H' → Dp K B' v d → Q v H'
theorem pd_ofR {R : List D → D → Prop} {ds : List D} {d : D} (h : R ds d) : PD K (spR K R) ds d := fun B H vs e r Q E q => ⟨B, ds, d, e, r, h, q⟩
theorem spR_len {R : List D → D → Prop} {n : Nat} (hF : ∀ ds d, R ds d → ds.length = n) {vs : List V} {H : Hp} {Q : VK} {E : XK} (h : spR K R vs H Q E) : vs.length = n := by
  obtain ⟨B, ds, d, _, r, e, _⟩ := h
  rw [dpall_len r]
  exact hF ds d e
theorem dpall3 {B : Hp} {vs : List V} {a b c : D} (h : DpAll K B vs [a, b, c]) : ∃ x y z, vs = [x, y, z] ∧ Dp K B x a ∧ Dp K B y b ∧ Dp K B z c := by
  cases h with | cons h1 h => cases h with | cons h2 h => cases h with | cons h3 h => cases h; exact ⟨_, _, _, rfl, h1, h2, h3⟩
theorem dpall2 {B : Hp} {vs : List V} {a b : D} (h : DpAll K B vs [a, b]) : ∃ x y, vs = [x, y] ∧ Dp K B x a ∧ Dp K B y b := by
  cases h with | cons h1 h => cases h with | cons h2 h => cases h; exact ⟨_, _, rfl, h1, h2⟩
theorem dpall1 {B : Hp} {vs : List V} {a : D} (h : DpAll K B vs [a]) : ∃ x, vs = [x] ∧ Dp K B x a := by
  cases h with | cons h1 h => cases h; exact ⟨_, rfl, h1⟩
theorem spF_len {F : List D → Option D} {n : Nat} (hF : ∀ ds d, F ds = some d → ds.length = n) {vs : List V} {H : Hp} {Q : VK} {E : XK} (h : spF K F vs H Q E) : vs.length = n := by
  obtain ⟨B, ds, d, _, r, e, _⟩ := h
  rw [dpall_len r]
  exact hF ds d e
section
variable {σ : L2.St} {B H : Hp} {ta tb : TE} {tt uu : TT} {b : Bool} {d : D}
theorem skip_or {a : Bool} (h : a = true) : a = false → DE K tb σ B (.bool false) := fun z => by rw [h] at z; cases z
theorem skip_and {a : Bool} (h : a = false) : a = true → DE K tb σ B (.bool false) := fun z => by rw [h] at z; cases z
theorem tskip_or {a : Bool} (h : a = true) : a = false → DT uu σ B false := fun z => by rw [h] at z; cases z
theorem tskip_and {a : Bool} (h : a = false) : a = true → DT uu σ B false := fun z => by rw [h] at z; cases z
theorem isi_int {x : D} (h : DE K ta σ B x) : DE K (tCB (rIsi K) (tCons ta (tCons (tC (.ty "int")) tNil))) σ B (.bool (isA x .int)) := de_isi .int h
theorem isi_bool {x : D} (h : DE K ta σ B x) : DE K (tCB (rIsi K) (tCons ta (tCons (tC (.ty "bool")) tNil))) σ B (.bool (isA x .bool)) := de_isi .bool h
theorem isi_str {x : D} (h : DE K ta σ B x) : DE K (tCB (rIsi K) (tCons ta (tCons (tC (.ty "str")) tNil))) σ B (.bool (isA x .str)) := de_isi .str h
theorem isi_list {x : D} (h : DE K ta σ B x) : DE K (tCB (rIsi K) (tCons ta (tCons (tC (.ty "list")) tNil))) σ B (.bool (isA x .list)) := de_isi .list h
theorem isi_tuple {x : D} (h : DE K ta σ B x) : DE K (tCB (rIsi K) (tCons ta (tCons (tC (.ty "tuple")) tNil))) σ B (.bool (isA x .tuple)) := de_isi .tuple h
theorem isi_lt {x : D} (h : DE K ta σ B x) : DE K (tCB (rIsiT K) (tCons ta (tCons (tTup (tCons (tC (.ty "list")) (tCons (tC (.ty "tuple")) tNil))) tNil))) σ B (.bool (isA x .list || isA x .tuple)) := de_isiT .list .tuple h
theorem dp_g {M : Addr → Prop} {B H B' H' : Hp} {v : V} {d : D} (g : Gm M B H B' H') (h : Dp K B v d) : Dp K B' v d := dp_up g.b _ _ h
theorem sm_g {M : Addr → Prop} {B H B' H' : Hp} (g : Gm M B H B' H') : Same B' H' := g.i
/-- statements: the heap's base first -/
theorem s_ret {rt : VK} {nx : L2.St → Hp → Prop} {bk ct : L2.St → Hp → Prop} {d' : D} (e : Same B H) (h : DE K ta σ B d) (k : ∀ v B' H', Gw B H B' H' → Dp K B' v d' → rt v H') (q : d = d') : tRet ta ⟨nx, rt, bk, ct⟩ σ H := by
  subst q
  exact st_ret h e k
theorem s_if {Dn : Ends} {t u : TS} {b : Bool} (e : Same B H) (h : DT tt σ B b) (k1 : b = true → ∀ B' H', Gw B H B' H' → t Dn σ H') (k2 : b = false → ∀ B' H', Gw B H B' H' → u Dn σ H') : tIfS tt t u Dn σ H := st_if h e k1 k2
theorem s_asg {nx : L2.St → Hp → Prop} {rt : VK} {bk ct : L2.St → Hp → Prop} {i : Nat} (e : Same B H) (h : DE K ta σ B d) (k : ∀ v B' H', Gw B H B' H' → Dp K B' v d → nx (σ.set i (some v)) H') : tAsg ta (gName i) ⟨nx, rt, bk, ct⟩ σ H := st_asg h e k
theorem s_drop {nx : L2.St → Hp → Prop} {rt : VK} {bk ct : L2.St → Hp → Prop} (e : Same B H) (h : DE K ta σ B d) (k : ∀ B' H', Gw B H B' H' → nx σ H') : tDrop ta ⟨nx, rt, bk, ct⟩ σ H := st_drop h e k
end
/-! ### loops backwards and over two things, lists of one's own -/
theorem st_rev {σ : L2.St} {B H : Hp} {te : TE} {x : D} {ds : List D} {j : Nat} {t : TS} {Dn : Ends} (h : DE K te σ B x) (sd : SeqD x ds) (e : Same B H)
    (k : ∀ B1 H1, Gw B H B1 H1 → ∃ P : Nat → L2.St → Hp → Prop, P 0 σ H1 ∧ (∀ i σ' H', P i σ' H' → Same B1 H') ∧
      (∀ i d v σ' H', ds.reverse[i]? = some d → Dp K B1 v d → P i σ' H' → t { Dn with nx := P (i + 1), ct := P (i + 1), bk := Dn.nx } (σ'.set j (some v)) H') ∧ (∀ σ' H', P ds.length σ' H' → Dn.nx σ' H')) :
    tFor (RT.iRevA K te) (gName j) t Dn σ H := h H e _ fun v B1 H1 g1 r1 => by
  obtain ⟨P, p0, ps, pt, pd⟩ := k B1 H1 g1
  have go : ∀ {vs : List V}, DpAll K B1 vs ds → ∀ i, i < vs.length → ∃ w d, vs[vs.length - 1 - i]? = some w ∧ ds.reverse[i]? = some d ∧ Dp K B1 w d := fun {vs} ha i hi => by
    have el := dpall_len ha
    obtain ⟨d, hd⟩ : ∃ d, ds[vs.length - 1 - i]? = some d := ⟨_, List.getElem?_eq_getElem (by omega)⟩
    obtain ⟨w, e1, e2⟩ := dpall_get ha hd
    refine ⟨w, d, e1, ?_, e2⟩
    rw [List.getElem?_reverse (by omega), ← el]
    exact hd
  cases sd with
  | l ds =>
    cases r1 with
    | lst hs ha =>
      rename_i a vs
      refine ⟨a, vs, rfl, .inl ⟨g1.i.seq hs, fun i m σ' H' => m = vs.length - i ∧ i ≤ vs.length ∧ P i σ' H', ⟨_, rfl, Nat.zero_le _, p0⟩, ?_⟩⟩
      rintro i m σ' H' ⟨rfl, hi, p⟩
      by_cases hlt : i < vs.length
      · obtain ⟨w, d, e1, e2, e3⟩ := go ha i hlt
        refine .inr ⟨⟨hlt, vs, w, (ps i σ' H' p).seq hs, e1⟩, P (i + 1), fun σ2 H2 p2 => ⟨vs.length - (i + 1), by omega, rfl, hlt, p2⟩, fun y H2 hy => ?_⟩
        obtain ⟨rfl, hy⟩ := hy
        have q := hy vs ((ps i σ' _ p).seq hs)
        rw [e1] at q
        cases q
        exact pt i d w σ' _ e2 e3 p
      · have z : i = vs.length := by omega
        subst z
        rw [dpall_len ha] at p
        exact .inl ⟨Nat.le_refl _, pd σ' H' p⟩
  | t ds =>
    cases r1 with
    | tup hs ha =>
      rename_i a vs
      refine ⟨a, vs, rfl, .inr ⟨seqT_up g1.i hs, fun i m σ' H' => m = vs.length - i ∧ i ≤ vs.length ∧ P i σ' H', ⟨_, rfl, Nat.zero_le _, p0⟩, ?_⟩⟩
      rintro i m σ' H' ⟨rfl, hi, p⟩
      by_cases hlt : i < vs.length
      · obtain ⟨w, d, e1, e2, e3⟩ := go ha i hlt
        refine .inr ⟨⟨hlt, vs, w, seqT_up (ps i σ' H' p) hs, e1⟩, P (i + 1), fun σ2 H2 p2 => ⟨vs.length - (i + 1), by omega, rfl, hlt, p2⟩, fun y H2 hy => ?_⟩
        obtain ⟨rfl, hy⟩ := hy
        have q := hy vs (seqT_up (ps i σ' _ p) hs)
        rw [e1] at q
        cases q
        exact pt i d w σ' _ e2 e3 p
      · have z : i = vs.length := by omega
        subst z
        rw [dpall_len ha] at p
        exact .inl ⟨Nat.le_refl _, pd σ' H' p⟩
theorem sqB_of {B : Hp} {v : V} {x : D} {ds : List D} (r : Dp K B v x) (sd : SeqD x ds) : ∃ a vs k, v = .ref a ∧ DpAll K B vs ds ∧ SqB K k B a vs := by
  cases sd with
  | l ds => cases r with | lst hs ha => exact ⟨_, _, true, rfl, ha, hs⟩
  | t ds => cases r with | tup hs ha => exact ⟨_, _, false, rfl, ha, hs⟩
theorem st_zip {σ : L2.St} {B H : Hp} {ta : TA} {x y : D} {xs ys : List D} {i j : Nat} {t : TS} {Dn : Ends} (h : DA K ta σ B [x, y]) (sx : SeqD x xs) (sy : SeqD y ys) (hl : xs.length = ys.length) (e : Same B H)
    (k : ∀ B1 H1, Gw B H B1 H1 → ∃ P : Nat → L2.St → Hp → Prop, P 0 σ H1 ∧ (∀ i σ' H', P i σ' H' → Same B1 H') ∧
      (∀ n d1 d2 v1 v2 σ' H' H2, xs[n]? = some d1 → ys[n]? = some d2 → Dp K B1 v1 d1 → Dp K B1 v2 d2 → P n σ' H' → (∀ B', Same B' H' → Gw B' H' B' H2) → t { Dn with nx := P (n + 1), ct := P (n + 1), bk := Dn.nx } ((σ'.set i (some v1)).set j (some v2)) H2) ∧
      (∀ σ' H', P xs.length σ' H' → Dn.nx σ' H')) : tFor (iZipG K ta) (gTup K 2 (gCons (gName i) (gCons (gName j) gNil))) t Dn σ H := h H e _ fun vs B1 H1 g1 r1 => by
  obtain ⟨P, p0, ps, pt, pd⟩ := k B1 H1 g1
  obtain ⟨u1, u2, rfl, d1, d2⟩ := dpall2 r1
  obtain ⟨a, us, ka, rfl, ha, sa⟩ := sqB_of d1 sx
  obtain ⟨b, ws, kb, rfl, hb, sb⟩ := sqB_of d2 sy
  have l1 := dpall_len ha
  have l2 := dpall_len hb
  refine ⟨a, b, us, ws, ka, kb, rfl, sa.up g1.i, sb.up g1.i, fun n m σ' H' => m = us.length - n ∧ n ≤ us.length ∧ P n σ' H', ⟨_, rfl, Nat.zero_le _, p0⟩, ?_⟩
  rintro n m σ' H' ⟨rfl, hn, p⟩
  have q1 := sa.up (ps n σ' H' p)
  have q2 := sb.up (ps n σ' H' p)
  by_cases hlt : n < us.length
  · have x1 : us[n]? = some us[n] := List.getElem?_eq_getElem hlt
    have x2 : ws[n]? = some ws[n] := List.getElem?_eq_getElem (by omega)
    refine .inr ⟨⟨us, ws, _, _, q1, q2, x1, x2⟩, P (n + 1), fun σ2 H2 p2 => ⟨us.length - (n + 1), by omega, rfl, hlt, p2⟩, fun v H2 hv => ?_⟩
    obtain ⟨T, y1, y2, rfl, hT, rfl, f1, f2⟩ := hv
    have z1 := f1 us q1
    have z2 := f2 ws q2
    rw [x1] at z1
    rw [x2] at z2
    cases z1
    cases z2
    have e1 : xs[n]? = some xs[n] := List.getElem?_eq_getElem (by omega)
    have e2 : ys[n]? = some ys[n] := List.getElem?_eq_getElem (by omega)
    obtain ⟨w1, c1, c2⟩ := dpall_get ha e1
    obtain ⟨w2, c3, c4⟩ := dpall_get hb e2
    rw [x1] at c1
    rw [x2] at c3
    cases c1
    cases c3
    exact ⟨T, [us[n], ws[n]], rfl, SqT.of upd_same, rfl, _, _, rfl, _, _, rfl, rfl, pt n _ _ _ _ σ' H' _ e1 e2 c2 c4 p fun B' s => Gw.own s hT⟩
  · have z : n = us.length := by omega
    subst z
    refine .inl ⟨⟨us, ws, q1, q2, Nat.le_refl _, by omega, .inl rfl⟩, ?_⟩
    rw [l1] at p
    exact pd σ' H' p
/-- p.append(e), p a list that is not of the base -/
theorem s_app {σ : L2.St} {B H : Hp} {te : TE} {d : D} {i : Nat} {p : Addr} {vs : List V} {nx : L2.St → Hp → Prop} {rt : VK} {bk ct : L2.St → Hp → Prop} (e : Same B H) (hs : σ[i]? = some (some (.ref p))) (nb : B p = none) (hp : H p = some (.lst vs)) (hz : vs.length < 100000) (h : DE K te σ B d)
    (k : ∀ v B' H', Gm (· = p) B H B' H' → B' p = none → H' p = some (.lst (vs ++ [v])) → Dp K B' v d → nx σ H') : tDrop (tBM K "list" rAppend (tVar i) (tCons te tNil)) ⟨nx, rt, bk, ct⟩ σ H :=
  ⟨_, hs, .inl ⟨rfl, _, SqL.of hp⟩, h H e _ fun v B1 H1 g1 r1 => ⟨p, vs, v, rfl, rfl, g1.same _ _ hp, Nat.lt_of_lt_of_le hz (by decide), by
    have n1 : B1 p = none := g1.f p nb (by rw [hp]; intro z; cases z)
    refine k v B1 _ ?_ n1 upd_same r1
    exact (g1.weak fun _ z => z.elim).put n1⟩⟩
theorem Gm.close {B H B' H' : Hp} {p : Addr} (g : Gm (· = p) B H B' H') (h : H p = none) : Gw B H B' H' := ⟨g.b, g.i, fun a o _ q => g.r a o (fun z => by rw [z, h] at q; cases q) q, g.f⟩
theorem Gm.thn {B H B1 H1 B2 H2 : Hp} {p : Addr} (g : Gm (· = p) B H B1 H1) (g' : Gm (· = p) B1 H1 B2 H2) (h : H1 p ≠ none) : Gm (· = p) B H B2 H2 := Gm.trans g g' fun a z _ => by rw [z]; exact h
theorem Gm.thw {B H B1 H1 B2 H2 : Hp} {p : Addr} (g : Gm (· = p) B H B1 H1) (g' : Gw B1 H1 B2 H2) (h : H1 p ≠ none) : Gm (· = p) B H B2 H2 := g.thn (g'.weak fun _ z => z.elim) h
theorem Gm.wth {B H B1 H1 B2 H2 : Hp} {p : Addr} (g : Gw B H B1 H1) (g' : Gm (· = p) B1 H1 B2 H2) (h : H1 p ≠ none) : Gm (· = p) B H B2 H2 := (g.weak fun _ z => z.elim).thn g' h
theorem ne_none {H : Hp} {p : Addr} {o : HO} (h : H p = some o) : H p ≠ none := by rw [h]; intro z; cases z
theorem dpallI_of {B : Hp} {vs : List V} {ns : List Int} (h : DpAll K B vs (ns.map .int)) : vs = ns.map V.int := dpall_ints h
theorem dpall_rev {B : Hp} {vs : List V} {ds : List D} (h : DpAll K B vs ds) : DpAll K B vs.reverse ds.reverse := by
  induction vs generalizing ds with
  | nil => cases h; exact .nil
  | cons v vs ih => cases h with | cons h1 h2 => rw [List.reverse_cons, List.reverse_cons]; exact dpall_app (ih h2) (.cons h1 .nil)
/-! ### a bound of is_whole -/
def loOk : D → Int → Bool
  | .int l, i => decide (l ≤ i)
  | _, _ => true
def hiOk : D → Int → Bool
  | .int h, i => decide (i ≤ h)
  | _, _ => true
def bnd : D → Bool
  | .none => true
  | .int _ => true
  | _ => false
def isWhole : D → D → D → Bool
  | .int i, lo, hi => loOk lo i && hiOk hi i
  | _, _, _ => false
def fIsWhole : List D → Option D
  | [x, lo, hi] => if bnd lo && bnd hi then some (.bool (isWhole x lo hi)) else none
  | _ => none
def isSeq : D → Bool
  | .list _ => true
  | .tuple _ => true
  | _ => false
def lenD : D → Nat
  | .list xs => xs.length
  | .tuple xs => xs.length
  | _ => 0
def itemsD : D → List D
  | .list xs => xs
  | .tuple xs => xs
  | _ => []
theorem seqD_of {x : D} (h : isSeq x = true) : SeqD x (itemsD x) := by
  cases x <;> first | exact .l _ | exact .t _ | cases h
def isSequence (x lo hi : D) : Bool := isSeq x && isWhole (.int (lenD x)) lo hi
def fIsSequence : List D → Option D
  | [x, lo, hi] => if bnd lo && bnd hi then some (.bool (isSequence x lo hi)) else none
  | _ => none
theorem cd_lenSd {x : D} {ds : List D} (h : SeqD x ds) : CD K (rLenA K) [x] (.int (ds.length : Int)) := by
  cases h <;> first | exact cd_lenL | exact cd_lenT
theorem seqD_of' {x : D} {ds : List D} (h : SeqD x ds) : isSeq x = true ∧ itemsD x = ds ∧ lenD x = ds.length := by cases h <;> exact ⟨rfl, rfl, rfl⟩
theorem rd_ixQ {x : D} {ds : List D} {i : Int} {d : D} (sd : SeqD x ds) (h0 : 0 ≤ i) (h : ds[i.toNat]? = some d) : RD K (rIx K) x (.int i) d := by
  cases sd with
  | l ds => exact rd_ixL h0 h
  | t ds => exact rd_ixT h0 h
theorem cd_tupQ {x : D} {ds : List D} (h : SeqD x ds) : CD K (rTupO K) [x] (.tuple ds) := by
  cases h <;> first | exact cd_tupL | exact cd_tupT
theorem cd_lstQ {x : D} {ds : List D} (h : SeqD x ds) : CD K (rLstO K) [x] (.list ds) := by
  cases h <;> first | exact cd_lstL | exact cd_lstT
theorem cd_lenQ {x : D} (h : isSeq x = true) : CD K (rLenA K) [x] (.int (lenD x : Int)) := by
  cases x <;> first | exact cd_lenL | exact cd_lenT | cases h
/-! ### == and != of data and of plain values -/
def rEqA (K : PySem.W.Frag) : R2 := fun x y H Q => rEqD K x y H Q ∨ rEq x y H Q
def rNeA (K : PySem.W.Frag) : R2 := fun x y H Q => rNeD K x y H Q ∨ rNe x y H Q
theorem op_eqA {X : Cx} (hu : X.A.units + 64 < cLine) : OpR X (compareOp .Eq) (rEqA X.K) := OpR.or (op_eqD hu) op_eq
theorem op_neA {X : Cx} (hu : X.A.units + 64 < cLine) : OpR X (compareOp .NotEq) (rNeA X.K) := OpR.or (op_neD hu) op_ne
theorem rd_eqX {x y : D} (h1 : SeqAt.shaped x = true) (h2 : SeqAt.shaped y = true) : RD K (rEqA K) x y (.bool (PyData.eqv x y)) := fun B H u v e hu hv Q q => .inl (rd_eqD h1 h2 B H u v e hu hv Q q)
theorem rd_neX {x y : D} (h1 : SeqAt.shaped x = true) (h2 : SeqAt.shaped y = true) : RD K (rNeA K) x y (.bool (!PyData.eqv x y)) := fun B H u v e hu hv Q q => .inl (rd_neD h1 h2 B H u v e hu hv Q q)
theorem rd_eqI {i j : Int} : RD K (rEqA K) (.int i) (.int j) (.bool (decide (i = j))) := fun B H u v e hu hv Q q => by
  cases hu; cases hv
  refine .inr ⟨rfl, ?_⟩
  have : decide ((V.int i) = V.int j) = decide (i = j) := by simp
  rw [this]
  exact q _ B H (.refl e) (.bl _)
theorem rd_neI {i j : Int} : RD K (rNeA K) (.int i) (.int j) (.bool (!decide (i = j))) := fun B H u v e hu hv Q q => by
  cases hu; cases hv
  refine .inr ⟨rfl, ?_⟩
  have : decide ((V.int i) = V.int j) = decide (i = j) := by simp
  rw [this]
  exact q _ B H (.refl e) (.bl _)
theorem rd_eqS {i j : Str} : RD K (rEqA K) (.str i) (.str j) (.bool (decide (i = j))) := fun B H u v e hu hv Q q => by
  cases hu; cases hv
  refine .inr ⟨rfl, ?_⟩
  have : decide ((V.str i) = V.str j) = decide (i = j) := by simp
  rw [this]
  exact q _ B H (.refl e) (.bl _)
theorem rd_neS {i j : Str} : RD K (rNeA K) (.str i) (.str j) (.bool (!decide (i = j))) := fun B H u v e hu hv Q q => by
  cases hu; cases hv
  refine .inr ⟨rfl, ?_⟩
  have : decide ((V.str i) = V.str j) = decide (i = j) := by simp
  rw [this]
  exact q _ B H (.refl e) (.bl _)
theorem rd_eqB {i j : Bool} : RD K (rEqA K) (.bool i) (.bool j) (.bool (decide (i = j))) := fun B H u v e hu hv Q q => by
  cases hu; cases hv
  refine .inr ⟨rfl, ?_⟩
  have : decide ((V.bl i) = V.bl j) = decide (i = j) := by simp
  rw [this]
  exact q _ B H (.refl e) (.bl _)
theorem rd_neB {i j : Bool} : RD K (rNeA K) (.bool i) (.bool j) (.bool (!decide (i = j))) := fun B H u v e hu hv Q q => by
  cases hu; cases hv
  refine .inr ⟨rfl, ?_⟩
  have : decide ((V.bl i) = V.bl j) = decide (i = j) := by simp
  rw [this]
  exact q _ B H (.refl e) (.bl _)
/-! ### defs that give a new list -/
def spL (K : PySem.W.Frag) (R : List D → List D → Prop) : Sp := fun vs H Q _ => ∃ (B : Hp) (ds es : List D), Same B H ∧ DpAll K B vs ds ∧ R ds es ∧ ∀ p us B' H', Gw B H B' H' → B' p = some (.lst us) → DpAll K B' us es → Q (.ref p) H'
theorem spL_len {R : List D → List D → Prop} {n : Nat} (hF : ∀ ds d, R ds d → ds.length = n) {vs : List V} {H : Hp} {Q : VK} {E : XK} (h : spL K R vs H Q E) : vs.length = n := by
  obtain ⟨B, ds, d, _, r, e, _⟩ := h
  rw [dpall_len r]
  exact hF ds d e
theorem dl_call {σ : L2.St} {B : Hp} {t : TA} {R : List D → List D → Prop} {E : XK} {ds es : List D} (h : DA K t σ B ds) (hr : R ds es) : DL K (tCall (spL K R) [] E t) σ B es := fun H e Q q =>
  h H e _ fun vs B1 H1 g1 r1 => ⟨B1, ds, es, g1.i, by rw [List.append_nil]; exact r1, hr, fun p us B2 H2 g2 hp r2 => q p us B2 H2 (g1.trans g2) hp r2⟩
theorem s_asgL {σ : L2.St} {B H : Hp} {te : TE} {ds : List D} {nx : L2.St → Hp → Prop} {rt : VK} {bk ct : L2.St → Hp → Prop} {i : Nat} (e : Same B H) (h : DL K te σ B ds) (k : ∀ p vs B' H', Gw B H B' H' → B' p = some (.lst vs) → DpAll K B' vs ds → nx (σ.set i (some (.ref p))) H') : tAsg te (gName i) ⟨nx, rt, bk, ct⟩ σ H :=
  h H e _ fun p vs B' H' g hp r => k p vs B' H' g hp r
theorem s_retL {σ : L2.St} {B H : Hp} {te : TE} {ds : List D} {nx : L2.St → Hp → Prop} {rt : VK} {bk ct : L2.St → Hp → Prop} (e : Same B H) (h : DL K te σ B ds) (k : ∀ p vs B' H', Gw B H B' H' → B' p = some (.lst vs) → DpAll K B' vs ds → rt (.ref p) H') : tRet te ⟨nx, rt, bk, ct⟩ σ H :=
  h H e _ fun p vs B' H' g hp r => k p vs B' H' g hp r
theorem snoc_ind {α : Type} {p : List α → Prop} (h0 : p []) (h1 : ∀ l a, p l → p (l ++ [a])) (l : List α) : p l := by
  have : ∀ n (l : List α), l.length = n → p l := by
    intro n
    induction n with
    | zero => intro l h; rw [List.length_eq_zero_iff.mp h]; exact h0
    | succ n ih =>
      intro l h
      have hne : l ≠ [] := by intro z; rw [z] at h; simp at h
      rw [← List.dropLast_concat_getLast hne]
      exact h1 _ _ (ih _ (by rw [List.length_dropLast, h]; rfl))
  exact this _ l rfl
/-! ### more -/
mutual
theorem eqv_refl : ∀ d : D, d.hasDict = false → PyData.eqv d d = true
  | .none, _ => by simp only [PyData.eqv]
  | .bool _, _ => by simp only [PyData.eqv, beq_self_eq_true]
  | .int _, _ => by simp only [PyData.eqv, beq_self_eq_true]
  | .str _, _ => by simp only [PyData.eqv, beq_self_eq_true]
  | .list ds, h => by simp only [PyData.eqv]; exact eqvs_refl ds (by simpa only [PyData.hasDict] using h)
  | .tuple ds, h => by simp only [PyData.eqv]; exact eqvs_refl ds (by simpa only [PyData.hasDict] using h)
  | .dict _, h => by simp [PyData.hasDict] at h
theorem eqvs_refl : ∀ ds : List D, PyData.hasDictAll ds = false → PyData.eqvAll ds ds = true
  | [], _ => by simp only [PyData.eqvAll]
  | d :: ds, h => by
    simp only [PyData.hasDictAll, Bool.or_eq_false_iff] at h
    simp only [PyData.eqvAll, eqv_refl d h.1, eqvs_refl ds h.2, Bool.and_self]
end
theorem eqvAll_ints : ∀ xs ys : List Int, PyData.eqvAll (xs.map .int) (ys.map .int) = decide (xs = ys)
  | [], [] => by simp [PyData.eqvAll]
  | [], y :: ys => by simp [PyData.eqvAll]
  | x :: xs, [] => by simp [PyData.eqvAll]
  | x :: xs, y :: ys => by
    simp only [List.map_cons, PyData.eqvAll, PyData.eqv, eqvAll_ints xs ys]
    by_cases h : x = y <;> by_cases k : xs = ys <;> simp [h, k]
theorem shaped_int {i : Int} : SeqAt.shaped (.int i) = true := by simp [SeqAt.shaped, PyData.canLay0, PyData.depth]
theorem lay_ints : ∀ ns : List Int, PyData.canLayAll0 (ns.map .int) = true ∧ PyData.depthAll (ns.map .int) = 0
  | [] => by simp [PyData.canLayAll0, PyData.depthAll]
  | n :: ns => by simp [PyData.canLayAll0, PyData.depthAll, PyData.canLay0, PyData.depth, lay_ints ns]
theorem shaped_intsT {ns : List Int} : SeqAt.shaped (.tuple (ns.map .int)) = true := by simp [SeqAt.shaped, PyData.canLay0, PyData.depth, lay_ints ns]
theorem shaped_intsL {ns : List Int} : SeqAt.shaped (.list (ns.map .int)) = true := by simp [SeqAt.shaped, PyData.canLay0, PyData.depth, lay_ints ns]
theorem shaped_str {z : Str} (h : PyData.strOk z = true) : SeqAt.shaped (.str z) = true := by simp [SeqAt.shaped, PyData.canLay0, PyData.depth, h]
theorem shaped_items {x : D} (h : SeqAt.shaped x = true) (hs : isSeq x = true) : SeqAt.shaped (.tuple (itemsD x)) = true := by
  cases x <;> first | (simp [isSeq] at hs; done) | (simpa [SeqAt.shaped, PyData.canLay0, PyData.depth, itemsD] using h)
theorem nodict_items {x : D} (h : x.hasDict = false) (hs : isSeq x = true) : PyData.hasDict (.tuple (itemsD x)) = false := by
  cases x <;> first | (simp [isSeq] at hs; done) | (simpa [PyData.hasDict, itemsD] using h)
theorem rd_inS {c : Nat} {z : Str} : RD K rInS (.str ⟨#[c]⟩) (.str z) (.bool (decide (c ∈ z.cps.toList))) := fun B H u v e hu hv Q q => by
  cases hu; cases hv
  exact ⟨c, z, rfl, rfl, q _ B H (.refl e) (.bl _)⟩
theorem rd_isB {a b : Bool} : RD K rIsB (.bool a) (.bool b) (.bool (decide (a = b))) := fun B H u v e hu hv Q q => by
  cases hu; cases hv
  exact ⟨a, b, rfl, rfl, q _ B H (.refl e) (.bl _)⟩
theorem fold_chars (cs : List Nat) : ∀ acc : Array Nat, (cs.map fun c => (⟨#[c]⟩ : Str)).foldl (fun acc p => acc ++ #[] ++ p.cps) acc = acc ++ cs.toArray := by
  induction cs with
  | nil => intro acc; simp
  | cons c cs ih =>
    intro acc
    rw [List.map_cons, List.foldl_cons, ih]
    apply Array.ext'
    simp
theorem join_chars (cs : List Nat) : Txt.join "" (cs.map fun c => (⟨#[c]⟩ : Str)) = ⟨cs.toArray⟩ := by
  show Builtin.Str.glued ⟨#[]⟩ _ = _
  unfold Builtin.Str.glued
  cases cs with
  | nil => rfl
  | cons c cs =>
    simp only [List.map_cons, List.headD_cons, List.drop_succ_cons, List.drop_zero]
    rw [fold_chars]
    congr 1
    apply Array.ext'
    simp
theorem rd_pow {i j : Int} (h : CPow i j) : RD K (rI CPow fun i j => V.int (i ^ j.toNat)) (.int i) (.int j) (.int (i ^ j.toNat)) := rd_I h fun _ => .int _
theorem cd_allM {α : Type} {xs : List α} {g : α → Bool} : CD K (rAll K) [.list (xs.map fun a => .bool (g a))] (.bool (xs.all g)) := by
  have h := cd_all (K := K) (bs := xs.map g)
  have e1 : (xs.map g).map PyData.bool = xs.map fun a => .bool (g a) := by rw [List.map_map]; rfl
  have e2 : (xs.map g).all id = xs.all g := by rw [List.all_map]; rfl
  rw [e1, e2] at h
  exact h
end
end Co
namespace Co
open PySem PySem.Spec PyProof.Rows L2
section
variable {K : PySem.W.Frag} {AD : String → Addr}
/-- the fields of an error, as data -/
def Fl (K : PySem.W.Frag) (B : Hp) (ws : List (Str × V)) (fs : List (Str × D)) : Prop := ws.map Prod.fst = fs.map Prod.fst ∧ DpAll K B (ws.map Prod.snd) (fs.map Prod.snd)
abbrev Err := String × List (Str × D)
abbrev Res := Sum D Err
/-- the error x leaves -/
def xTo (K : PySem.W.Frag) (AD : String → Addr) (B H : Hp) (E : XK) (x : Err) : Prop :=
  (x.2 = [] → ∀ B' H', Gw B H B' H' → E (.ref (AD x.1)) none H') ∧ (x.2 ≠ [] → ∀ B' H' dx ws, Gw B H B' H' → B' dx = some (.xd ws) → Fl K B' ws x.2 → E (.ref (AD x.1)) (some dx) H')
def resX (K : PySem.W.Frag) (AD : String → Addr) (B H : Hp) (Q : VK) (E : XK) : Res → Prop
  | .inl d => ∀ v B' H', Gw B H B' H' → Dp K B' v d → Q v H'
  | .inr x => xTo K AD B H E x
/-- a def that gives data or raises -/
def spX (K : PySem.W.Frag) (AD : String → Addr) (R : List D → Res → Prop) : Sp := fun vs H Q E => ∃ (B : Hp) (ds : List D) (r : Res), Same B H ∧ DpAll K B vs ds ∧ R ds r ∧ resX K AD B H Q E r
theorem spX_len {R : List D → Res → Prop} {n : Nat} (hF : ∀ ds r, R ds r → ds.length = n) {vs : List V} {H : Hp} {Q : VK} {E : XK} (h : spX K AD R vs H Q E) : vs.length = n := by
  obtain ⟨B, ds, r, _, a, e, _⟩ := h
  rw [dpall_len a]
  exact hF ds r e
theorem xTo.up {B H B1 H1 : Hp} {E : XK} {x : Err} (h : xTo K AD B H E x) (g : Gw B H B1 H1) : xTo K AD B1 H1 E x :=
  ⟨fun z B' H' g' => h.1 z B' H' (g.trans g'), fun z B' H' dx ws g' => h.2 z B' H' dx ws (g.trans g')⟩
theorem resX.up {B H B1 H1 : Hp} {Q : VK} {E : XK} {r : Res} (h : resX K AD B H Q E r) (g : Gw B H B1 H1) : resX K AD B1 H1 Q E r := by
  cases r with
  | inl d => exact fun v B' H' g' q => h v B' H' (g.trans g') q
  | inr x => exact xTo.up h g
variable {σ : L2.St} {B H : Hp} {ta : TA} {ds : List D}
theorem st_callX {R : List D → Res → Prop} {r : Res} {Ex : L2.St → XK} {Q : VK} (e : Same B H) (h : DA K ta σ B ds) (hr : R ds r) (k : resX K AD B H Q (Ex σ) r) : tCallS (spX K AD R) Ex ta σ H Q :=
  h H e _ fun vs B1 H1 g1 r1 => ⟨B1, ds, r, g1.i, r1, hr, k.up g1⟩
/-- __init__ of an error: its fields, the last first -/
def spIni (C : Addr) (names : List Str) : Sp := fun vs H Q _ => ∃ a ws, vs = .ref a :: ws ∧ ws.length = names.length ∧ H a = some (exo a C none) ∧ ∀ dx, H dx = none → dx ≠ a → Q .non (upd (upd H dx (exd dx (names.zip ws).reverse)) a (exo a C (some dx)))
theorem spIni_len {C : Addr} {names : List Str} {vs : List V} {H : Hp} {Q : VK} {E : XK} (h : spIni C names vs H Q E) : vs.length = names.length + 1 := by
  obtain ⟨a, ws, rfl, hl, _⟩ := h
  rw [List.length_cons, hl]
theorem dpall_revz {names : List Str} {ws : List V} {ds : List D} {B' : Hp} (r : DpAll K B' ws ds) (hl : ds.length = names.length) : Fl K B' (names.zip ws).reverse (names.zip ds).reverse := by
  have lw := dpall_len r
  refine ⟨?_, ?_⟩
  · rw [List.map_reverse, List.map_reverse, List.map_fst_zip (by omega), List.map_fst_zip (by omega)]
  · rw [List.map_reverse, List.map_reverse, List.map_snd_zip (by omega), List.map_snd_zip (by omega)]
    exact dpall_rev r
theorem mk_flds {C : Addr} {names : List Str} {Q : XK} (e : Same B H) (h : DA K ta σ B ds) (hl : ds.length = names.length) (hz : names.length ≤ 1000)
    (k : ∀ B' H' dx ws, Gw B H B' H' → B' dx = some (.xd ws) → Fl K B' ws (names.zip ds).reverse → Q (.ref C) (some dx) H') : tMkO C (spIni C names) [] ta σ H Q :=
  h H e _ fun vs B1 H1 g1 r1 => by
    have lw := dpall_len r1
    refine ⟨by omega, fun a ha => ⟨a, vs, by rw [List.append_nil], by omega, upd_same, fun dx hdx hne => ?_⟩⟩
    have hd1 : H1 dx = none := by rw [upd_ne hne] at hdx; exact hdx
    refine ⟨rfl, dx, (names.zip vs).reverse, upd_same, by rw [upd_ne hne, upd_same], hd1, ?_⟩
    have hH : upd (del (upd (upd (upd H1 a (exo a C none)) dx (exd dx (names.zip vs).reverse)) a (exo a C (some dx))) a) dx (.xd (names.zip vs).reverse) = upd H1 dx (.xd (names.zip vs).reverse) := by
      funext b
      by_cases z : b = dx
      · subst z; rw [upd_same, upd_same]
      · rw [upd_ne z, upd_ne z]
        by_cases y : b = a
        · subst y; rw [ha]; simp [del]
        · have : del (upd (upd (upd H1 a (exo a C none)) dx (exd dx (names.zip vs).reverse)) a (exo a C (some dx))) a b = upd (upd (upd H1 a (exo a C none)) dx (exd dx (names.zip vs).reverse)) a (exo a C (some dx)) b := by simp [del, y]
          rw [this, upd_ne y, upd_ne z, upd_ne y]
    rw [hH]
    have g2 : Gw B1 H1 (upd B1 dx (.xd (names.zip vs).reverse)) (upd H1 dx (.xd (names.zip vs).reverse)) := Gw.new g1.i hd1
    exact k _ _ dx _ (g1.trans g2) upd_same (dpall_revz (dps_up g2.b _ _ r1) hl)
theorem de_xf {i : Nat} {a C dx : Addr} {f : Str} {ws : List (Str × V)} {v : V} {d : D} (hs : σ[i]? = some (some (.ref a))) (hb : B dx = some (.xd ws)) (hl : ws.lookup f = some v) (r : Dp K B v d) : DE K (tXf a (.ref C) (some dx) C f (tVar i)) σ B d :=
  fun H e Q q => ⟨_, hs, rfl, rfl, dx, ws, v, rfl, e _ _ hb, hl, q v B H (.refl e) r⟩
theorem fl1 {B : Hp} {ws : List (Str × V)} {n : Str} {d : D} (h : Fl K B ws [(n, d)]) : ∃ v, ws = [(n, v)] ∧ Dp K B v d := by
  obtain ⟨h1, h2⟩ := h
  match ws, h1, h2 with
  | [(m, v)], h1, h2 =>
    simp at h1
    subst h1
    cases h2 with
    | cons r _ => exact ⟨v, rfl, r⟩
end
end Co
namespace Co
open PySem PySem.Spec PyProof.Rows L2
section
variable {K : PySem.W.Frag} {m : Addr}
theorem pi_seqK {X : Cx} {K : PySem.W.Frag} {tg l : PySem.Expr} {tl : TE} (hK : X.K = K) (hl : PE X l tl) : PI X tg l (iSeq K tl) := hK ▸ pi_seq hl
/-! ### join -/
def rJoin (K : PySem.W.Frag) : V → List V → Hp → VK → Prop := fun x xs H Q => ∃ (a : Str) (p : Addr) (ys : List Str), x = .str a ∧ xs = [.ref p] ∧ (SqL K H p (ys.map V.str) ∨ SqT K H p (ys.map V.str)) ∧ (ys.map (·.length)).sum + ys.length * a.length ≤ 16777216 ∧ Q (.str (Txt.join a ys)) H
theorem pe_joinA {X : Cx} {o e : PySem.Expr} {to te : TE} {apos pos : Pos} (ho : PE X o to) (he : PE X e te) (h1 : starEach [e] X.env = [(false, eval e X.env)] := by rfl) (h2 : attributeBase o "join" X.env (eval o X.env) = eval o X.env := by rfl) (h3 : (apos.endLine == pos.line) = true := by rfl) :
    PE X (.Call (.Attribute o "join" apos) [e] [] pos) (tM1 (rJoin X.K) to te) := pe_join ho he h1 h2 h3
theorem dpall_strs {B : Hp} {vs : List V} : ∀ {zs : List Str}, DpAll K B vs (zs.map .str) → vs = zs.map V.str := by
  induction vs with
  | nil => intro bs h; cases bs with
    | nil => rfl
    | cons => cases h
  | cons v vs ih => intro bs h; cases bs with
    | nil => cases h
    | cons b bs => cases h with | cons h1 h2 => cases h1; rw [ih h2]; rfl
/-! ### what draws: an expression that leaves the bag b' of the bag b, by k draws -/
def ES (K : PySem.W.Frag) (m : Addr) (te : TE) (σ : L2.St) (B : Hp) (b : BS) (k : Nat) (d : D) (b' : BS) : Prop :=
  ∀ B1 H n, Same B B1 → Same B1 H → BagAt K B1 H m b (n + k) → ∀ Q : VK, (∀ v B' H', Gm (· = m) B1 H B' H' → BagAt K B' H' m b' n → Dp K B' v d → Q v H') → te σ H Q
def AS (K : PySem.W.Frag) (m : Addr) (ta : TA) (σ : L2.St) (B : Hp) (b : BS) (k : Nat) (ds : List D) (b' : BS) : Prop :=
  ∀ B1 H n, Same B B1 → Same B1 H → BagAt K B1 H m b (n + k) → ∀ Q : List V → Hp → Prop, (∀ vs B' H', Gm (· = m) B1 H B' H' → BagAt K B' H' m b' n → DpAll K B' vs ds → Q vs H') → ta σ H Q
def XS (K : PySem.W.Frag) (m : Addr) (tt : TT) (σ : L2.St) (B : Hp) (b : BS) (k : Nat) (t : Bool) (b' : BS) : Prop :=
  ∀ B1 H n, Same B B1 → Same B1 H → BagAt K B1 H m b (n + k) → ∀ Q : Bool → Hp → Prop, (∀ B' H', Gm (· = m) B1 H B' H' → BagAt K B' H' m b' n → Q t H') → tt σ H Q
def EL (K : PySem.W.Frag) (m : Addr) (te : TE) (σ : L2.St) (B : Hp) (b : BS) (k : Nat) (ds : List D) (b' : BS) : Prop :=
  ∀ B1 H n, Same B B1 → Same B1 H → BagAt K B1 H m b (n + k) → ∀ Q : VK, (∀ p vs B' H', Gm (· = m) B1 H B' H' → BagAt K B' H' m b' n → B' p = some (.lst vs) → DpAll K B' vs ds → Q (.ref p) H') → te σ H Q
theorem EL.es {te : TE} {σ : L2.St} {B : Hp} {b b' : BS} {k : Nat} {ds : List D} (h : EL K m te σ B b k ds b') : ES K m te σ B b k (.list ds) b' := fun B1 H n s e bg Q q => h B1 H n s e bg Q fun p vs B' H' g bg' hp r => q _ B' H' g bg' (.lst (.inl (.inl hp)) r)
variable {σ : L2.St} {B : Hp} {te ta tb tc : TE} {tt uu : TT} {ts tr : TA} {b b1 b2 b3 : BS} {k k1 k2 : Nat} {d x y : D} {ds es : List D}
theorem Gm.thm {B H B1 H1 B2 H2 : Hp} (g : Gm (· = m) B H B1 H1) (h : Gm (· = m) B1 H1 B2 H2) (x : H1 m ≠ none) : Gm (· = m) B H B2 H2 := Gm.trans g h fun a z _ => by rw [z]; exact x
theorem BagAt.ne {B H : Hp} {n : Nat} (x : BagAt K B H m b n) : H m ≠ none := ne_none x.at'
theorem gw_gm {B H B' H' : Hp} (g : Gw B H B' H') : Gm (· = m) B H B' H' := g.weak fun _ z => z.elim
theorem es_pure (h : DE K te σ B d) : ES K m te σ B b 0 d b := fun B1 H n s1 e bg Q q => h.up s1 H e Q fun v B' H' g r => q v B' H' (gw_gm g) (bg.up g) r
theorem as_pure (h : DA K ts σ B ds) : AS K m ts σ B b 0 ds b := fun B1 H n s1 e bg Q q => h.up s1 H e Q fun v B' H' g r => q v B' H' (gw_gm g) (bg.up g) r
theorem xs_pure {t : Bool} (h : DT tt σ B t) : XS K m tt σ B b 0 t b := fun B1 H n s1 e bg Q q => h.up s1 H e Q fun B' H' g => q B' H' (gw_gm g) (bg.up g)
theorem bag_cast {B H : Hp} {n n' : Nat} (x : BagAt K B H m b n) (h : n = n') : BagAt K B H m b n' := h ▸ x
theorem es_op {r : R2} (ha : ES K m ta σ B b k1 x b1) (hb : ES K m tb σ B b1 k2 y b2) (hr : RD K r x y d) : ES K m (tOp r ta tb) σ B b (k1 + k2) d b2 := fun B1 H n s1 e bg Q q =>
  ha B1 H (n + k2) s1 e (bag_cast bg (by omega)) _ fun u B2 H2 g2 bg2 r2 => hb B2 H2 n (s1.trans g2.b) g2.i bg2 _ fun v B3 H3 g3 bg3 r3 => hr B3 H3 u v g3.i (dp_up g3.b _ _ r2) r3 Q fun w B4 H4 g4 r4 =>
    q w B4 H4 ((g2.thm g3 bg2.ne).thm (gw_gm g4) bg3.ne) (bg3.up g4) r4
theorem as_nil : AS K m tNil σ B b 0 [] b := as_pure da_nil
theorem as_cons (h : ES K m te σ B b k1 d b1) (hr : AS K m tr σ B b1 k2 ds b2) : AS K m (tCons te tr) σ B b (k1 + k2) (d :: ds) b2 := fun B1 H n s1 e bg Q q =>
  h B1 H (n + k2) s1 e (bag_cast bg (by omega)) _ fun u B2 H2 g2 bg2 r2 => hr B2 H2 n (s1.trans g2.b) g2.i bg2 _ fun vs B3 H3 g3 bg3 r3 => q _ B3 H3 (g2.thm g3 bg2.ne) bg3 (.cons (dp_up g3.b _ _ r2) r3)
theorem es_tup (h : AS K m ts σ B b k ds b1) (hl : ds.length ≤ 100000) : ES K m (tTup ts) σ B b k (.tuple ds) b1 := fun B1 H n s1 e bg Q q =>
  h B1 H n s1 e bg _ fun vs B2 H2 g2 bg2 r2 => ⟨Nat.le_trans (by rw [dpall_len r2]; exact hl) (by decide), fun p hp => by
    have g3 : Gw B2 H2 (upd B2 p (.tup vs)) (upd H2 p (.tup vs)) := Gw.new g2.i hp
    exact q _ _ _ (g2.thm (gw_gm g3) bg2.ne) (bg2.up g3) (.tup (.inl (.inl upd_same)) (dps_up g3.b _ _ r2))⟩
theorem el_lst (h : AS K m ts σ B b k ds b1) (hl : ds.length ≤ 100000) : EL K m (tLst ts) σ B b k ds b1 := fun B1 H n s1 e bg Q q =>
  h B1 H n s1 e bg _ fun vs B2 H2 g2 bg2 r2 => ⟨Nat.le_trans (by rw [dpall_len r2]; exact hl) (by decide), fun p hp => by
    have g3 : Gw B2 H2 (upd B2 p (.lst vs)) (upd H2 p (.lst vs)) := Gw.new g2.i hp
    exact q _ _ _ _ (g2.thm (gw_gm g3) bg2.ne) (bg2.up g3) upd_same (dps_up g3.b _ _ r2)⟩
theorem el_pure (h : DL K te σ B ds) : EL K m te σ B b 0 ds b := fun B1 H n s1 e bg Q q => h.up s1 H e Q fun p vs B' H' g hp r => q p vs B' H' (gw_gm g) (bg.up g) hp r
theorem es_cb {r : List V → Hp → VK → Prop} (h : AS K m ts σ B b k ds b1) (hr : CD K r ds d) : ES K m (tCB r ts) σ B b k d b1 := fun B1 H n s1 e bg Q q =>
  h B1 H n s1 e bg _ fun vs B2 H2 g2 bg2 r2 => hr B2 H2 vs g2.i r2 Q fun w B3 H3 g3 r3 => q w B3 H3 (g2.thm (gw_gm g3) bg2.ne) (bg2.up g3) r3
theorem es_call {sp : Sp} {dvs : List V} {E : XK} (h : AS K m ts σ B b k ds b1) (hd : ∀ B, DpAll K B dvs es) (hs : PD K sp (ds ++ es) d) : ES K m (tCall sp dvs E ts) σ B b k d b1 := fun B1 H n s1 e bg Q q =>
  h B1 H n s1 e bg _ fun vs B2 H2 g2 bg2 r2 => hs B2 H2 _ g2.i (dpall_app r2 (hd _)) Q E fun w B3 H3 g3 r3 => q w B3 H3 (g2.thm (gw_gm g3) bg2.ne) (bg2.up g3) r3
/-- the draw -/
theorem es_draw {i : Nat} {E : XK} {lim : Int} (hs : σ[i]? = some (some (.ref m))) (h : ES K m te σ B b k (.int lim) b1) (hl : 1 ≤ lim ∧ lim ≤ 10 ^ 30) : ES K m (tCall (spDraw K) [] E (tCons (tVar i) (tCons te tNil))) σ B b (k + 1) (.int (dv b1 lim)) (db b1 lim) := fun B1 H n s1 e bg Q q =>
  ⟨_, hs, h B1 H (n + 1) s1 e (bag_cast bg (by omega)) _ fun u B2 H2 g2 bg2 r2 => by
    cases r2
    exact ⟨B2, m, b1, n, lim, rfl, g2.i, bg2, hl.1, hl.2, fun H3 g3 bg3 => q _ B2 H3 (g2.thm g3 bg2.ne) bg3 (.int _)⟩⟩
theorem es_if {t : Bool} (h : XS K m tt σ B b k1 t b1) (h1 : t = true → ES K m ta σ B b1 k2 d b2) (h2 : t = false → ES K m tb σ B b1 k2 d b2) : ES K m (tIf tt ta tb) σ B b (k1 + k2) d b2 := fun B1 H n s1 e bg Q q =>
  h B1 H (n + k2) s1 e (bag_cast bg (by omega)) _ fun B2 H2 g2 bg2 => by
    cases t with
    | true => exact iteT (h1 rfl B2 H2 n (s1.trans g2.b) g2.i bg2 _ fun w B3 H3 g3 bg3 r3 => q w B3 H3 (g2.thm g3 bg2.ne) bg3 r3)
    | false => exact iteF (h2 rfl B2 H2 n (s1.trans g2.b) g2.i bg2 _ fun w B3 H3 g3 bg3 r3 => q w B3 H3 (g2.thm g3 bg2.ne) bg3 r3)
theorem xs_test {t : Bool} (h : ES K m te σ B b k (.bool t) b1) : XS K m (tTest te) σ B b k t b1 := fun B1 H n s1 e bg Q q => h B1 H n s1 e bg _ fun u B2 H2 g2 bg2 r2 => by
  cases r2; exact ⟨t, rfl, q B2 H2 g2 bg2⟩
theorem xs_B {t : Bool} (h : ES K m te σ B b k (.bool t) b1) : XS K m (tB te) σ B b k t b1 := fun B1 H n s1 e bg Q q => h B1 H n s1 e bg _ fun u B2 H2 g2 bg2 r2 => by
  cases r2; exact ⟨t, rfl, q B2 H2 g2 bg2⟩
theorem xs_not {t : Bool} (h : XS K m tt σ B b k t b1) : XS K m (tNot tt) σ B b k (!t) b1 := fun B1 H n s1 e bg Q q => h B1 H n s1 e bg _ fun B2 H2 g2 bg2 => q B2 H2 g2 bg2
theorem es_le {te : TE} {k' : Nat} (h : ES K m te σ B b k d b1) (hk : k ≤ k') : ES K m te σ B b k' d b1 := fun B1 H n s1 e bg Q q => h B1 H n s1 e (bg.less (by omega)) Q q
theorem el_if {t : Bool} {ds1 ds2 : List D} (h : XS K m tt σ B b k1 t b1) (h1 : t = true → EL K m ta σ B b1 k2 ds1 b2) (h2 : t = false → EL K m tb σ B b1 k2 ds2 b2) : EL K m (tIf tt ta tb) σ B b (k1 + k2) (if t = true then ds1 else ds2) b2 := fun B1 H n s1 e bg Q q =>
  h B1 H (n + k2) s1 e (bag_cast bg (by omega)) _ fun B2 H2 g2 bg2 => by
    cases t with
    | true => exact iteT (h1 rfl B2 H2 n (s1.trans g2.b) g2.i bg2 _ fun p vs B3 H3 g3 bg3 hp r3 => q p vs B3 H3 (g2.thm g3 bg2.ne) bg3 hp r3)
    | false => exact iteF (h2 rfl B2 H2 n (s1.trans g2.b) g2.i bg2 _ fun p vs B3 H3 g3 bg3 hp r3 => q p vs B3 H3 (g2.thm g3 bg2.ne) bg3 hp r3)
theorem es_join {a : Str} {ys : List Str} (ha : ES K m ta σ B b k1 (.str a) b1) (hb : ES K m tb σ B b1 k2 (.list (ys.map .str)) b2) (hz : (ys.map (·.length)).sum + ys.length * a.length ≤ 16777216) : ES K m (tM1 (rJoin K) ta tb) σ B b (k1 + k2) (.str (Txt.join a ys)) b2 := fun B1 H n s1 e bg Q q =>
  ha B1 H (n + k2) s1 e (bag_cast bg (by omega)) _ fun u B2 H2 g2 bg2 r2 => by
    cases r2
    refine ⟨⟨a, rfl⟩, hb B2 H2 n (s1.trans g2.b) g2.i bg2 _ fun v B3 H3 g3 bg3 r3 => ?_⟩
    cases r3 with
    | lst hs ha =>
      have := dpall_strs ha
      subst this
      exact ⟨a, _, ys, rfl, rfl, .inl (g3.i.seq hs), hz, q _ B3 H3 (g2.thm g3 bg2.ne) bg3 (.str _)⟩
theorem es_sl {r : V → Option Int → Option Int → Hp → VK → Prop} {tl th : TO} {l u : Option Int} (ha : ES K m ta σ B b k x b1) (hl : DO tl σ B l) (hu : DO th σ B u) (hr : SD K r x l u d) : ES K m (tSl r ta tl th) σ B b k d b1 := fun B1 H n s1 e bg Q q =>
  ha B1 H n s1 e bg _ fun v B2 H2 g2 bg2 r2 => hl.up (s1.trans g2.b) H2 g2.i _ fun B3 H3 g3 => hu.up ((s1.trans g2.b).trans g3.b) H3 g3.i _ fun B4 H4 g4 => hr B4 H4 v g4.i (dp_up (g3.b.trans g4.b) _ _ r2) Q fun w B5 H5 g5 r5 =>
    q w B5 H5 (g2.thm (gw_gm ((g3.trans g4).trans g5)) bg2.ne) (bg2.up ((g3.trans g4).trans g5)) r5
/-! ### statements -/
theorem b_retL {H : Hp} {N : Nat} {nx : L2.St → Hp → Prop} {rt : VK} {bk ct : L2.St → Hp → Prop} (e : Same B H) (bg : BagAt K B H m b N) (h : EL K m te σ B b k ds b1) (hk : k ≤ N)
    (c : ∀ p vs B' H', Gm (· = m) B H B' H' → BagAt K B' H' m b1 (N - k) → B' p = some (.lst vs) → DpAll K B' vs ds → rt (.ref p) H') : tRet te ⟨nx, rt, bk, ct⟩ σ H :=
  h B H (N - k) (Same.refl _) e (bag_cast bg (by omega)) _ fun p vs B' H' g bg' hp r => c p vs B' H' g bg' hp r
theorem b_asgL {H : Hp} {N : Nat} {nx : L2.St → Hp → Prop} {rt : VK} {bk ct : L2.St → Hp → Prop} {i : Nat} (e : Same B H) (bg : BagAt K B H m b N) (h : EL K m te σ B b k ds b1) (hk : k ≤ N)
    (c : ∀ p vs B' H', Gm (· = m) B H B' H' → BagAt K B' H' m b1 (N - k) → B' p = some (.lst vs) → DpAll K B' vs ds → nx (σ.set i (some (.ref p))) H') : tAsg te (gName i) ⟨nx, rt, bk, ct⟩ σ H :=
  h B H (N - k) (Same.refl _) e (bag_cast bg (by omega)) _ fun p vs B' H' g bg' hp r => c p vs B' H' g bg' hp r
theorem b_asg {H : Hp} {N : Nat} {nx : L2.St → Hp → Prop} {rt : VK} {bk ct : L2.St → Hp → Prop} {i : Nat} (e : Same B H) (bg : BagAt K B H m b N) (h : ES K m te σ B b k d b1) (hk : k ≤ N)
    (c : ∀ v B' H', Gm (· = m) B H B' H' → BagAt K B' H' m b1 (N - k) → Dp K B' v d → nx (σ.set i (some v)) H') : tAsg te (gName i) ⟨nx, rt, bk, ct⟩ σ H :=
  h B H (N - k) (Same.refl _) e (bag_cast bg (by omega)) _ fun v B' H' g bg' r => c v B' H' g bg' r
theorem b_ret {H : Hp} {N : Nat} {nx : L2.St → Hp → Prop} {rt : VK} {bk ct : L2.St → Hp → Prop} (e : Same B H) (bg : BagAt K B H m b N) (h : ES K m te σ B b k d b1) (hk : k ≤ N)
    (c : ∀ v B' H', Gm (· = m) B H B' H' → BagAt K B' H' m b1 (N - k) → Dp K B' v d → rt v H') : tRet te ⟨nx, rt, bk, ct⟩ σ H :=
  h B H (N - k) (Same.refl _) e (bag_cast bg (by omega)) _ fun v B' H' g bg' r => c v B' H' g bg' r
theorem b_if {H : Hp} {N : Nat} {Dn : Ends} {t u : TS} {z : Bool} (e : Same B H) (bg : BagAt K B H m b N) (h : XS K m tt σ B b k z b1) (hk : k ≤ N)
    (c1 : z = true → ∀ B' H', Gm (· = m) B H B' H' → BagAt K B' H' m b1 (N - k) → t Dn σ H') (c2 : z = false → ∀ B' H', Gm (· = m) B H B' H' → BagAt K B' H' m b1 (N - k) → u Dn σ H') : tIfS tt t u Dn σ H :=
  h B H (N - k) (Same.refl _) e (bag_cast bg (by omega)) _ fun B' H' g bg' => by
    cases z with
    | true => exact iteT (c1 rfl B' H' g bg')
    | false => exact iteF (c2 rfl B' H' g bg')
/-! ### comprehensions that draw -/
def mapV (f : BS → D → D) (g : BS → D → BS) : BS → List D → List D
  | _, [] => []
  | b, d :: ds => f b d :: mapV f g (g b d) ds
def mapB (g : BS → D → BS) : BS → List D → BS
  | b, [] => b
  | b, d :: ds => mapB g (g b d) ds
theorem mapB_snoc {g : BS → D → BS} : ∀ (ds : List D) (b : BS) (d : D), mapB g b (ds ++ [d]) = g (mapB g b ds) d
  | [], b, d => rfl
  | x :: ds, b, d => by simp [mapB, mapB_snoc ds]
theorem mapV_snoc {f : BS → D → D} {g : BS → D → BS} : ∀ (ds : List D) (b : BS) (d : D), mapV f g b (ds ++ [d]) = mapV f g b ds ++ [f (mapB g b ds) d]
  | [], b, d => rfl
  | x :: ds, b, d => by simp [mapV, mapB, mapV_snoc ds]
theorem mapV_len {f : BS → D → D} {g : BS → D → BS} : ∀ (ds : List D) (b : BS), (mapV f g b ds).length = ds.length
  | [], b => rfl
  | x :: ds, b => by simp [mapV, mapV_len ds]
structure LcB (K : PySem.W.Frag) (B1 H1 : Hp) (m : Addr) (b : BS) (n : Nat) (Da : Addr) (out : List D) (H' : Hp) : Prop where
  ex : ∃ B' vs, Gm (fun a => a = Da ∨ a = m) B1 H1 B' H' ∧ B' Da = none ∧ H' Da = some (.lst vs) ∧ DpAll K B' vs out ∧ BagAt K B' H' m b n
theorem lcb0 {H : Hp} {Da : Addr} {n : Nat} (e : Same B H) (bg : BagAt K B H m b n) (h : H Da = none) : LcB K B H m b n Da [] (upd H Da (.lst [])) := by
  have g : Gw B H B (upd H Da (.lst [])) := Gw.own e h
  exact ⟨B, [], g.weak (fun _ z => z.elim), base_none e h, upd_same, .nil, bg.up g⟩
theorem lcb_turn {B1 H : Hp} {Da : Addr} {out : List D} {H' : Hp} {te : TE} {σ2 : L2.St} {dd : D} {n ke : Nat} {Nx : Hp → Prop} (w : LcB K B1 H m b (n + ke) Da out H') (hD : H Da = none) (hm : H m ≠ none) (hz : out.length < 100000) (he : ES K m te σ2 B1 b ke dd b1) (kk : ∀ H5, LcB K B1 H m b1 n Da (out ++ [dd]) H5 → Nx H5) :
    te σ2 H' fun y H4 => ∃ acc, H4 Da = some (.lst acc) ∧ acc.length < sizeLine ∧ Nx (upd H4 Da (.lst (acc ++ [y]))) := by
  obtain ⟨B', vs, g, nb, hl, ha, bg⟩ := w.ex
  have hne : Da ≠ m := fun z => hm (z ▸ hD)
  refine he B' H' n g.b g.i bg _ fun y B2 H2 g2 bg2 r2 => ?_
  have n2 : B2 Da = none := g2.f Da nb (by rw [hl]; intro z; cases z)
  have h2 : H2 Da = some (.lst vs) := g2.r Da _ hne hl
  refine ⟨vs, h2, Nat.lt_of_lt_of_le (by rw [dpall_len ha]; exact hz) (by decide), kk _ ⟨B2, vs ++ [y], ?_, n2, upd_same, dpall_app (dps_up g2.b _ _ ha) (.cons r2 .nil), ?_⟩⟩
  · have st : ∀ a, (a = Da ∨ a = m) → H2 a ≠ none := fun a z => by
      rcases z with z | z
      · rw [z, h2]; intro q; cases q
      · rw [z]; exact bg2.ne
    refine Gm.trans (B1 := B2) (H1 := H2) (Gm.trans g (g2.weak fun _ z => .inr z) fun a z _ => ?_) ((Gm.mut g2.i n2).weak fun _ z => .inl z) fun a z _ => st a z
    rcases z with z | z
    · rw [z, hl]; intro q; cases q
    · rw [z]; exact bg.ne
  · exact ⟨bg2.nb, by rw [upd_ne (Ne.symm hne)]; exact bg2.at', bg2.ls, bg2.bits, bg2.i0, bg2.g0, bg2.c0, bg2.cn, bg2.s0, bg2.s1⟩
theorem lcb_done {B1 H : Hp} {Da : Addr} {out : List D} {H' : Hp} {n : Nat} (w : LcB K B1 H m b n Da out H') (hD : H Da = none) (hm : H m ≠ none) : ∃ B' vs, Gm (· = m) B1 H B' H' ∧ B' Da = some (.lst vs) ∧ DpAll K B' vs out ∧ BagAt K B' H' m b n := by
  obtain ⟨B', vs, g, nb, hl, ha, bg⟩ := w.ex
  have hne : Da ≠ m := fun z => hm (z ▸ hD)
  have kk : Same B' (upd B' Da (.lst vs)) := fun a o q => by rw [upd_ne (ne_of_none q nb)]; exact q
  refine ⟨upd B' Da (.lst vs), vs, ⟨g.b.trans kk, fun a o q => ?_, fun a o z q => ?_, fun a q nn => ?_⟩, upd_same, dps_up kk _ _ ha, ?_⟩
  · by_cases z : a = Da
    · subst z; rw [upd_same] at q; cases q; exact hl
    · rw [upd_ne z] at q; exact g.i a o q
  · refine g.r a o (fun zz => ?_) q
    rcases zz with zz | zz
    · subst zz; rw [hD] at q; cases q
    · exact z zz
  · have z : a ≠ Da := fun z => nn (z ▸ hD)
    rw [upd_ne z]
    exact g.f a q nn
  · exact ⟨by rw [upd_ne (Ne.symm hne)]; exact bg.nb, bg.at', kk.seq bg.ls, bg.bits, bg.i0, bg.g0, bg.c0, bg.cn, bg.s0, bg.s1⟩
theorem el_lc {tl : TE} {j : Nat} {ds : List D} {f : BS → D → D} {gB : BS → D → BS} {vs : List Nat} {ke : Nat} (h : ES K m tl σ B b k x b1) (sd : SeqD x ds) (hz : ds.length ≤ 90000) (hw : ∀ x, wipe ((wipe σ vs).set j (some x)) vs = wipe σ vs)
    (he : ∀ dd v B1 bb, dd ∈ ds → Same B B1 → Dp K B1 v dd → ES K m te ((wipe σ vs).set j (some v)) B1 bb ke (f bb dd) (gB bb dd)) : EL K m (tLc (iSeq K tl) (gName j) tYes te vs) σ B b (k + ds.length * ke) (mapV f gB b1 ds) (mapB gB b1 ds) := fun B0 H n s0 e bg Q q =>
  h B0 H (n + ds.length * ke) s0 e (bag_cast bg (by omega)) _ fun v B1 H1 g1 bg1 r1 => by
  have go : ∀ {us : List V} {Da : Addr}, H1 Da = none → DpAll K B1 us ds → ∀ i x H', us[i]? = some x → LcB K B1 H1 m (mapB gB b1 (ds.take i)) (n + (ds.length - i) * ke) Da (mapV f gB b1 (ds.take i)) H' →
      tYes ((wipe σ vs).set j (some x)) H' fun bo H3 => if bo = true then te ((wipe σ vs).set j (some x)) H3 fun y H4 => ∃ acc, H4 Da = some (.lst acc) ∧ acc.length < sizeLine ∧ LcB K B1 H1 m (mapB gB b1 (ds.take (i + 1))) (n + (ds.length - (i + 1)) * ke) Da (mapV f gB b1 (ds.take (i + 1))) (upd H4 Da (.lst (acc ++ [y])))
        else LcB K B1 H1 m (mapB gB b1 (ds.take (i + 1))) (n + (ds.length - (i + 1)) * ke) Da (mapV f gB b1 (ds.take (i + 1))) H3 := fun {us Da} hD ha i x H' hx w => by
    refine yes_at ?_
    have hi := (List.getElem?_eq_some_iff.mp hx).1
    rw [dpall_len ha] at hi
    have hd := List.getElem?_eq_getElem hi
    obtain ⟨w', e1, e2⟩ := dpall_get ha hd
    rw [hx] at e1
    cases e1
    have hn : n + (ds.length - i) * ke = n + (ds.length - (i + 1)) * ke + ke := by
      have : ds.length - i = (ds.length - (i + 1)) + 1 := by omega
      rw [this, Nat.add_mul, Nat.one_mul]
      omega
    rw [hn] at w
    refine lcb_turn w hD bg1.ne (by rw [mapV_len, List.length_take]; omega) (he _ _ B1 _ (List.getElem_mem hi) (s0.trans g1.b) e2) fun H5 w5 => ?_
    rw [take_succ' hd, mapV_snoc, mapB_snoc]
    exact w5
  have st0 : LcB K B1 H1 m (mapB gB b1 (ds.take 0)) (n + (ds.length - 0) * ke) 0 [] H1 → True := fun _ => trivial
  have fin : ∀ {us : List V} {Da : Addr} {H' : Hp}, us.length = ds.length → H1 Da = none → LcB K B1 H1 m (mapB gB b1 (ds.take us.length)) (n + (ds.length - us.length) * ke) Da (mapV f gB b1 (ds.take us.length)) H' → Q (.ref Da) H' := fun {us Da H'} hl hD w => by
    rw [hl, List.take_length, Nat.sub_self, Nat.zero_mul] at w
    obtain ⟨B', us', g, hp, r, bg'⟩ := lcb_done w hD bg1.ne
    exact q _ _ B' H' (g1.thm g bg1.ne) bg' hp r
  cases sd with
  | l ds =>
    cases r1 with
    | lst hs ha =>
      rename_i aL xsL
      refine ⟨_, _, rfl, .inl ⟨g1.i.seq hs, fun Da hD => lc_list (xs := xsL) (fun i H' => LcB K B1 H1 m (mapB gB b1 (ds.take i)) (n + (ds.length - i) * ke) Da (mapV f gB b1 (ds.take i)) H') (lcb0 g1.i bg1 hD) (fun i H' _ w => ?_) (fun i x H' hx w => ⟨hw x, go hD ha i x H' hx w⟩) (fun H' w => fin (dpall_len ha) hD w)⟩⟩
      obtain ⟨B', vs', g, _⟩ := w.ex
      exact (g.b.trans g.i).seq hs
  | t ds =>
    cases r1 with
    | tup hs ha =>
      rename_i aL xsL
      refine ⟨_, _, rfl, .inr ⟨seqT_up g1.i hs, fun Da hD => lc_tup (xs := xsL) (fun i H' => LcB K B1 H1 m (mapB gB b1 (ds.take i)) (n + (ds.length - i) * ke) Da (mapV f gB b1 (ds.take i)) H') (lcb0 g1.i bg1 hD) (fun i H' _ w => ?_) (fun i x H' hx w => ⟨hw x, go hD ha i x H' hx w⟩) (fun H' w => fin (dpall_len ha) hD w)⟩⟩
      obtain ⟨B', vs', g, _⟩ := w.ex
      exact seqT_up (g.b.trans g.i) hs
def itV (f : BS → Nat → D) (g : BS → Nat → BS) : BS → Nat → List D
  | _, 0 => []
  | b, n + 1 => itV f g b n ++ [f (Nat.rec b (fun i x => g x i) n) n]
def itB (g : BS → Nat → BS) (b : BS) (n : Nat) : BS := Nat.rec b (fun i x => g x i) n
theorem itV_len {f : BS → Nat → D} {g : BS → Nat → BS} (b : BS) : ∀ n, (itV f g b n).length = n
  | 0 => rfl
  | n + 1 => by simp [itV, itV_len b n]
theorem el_lcR {tn : TE} {j : Nat} {N : Int} {f : BS → Nat → D} {gB : BS → Nat → BS} {vs : List Nat} {ke : Nat} (h : ES K m tn σ B b k (.int N) b1) (hz : -1000 ≤ N ∧ N ≤ 90000) (hw : ∀ x, wipe ((wipe σ vs).set j (some x)) vs = wipe σ vs)
    (he : ∀ (i : Nat) B1 bb, i < N.toNat → Same B B1 → ES K m te ((wipe σ vs).set j (some (.int (i : Int)))) B1 bb ke (f bb i) (gB bb i)) : EL K m (tLc (iRng1 (tCons tn tNil)) (gName j) tYes te vs) σ B b (k + N.toNat * ke) (itV f gB b1 N.toNat) (itB gB b1 N.toNat) := fun B0 H n s0 e bg Q q =>
  h B0 H (n + N.toNat * ke) s0 e (bag_cast bg (by omega)) _ fun v B1 H1 g1 bg1 r1 => by
  cases r1
  refine ⟨N, rfl, by omega, by omega, fun Da hD => lc_range (lo := 0) (n := N.toNat) (fun i H' => LcB K B1 H1 m (itB gB b1 i) (n + (N.toNat - i) * ke) Da (itV f gB b1 i) H') (lcb0 g1.i bg1 hD) (fun i H' hi w => ?_) (fun H' w => ?_)⟩
  · have z : (0 : Int) + (i : Int) = (i : Int) := Int.zero_add _
    rw [z]
    refine ⟨hw _, yes_at ?_⟩
    have hn : n + (N.toNat - i) * ke = n + (N.toNat - (i + 1)) * ke + ke := by
      have : N.toNat - i = (N.toNat - (i + 1)) + 1 := by omega
      rw [this, Nat.add_mul, Nat.one_mul]
      omega
    rw [hn] at w
    exact lcb_turn w hD bg1.ne (by rw [itV_len]; omega) (he i B1 _ hi (s0.trans g1.b)) fun H5 w5 => w5
  · rw [Nat.sub_self, Nat.zero_mul] at w
    obtain ⟨B', us', g, hp, r, bg'⟩ := lcb_done w hD bg1.ne
    exact q _ _ B' H' (g1.thm g bg1.ne) bg' hp r
/-! ### x[i] = e, x a list that was just made -/
theorem adopt {B H B2 H3 : Hp} {p : Addr} {us us' : List V} {n : Nat} (e : Same B H) (hp : H p = none) (hm : H m ≠ none) (g : Gm (· = m) B (upd H p (.lst us)) B2 H3) (hb : B2 p = none) (bg : BagAt K B2 H3 m b n) :
    Gm (· = m) B H (upd B2 p (.lst us')) (upd H3 p (.lst us')) ∧ BagAt K (upd B2 p (.lst us')) (upd H3 p (.lst us')) m b n ∧ Same B2 (upd B2 p (.lst us')) := by
  have hne : p ≠ m := fun z => hm (z ▸ hp)
  have k : Same B2 (upd B2 p (.lst us')) := fun a o q => by rw [upd_ne (ne_of_none q hb)]; exact q
  refine ⟨⟨g.b.trans k, fun a o q => ?_, fun a o z q => ?_, fun a q nn => ?_⟩, ⟨by rw [upd_ne (Ne.symm hne)]; exact bg.nb, by rw [upd_ne (Ne.symm hne)]; exact bg.at', k.seq bg.ls, bg.bits, bg.i0, bg.g0, bg.c0, bg.cn, bg.s0, bg.s1⟩, k⟩
  · by_cases z : a = p
    · subst z; rw [upd_same] at q ⊢; exact q
    · rw [upd_ne z] at q ⊢; exact g.i a o q
  · have z2 : a ≠ p := fun z => by rw [z, hp] at q; cases q
    rw [upd_ne z2]
    exact g.r a o z (by rw [upd_ne z2]; exact q)
  · have z : a ≠ p := fun z => nn (z ▸ hp)
    rw [upd_ne z]
    exact g.f a q (by rw [upd_ne z]; exact nn)
theorem dpall_set {vs : List V} : ∀ {ds : List D} {v : V} {d : D} (q : Nat) {B : Hp}, DpAll K B vs ds → Dp K B v d → DpAll K B (vs.set q v) (ds.set q d) := by
  induction vs with
  | nil => intro ds v d q B h r; cases h; exact .nil
  | cons x vs ih =>
    intro ds v d q B h r
    cases h with
    | cons h1 h2 => cases q with
      | zero => exact .cons r h2
      | succ q => exact .cons h1 (ih q h2 r)
/-- x[draw(bag, len(x))] = e -/
theorem b_setD {H : Hp} {N : Nat} {nx : L2.St → Hp → Prop} {rt : VK} {bk ct : L2.St → Hp → Prop} {i jb : Nat} {p : Addr} {us : List V} {E : XK} (e : Same B H) (hp : H p = none) (bg : BagAt K B H m b N) (hu : DpAll K B us ds) (hl : 1 ≤ us.length ∧ us.length ≤ 100000)
    (hs : σ[i]? = some (some (.ref p))) (hsb : σ[jb]? = some (some (.ref m))) (hv : ES K m ta σ B b k1 d b1) (hk : k1 + 1 ≤ N)
    (c : ∀ vs' B' H', Gm (· = m) B H B' H' → BagAt K B' H' m (db b1 us.length) (N - (k1 + 1)) → B' p = some (.lst vs') → DpAll K B' vs' (ds.set (dv b1 us.length).toNat d) → nx σ H') :
    tAsg ta (gSub (tVar i) (tCall (spDraw K) [] E (tCons (tVar jb) (tCons (tCB (rLenA K) (tCons (tVar i) tNil)) tNil))) rSetL) ⟨nx, rt, bk, ct⟩ σ (upd H p (.lst us)) := by
  have g0 : Gw B H B (upd H p (.lst us)) := Gw.own e hp
  have hne : p ≠ m := fun z => bg.ne (z ▸ hp)
  refine hv B _ (N - (k1 + 1) + 1) (Same.refl _) g0.i (bag_cast (bg.up g0) (by omega)) _ fun v B2 H2 g2 bg2 r2 => ?_
  have h2 : H2 p = some (.lst us) := g2.r p _ hne upd_same
  have hb2 : B2 p = none := g2.f p (base_none e hp) (by rw [upd_same]; intro z; cases z)
  have hr := draw_range (b := b1) (lim := (us.length : Int)) (by omega)
  refine ⟨_, hs, _, hsb, _, hs, ⟨_, _, rfl, .inl ⟨_, SqL.of h2, rfl⟩, B2, m, b1, N - (k1 + 1), us.length, rfl, g2.i, bg2, by omega, ?_, fun H3 g3 bg3 => ?_⟩⟩
  · have : (100000 : Int) ≤ 10 ^ 30 := by decide
    omega
  · have h3 : H3 p = some (.lst us) := g3.r p _ hne h2
    refine ⟨p, us, _, (dv b1 us.length).toNat, rfl, rfl, h3, ?_, ?_⟩
    · simp only [ixN, hr.1, hr.2, if_true]
    · obtain ⟨a1, a2, a3⟩ := adopt (us' := us.set (dv b1 us.length).toNat v) e hp bg.ne (g2.thm g3 bg2.ne) hb2 bg3
      exact c _ _ _ a1 a2 upd_same (dps_up a3 _ _ (dpall_set _ (dps_up g2.b _ _ hu) r2))
/-- x[j] = e, j at a slot -/
theorem b_setV {H : Hp} {N : Nat} {nx : L2.St → Hp → Prop} {rt : VK} {bk ct : L2.St → Hp → Prop} {i jb : Nat} {p : Addr} {us : List V} {j : Int} (e : Same B H) (hp : H p = none) (bg : BagAt K B H m b N) (hu : DpAll K B us ds) (hl : 0 ≤ j ∧ j < us.length)
    (hs : σ[i]? = some (some (.ref p))) (hsb : σ[jb]? = some (some (.int j))) (hv : ES K m ta σ B b k1 d b1) (hk : k1 ≤ N)
    (c : ∀ vs' B' H', Gm (· = m) B H B' H' → BagAt K B' H' m b1 (N - k1) → B' p = some (.lst vs') → DpAll K B' vs' (ds.set j.toNat d) → nx σ H') :
    tAsg ta (gSub (tVar i) (tVar jb) rSetL) ⟨nx, rt, bk, ct⟩ σ (upd H p (.lst us)) := by
  have g0 : Gw B H B (upd H p (.lst us)) := Gw.own e hp
  have hne : p ≠ m := fun z => bg.ne (z ▸ hp)
  refine hv B _ (N - k1) (Same.refl _) g0.i (bag_cast (bg.up g0) (by omega)) _ fun v B2 H2 g2 bg2 r2 => ?_
  have h2 : H2 p = some (.lst us) := g2.r p _ hne upd_same
  have hb2 : B2 p = none := g2.f p (base_none e hp) (by rw [upd_same]; intro z; cases z)
  refine ⟨_, hs, _, hsb, p, us, _, j.toNat, rfl, rfl, h2, ?_, ?_⟩
  · simp only [ixN, hl.1, hl.2, if_true]
  · obtain ⟨a1, a2, a3⟩ := adopt (us' := us.set j.toNat v) e hp bg.ne g2 hb2 bg2
    exact c _ _ _ a1 a2 upd_same (dps_up a3 _ _ (dpall_set _ (dps_up g2.b _ _ hu) r2))
/-! ### more expressions -/
theorem el_ifT (h : XS K m tt σ B b k1 true b1) (h1 : EL K m ta σ B b1 k2 ds b2) : EL K m (tIf tt ta tb) σ B b (k1 + k2) ds b2 := fun B1 H n s1 e bg Q q =>
  h B1 H (n + k2) s1 e (bag_cast bg (by omega)) _ fun B2 H2 g2 bg2 => iteT (h1 B2 H2 n (s1.trans g2.b) g2.i bg2 _ fun p vs B3 H3 g3 bg3 hp r3 => q p vs B3 H3 (g2.thm g3 bg2.ne) bg3 hp r3)
theorem el_ifF (h : XS K m tt σ B b k1 false b1) (h1 : EL K m tb σ B b1 k2 ds b2) : EL K m (tIf tt ta tb) σ B b (k1 + k2) ds b2 := fun B1 H n s1 e bg Q q =>
  h B1 H (n + k2) s1 e (bag_cast bg (by omega)) _ fun B2 H2 g2 bg2 => iteF (h1 B2 H2 n (s1.trans g2.b) g2.i bg2 _ fun p vs B3 H3 g3 bg3 hp r3 => q p vs B3 H3 (g2.thm g3 bg2.ne) bg3 hp r3)
theorem de_neg {i : Int} (h : DE K te σ B (.int i)) : DE K (tUn (rU fun i => V.int (-i)) te) σ B (.int (-i)) := fun H e Q q => h H e _ fun v B' H' g r => by
  cases r
  exact ⟨i, rfl, q _ B' H' g (.int _)⟩
theorem dl_listRg {n : Int} (h : DE K te σ B (.int n)) (hz : -1000 ≤ n ∧ n ≤ 90000) : DL K (tLstRg (tRg1 te)) σ B ((List.range n.toNat).map fun (i : Nat) => .int (i : Int)) := fun H e Q q => h H e _ fun v B1 H1 g1 r1 => by
  cases r1
  refine ⟨n, rfl, ⟨by omega, by omega, by omega, by omega, by omega⟩, fun p hp => ?_⟩
  have hv : rgV 0 n = ((List.range n.toNat).map fun (i : Nat) => (i : Int)).map V.int := by simp [rgV]
  have hd : ((List.range n.toNat).map fun (i : Nat) => PyData.int (i : Int)) = ((List.range n.toNat).map fun (i : Nat) => (i : Int)).map PyData.int := by simp
  have g2 : Gw B1 H1 (upd B1 p (.lst (rgV 0 n))) (upd H1 p (.lst (rgV 0 n))) := Gw.new g1.i hp
  refine q p _ _ _ (g1.trans g2) upd_same ?_
  rw [hv, hd]
  exact dpall_intsI
end
end Co
namespace Fx
open PySem PySem.Spec PyProof.Rows L2 Co
/-! ### values of the mirror: what never changes is a tree; what may change is a cell, by its number -/
inductive PV where
  | non
  | bl (b : Bool)
  | int (i : Int)
  | str (s : Str)
  | tup (xs : List PV)
  | lst (xs : List PV)
  | kls (xs : List PV)
  | obj (c : String) (ns : List Str) (xs : List PV)
  | mu (n : Nat)
  | xv (n : Nat)
deriving Inhabited
inductive Cell where
  | lst (xs : List PV)
  | obj (c : String) (ns : List Str) (xs : List PV)
  | dead
deriving Inhabited
abbrev Sta := List Cell
abbrev Env := List (Option PV)
inductive Out (α : Type) where
  | ok (a : α) (S : Sta)
  | ex (c : String) (xs : List PV) (S : Sta)
  | stuck
inductive Flow where
  | nx (ε : Env) (S : Sta)
  | rt (p : PV) (S : Sta)
  | bk (ε : Env) (S : Sta)
  | ct (ε : Env) (S : Sta)
  | ex (c : String) (xs : List PV) (ε : Env) (S : Sta)
  | stuck
/-- the written part, the addresses of the classes, the fields of each class in the order in which they are set -/
structure Md where
  K : PySem.W.Frag
  AD : String → Addr
  fl : String → List Str
/-- what a number of the state stands for: a thing that may change, or an error that was caught -/
inductive Slot where
  | own (a : Addr)
  | exc (a : Addr)
structure Wd where
  B : Hp
  ρ : List Slot
mutual
inductive Rp (M : Md) (W : Wd) : V → PV → Prop
  | non : Rp M W .non .non
  | bl (b : Bool) : Rp M W (.bl b) (.bl b)
  | int (i : Int) : Rp M W (.int i) (.int i)
  | str (s : Str) : Rp M W (.str s) (.str s)
  | tup {a : Addr} {vs : List V} {xs : List PV} : SqT M.K W.B a vs → RpA M W vs xs → Rp M W (.ref a) (.tup xs)
  | lst {a : Addr} {vs : List V} {xs : List PV} : W.B a = some (.lst vs) → RpA M W vs xs → Rp M W (.ref a) (.lst xs)
  | kls {a : Addr} {vs : List V} {xs : List PV} : SqL M.K W.B a vs → RpA M W vs xs → Rp M W (.ref a) (.kls xs)
  | obj {a dx : Addr} {c : String} {ns : List Str} {vs : List V} {xs : List PV} : W.B a = some (.ins (M.AD c) dx (ns.zip vs)) → W.B dx = some (.own a) → ns.length = xs.length → RpA M W vs xs → Rp M W (.ref a) (.obj c ns xs)
  | mu {n : Nat} {a : Addr} : W.ρ[n]? = some (.own a) → Rp M W (.ref a) (.mu n)
  | xv {n : Nat} {a : Addr} : W.ρ[n]? = some (.exc a) → Rp M W (.ref a) (.xv n)
inductive RpA (M : Md) (W : Wd) : List V → List PV → Prop
  | nil : RpA M W [] []
  | cons {v : V} {vs : List V} {p : PV} {ps : List PV} : Rp M W v p → RpA M W vs ps → RpA M W (v :: vs) (p :: ps)
end
structure Le (W W' : Wd) : Prop where
  b : Same W.B W'.B
  ρ : W.ρ <+: W'.ρ
theorem Le.refl (W : Wd) : Le W W := ⟨Same.refl _, List.prefix_refl _⟩
theorem Le.trans {W W1 W2 : Wd} (h : Le W W1) (k : Le W1 W2) : Le W W2 := ⟨h.b.trans k.b, h.ρ.trans k.ρ⟩
theorem pre_get {α : Type} {xs ys : List α} (h : xs <+: ys) {n : Nat} {a : α} (q : xs[n]? = some a) : ys[n]? = some a := by
  obtain ⟨t, rfl⟩ := h
  rw [List.getElem?_append_left (List.getElem?_eq_some_iff.mp q).1]
  exact q
mutual
theorem rp_up {M : Md} {W W' : Wd} (e : Le W W') : ∀ (p : PV) (v : V), Rp M W v p → Rp M W' v p
  | .non, _, h => by cases h; exact .non
  | .bl b, _, h => by cases h; exact .bl b
  | .int i, _, h => by cases h; exact .int i
  | .str x, _, h => by cases h; exact .str x
  | .tup xs, _, h => by
    cases h with
    | tup hs ha => exact .tup (seqT_up e.b hs) (rpa_up e xs _ ha)
  | .lst xs, _, h => by
    cases h with
    | lst hs ha => exact .lst (e.b _ _ hs) (rpa_up e xs _ ha)
  | .kls xs, _, h => by
    cases h with
    | kls hs ha => exact .kls (e.b.seq hs) (rpa_up e xs _ ha)
  | .obj c ns xs, _, h => by
    cases h with
    | obj h1 h2 h3 ha => exact .obj (e.b _ _ h1) (e.b _ _ h2) h3 (rpa_up e xs _ ha)
  | .mu n, _, h => by
    cases h with
    | mu h => exact .mu (pre_get e.ρ h)
  | .xv n, _, h => by
    cases h with
    | xv h => exact .xv (pre_get e.ρ h)
theorem rpa_up {M : Md} {W W' : Wd} (e : Le W W') : ∀ (ps : List PV) (vs : List V), RpA M W vs ps → RpA M W' vs ps
  | [], _, h => by cases h; exact .nil
  | p :: ps, _, h => by
    cases h with
    | cons h1 h2 => exact .cons (rp_up e p _ h1) (rpa_up e ps _ h2)
end
theorem rpa_len {M : Md} {W : Wd} : ∀ {ps : List PV} {vs : List V}, RpA M W vs ps → vs.length = ps.length
  | [], _, h => by cases h; rfl
  | p :: ps, _, h => by cases h with | cons h1 h2 => rw [List.length_cons, List.length_cons, rpa_len h2]
theorem rpa_app {M : Md} {W : Wd} {vs ws : List V} {ds es : List PV} (h : RpA M W vs ds) (k : RpA M W ws es) : RpA M W (vs ++ ws) (ds ++ es) := by
  induction vs generalizing ds with
  | nil => cases h; exact k
  | cons v vs ih => cases h with | cons h1 h2 => exact .cons h1 (ih h2)
theorem rpa_get {M : Md} {W : Wd} {vs : List V} : ∀ {ps : List PV} {i : Nat} {p : PV}, RpA M W vs ps → ps[i]? = some p → ∃ v, vs[i]? = some v ∧ Rp M W v p := by
  induction vs with
  | nil => intro ds i d h e; cases h; simp at e
  | cons v vs ih =>
    intro ds i d h e
    cases h with
    | cons h1 h2 =>
      cases i with
      | zero => simp at e; subst e; exact ⟨v, by simp, h1⟩
      | succ i => obtain ⟨w, a, b⟩ := ih (i := i) h2 (by simpa using e); exact ⟨w, by simpa using a, b⟩
theorem rpa_get' {M : Md} {W : Wd} {vs : List V} {ps : List PV} {i : Nat} {v : V} (h : RpA M W vs ps) (e : vs[i]? = some v) : ∃ p, ps[i]? = some p ∧ Rp M W v p := by
  have hi := (List.getElem?_eq_some_iff.mp e).1
  rw [rpa_len h] at hi
  obtain ⟨w, a, b⟩ := rpa_get h (List.getElem?_eq_getElem hi)
  rw [e] at a
  cases a
  exact ⟨_, List.getElem?_eq_getElem hi, b⟩
theorem rpa_take {M : Md} {W : Wd} {vs : List V} : ∀ {ds : List PV} (n : Nat), RpA M W vs ds → RpA M W (vs.take n) (ds.take n) := by
  induction vs with
  | nil => intro ds n h; cases h; simp; exact .nil
  | cons v vs ih => intro ds n h; cases h with
    | cons h1 h2 => cases n with
      | zero => exact .nil
      | succ n => exact .cons h1 (ih n h2)
theorem rpa_drop {M : Md} {W : Wd} {vs : List V} : ∀ {ds : List PV} (n : Nat), RpA M W vs ds → RpA M W (vs.drop n) (ds.drop n) := by
  induction vs with
  | nil => intro ds n h; cases h; simp; exact .nil
  | cons v vs ih => intro ds n h; cases n with
    | zero => exact h
    | succ n => cases h with | cons h1 h2 => exact ih n h2
theorem rpa_set {M : Md} {W : Wd} {vs : List V} {v : V} {p : PV} (hv : Rp M W v p) : ∀ {ds : List PV} (n : Nat), RpA M W vs ds → RpA M W (vs.set n v) (ds.set n p) := by
  induction vs with
  | nil => intro ds n h; cases h; exact .nil
  | cons w vs ih => intro ds n h; cases h with
    | cons h1 h2 => cases n with
      | zero => exact .cons hv h2
      | succ n => exact .cons h1 (ih n h2)
/-! ### the heap beside the state -/
def CellR (M : Md) (W : Wd) (H : Hp) (a : Addr) : Cell → Prop
  | .lst xs => W.B a = none ∧ ∃ vs, H a = some (.lst vs) ∧ RpA M W vs xs
  | .obj c ns xs => W.B a = none ∧ ns.length = xs.length ∧ ∃ dx vs, H a = some (.ins (M.AD c) dx (ns.zip vs)) ∧ W.B dx = some (.own a) ∧ RpA M W vs xs
  | .dead => True
theorem CellR.up {M : Md} {W W' : Wd} {H H' : Hp} {a : Addr} {c : Cell} (e : Le W W') (hb : W'.B a = W.B a) (hh : H' a = H a) (h : CellR M W H a c) : CellR M W' H' a c := by
  cases c with
  | lst xs =>
    obtain ⟨n, vs, h1, h2⟩ := h
    exact ⟨hb.trans n, vs, hh.trans h1, rpa_up e _ _ h2⟩
  | obj c ns xs =>
    obtain ⟨n, l, dx, vs, h1, h2, h3⟩ := h
    exact ⟨hb.trans n, l, dx, vs, hh.trans h1, e.b _ _ h2, rpa_up e _ _ h3⟩
  | dead => exact trivial
structure Rel (M : Md) (W : Wd) (H : Hp) (S : Sta) : Prop where
  i : Same W.B H
  len : W.ρ.length = S.length
  nd : ∀ (n m : Nat) (a : Addr), W.ρ[n]? = some (.own a) → W.ρ[m]? = some (.own a) → n = m
  al : ∀ a, Slot.own a ∈ W.ρ → H a ≠ none
  c : ∀ (n : Nat) (a : Addr) (c : Cell), W.ρ[n]? = some (.own a) → S[n]? = some c → CellR M W H a c
structure Go (W : Wd) (H : Hp) (W' : Wd) (H' : Hp) : Prop where
  b : Same W.B W'.B
  ρ : W.ρ <+: W'.ρ
  p : ∀ a, W.B a = none → Slot.own a ∉ W.ρ → H a ≠ none → W'.B a = none ∧ Slot.own a ∉ W'.ρ ∧ H' a = H a
theorem Go.le {W W' : Wd} {H H' : Hp} (g : Go W H W' H') : Le W W' := ⟨g.b, g.ρ⟩
theorem Go.refl (W : Wd) (H : Hp) : Go W H W H := ⟨Same.refl _, List.prefix_refl _, fun _ h1 h2 _ => ⟨h1, h2, rfl⟩⟩
theorem Go.trans {W W1 W2 : Wd} {H H1 H2 : Hp} (g : Go W H W1 H1) (h : Go W1 H1 W2 H2) : Go W H W2 H2 :=
  ⟨g.b.trans h.b, g.ρ.trans h.ρ, fun a q1 q2 q3 => by
    obtain ⟨x1, x2, x3⟩ := g.p a q1 q2 q3
    obtain ⟨y1, y2, y3⟩ := h.p a x1 x2 (by rw [x3]; exact q3)
    exact ⟨y1, y2, y3.trans x3⟩⟩
section
variable {M : Md} {W W' Wa : Wd} {H H' Ha : Hp} {S S' : Sta}
theorem Rel.none_b (r : Rel M W H S) {a : Addr} (h : H a = none) : W.B a = none := base_none r.i h
theorem Rel.none_ρ (r : Rel M W H S) {a : Addr} (h : H a = none) : Slot.own a ∉ W.ρ := fun q => r.al a q h
/-- a new thing that never changes -/
theorem Rel.new (r : Rel M W H S) {p : Addr} {o : HO} (h : H p = none) : Rel M ⟨upd W.B p o, W.ρ⟩ (upd H p o) S ∧ Go W H ⟨upd W.B p o, W.ρ⟩ (upd H p o) := by
  have sb : Same W.B (upd W.B p o) := fun a u q => by rw [upd_ne (ne_of_none (r.i a u q) h)]; exact q
  refine ⟨⟨fun a u q => ?_, r.len, r.nd, fun a ha => ?_, fun n a c h1 h2 => ?_⟩, sb, List.prefix_refl _, fun a q1 q2 q3 => ?_⟩
  · have q' : upd W.B p o a = some u := q
    by_cases z : a = p
    · subst z; rw [upd_same] at q' ⊢; exact q'
    · rw [upd_ne z] at q' ⊢; exact r.i a u q'
  · have : a ≠ p := fun z => r.al a ha (z ▸ h)
    rw [upd_ne this]; exact r.al a ha
  · have ne : a ≠ p := fun z => r.al a (List.mem_of_getElem? h1) (z ▸ h)
    exact (r.c n a c h1 h2).up ⟨sb, List.prefix_refl _⟩ (upd_ne ne) (upd_ne ne)
  · have ne : a ≠ p := fun z => q3 (z ▸ h)
    exact ⟨(upd_ne ne).trans q1, q2, upd_ne ne⟩
theorem snoc_get {α : Type} {xs : List α} {x y : α} {n : Nat} (h : (xs ++ [x])[n]? = some y) : xs[n]? = some y ∨ (n = xs.length ∧ x = y) := by
  by_cases hn : n < xs.length
  · rw [List.getElem?_append_left hn] at h; exact .inl h
  · have := (List.getElem?_eq_some_iff.mp h).1
    have e : n = xs.length := by simp at this; omega
    subst e
    rw [List.getElem?_append_right (Nat.le_refl _)] at h
    exact .inr ⟨rfl, by simpa using h⟩
/-- a private thing becomes one that never changes -/
theorem Rel.adopt (r : Rel M W H S) {p : Addr} {o : HO} (h : H p = some o) (nb : W.B p = none) (nr : Slot.own p ∉ W.ρ) : Rel M ⟨upd W.B p o, W.ρ⟩ H S ∧ ∀ Wa Ha, Ha p = none → Go Wa Ha W H → Go Wa Ha ⟨upd W.B p o, W.ρ⟩ H := by
  have sb : Same W.B (upd W.B p o) := fun a u q => by rw [upd_ne (ne_of_none q nb)]; exact q
  refine ⟨⟨fun a u q => ?_, r.len, r.nd, r.al, fun n a c h1 h2 => ?_⟩, fun Wa Ha hp g => ⟨g.b.trans sb, g.ρ, fun a q1 q2 q3 => ?_⟩⟩
  · have q' : upd W.B p o a = some u := q
    by_cases z : a = p
    · subst z; rw [upd_same] at q'; rw [h]; exact q'
    · rw [upd_ne z] at q'; exact r.i a u q'
  · have ne : a ≠ p := fun z => nr (z ▸ List.mem_of_getElem? h1)
    exact (r.c n a c h1 h2).up ⟨sb, List.prefix_refl _⟩ (upd_ne ne) rfl
  · obtain ⟨x1, x2, x3⟩ := g.p a q1 q2 q3
    have ne : a ≠ p := fun z => q3 (z ▸ hp)
    exact ⟨(upd_ne ne).trans x1, x2, x3⟩
/-- a private thing becomes a cell -/
theorem Rel.adoptC (r : Rel M W H S) {p : Addr} {o : HO} {c : Cell} (h : H p = some o) (nr : Slot.own p ∉ W.ρ) (hc : CellR M ⟨W.B, W.ρ ++ [.own p]⟩ H p c) : Rel M ⟨W.B, W.ρ ++ [.own p]⟩ H (S ++ [c]) ∧ ∀ Wa Ha, Ha p = none → Go Wa Ha W H → Go Wa Ha ⟨W.B, W.ρ ++ [.own p]⟩ H := by
  have le : Le W ⟨W.B, W.ρ ++ [.own p]⟩ := ⟨Same.refl _, List.prefix_append _ _⟩
  refine ⟨⟨r.i, by simp [r.len], fun n m a h1 h2 => ?_, fun a ha => ?_, fun n a c' h1 h2 => ?_⟩, fun Wa Ha hp g => ⟨g.b, g.ρ.trans le.ρ, fun a q1 q2 q3 => ?_⟩⟩
  · rcases snoc_get h1 with k1 | ⟨k1, e1⟩ <;> rcases snoc_get h2 with k2 | ⟨k2, e2⟩
    · exact r.nd n m a k1 k2
    · cases e2; exact absurd (List.mem_of_getElem? k1) nr
    · cases e1; exact absurd (List.mem_of_getElem? k2) nr
    · omega
  · rcases List.mem_append.mp ha with ha | ha
    · exact r.al a ha
    · cases List.mem_singleton.mp ha
      rw [h]; intro z; cases z
  · rcases snoc_get h1 with k1 | ⟨k1, e1⟩
    · have hn : n < S.length := by rw [← r.len]; exact (List.getElem?_eq_some_iff.mp k1).1
      rw [List.getElem?_append_left hn] at h2
      exact (r.c n a c' k1 h2).up le rfl rfl
    · cases e1
      rw [k1, r.len, List.getElem?_append_right (Nat.le_refl _)] at h2
      have e2 : c = c' := by simpa using h2
      subst e2
      exact hc
  · obtain ⟨x1, x2, x3⟩ := g.p a q1 q2 q3
    refine ⟨x1, fun hm => ?_, x3⟩
    rcases List.mem_append.mp hm with hm | hm
    · exact x2 hm
    · cases List.mem_singleton.mp hm
      exact q3 hp
/-- a private thing changes -/
theorem Rel.priv (r : Rel M W H S) {p : Addr} {o : HO} (nb : W.B p = none) (nr : Slot.own p ∉ W.ρ) : Rel M W (upd H p o) S ∧ ∀ Wa Ha, Ha p = none → Go Wa Ha W H → Go Wa Ha W (upd H p o) := by
  refine ⟨⟨fun a u q => ?_, r.len, r.nd, fun a ha => ?_, fun n a c h1 h2 => ?_⟩, fun Wa Ha hp g => ⟨g.b, g.ρ, fun a q1 q2 q3 => ?_⟩⟩
  · have ne : a ≠ p := fun z => by rw [z, nb] at q; cases q
    rw [upd_ne ne]; exact r.i a u q
  · have ne : a ≠ p := fun z => nr (z ▸ ha)
    rw [upd_ne ne]; exact r.al a ha
  · have ne : a ≠ p := fun z => nr (z ▸ List.mem_of_getElem? h1)
    exact (r.c n a c h1 h2).up (Le.refl _) rfl (upd_ne ne)
  · obtain ⟨x1, x2, x3⟩ := g.p a q1 q2 q3
    have ne : a ≠ p := fun z => q3 (z ▸ hp)
    exact ⟨x1, x2, (upd_ne ne).trans x3⟩
/-- a new cell -/
theorem Rel.cell (r : Rel M W H S) {p : Addr} {o : HO} {c : Cell} (h : H p = none) (hc : CellR M ⟨W.B, W.ρ ++ [.own p]⟩ (upd H p o) p c) : Rel M ⟨W.B, W.ρ ++ [.own p]⟩ (upd H p o) (S ++ [c]) ∧ Go W H ⟨W.B, W.ρ ++ [.own p]⟩ (upd H p o) := by
  obtain ⟨r1, g1⟩ := r.priv (p := p) (o := o) (r.none_b h) (r.none_ρ h)
  obtain ⟨r2, g2⟩ := r1.adoptC (c := c) upd_same (r.none_ρ h) hc
  exact ⟨r2, g2 W H h (g1 W H h (.refl W H))⟩
/-- the place of an error that was caught -/
theorem Rel.caught (r : Rel M W H S) (a : Addr) : Rel M ⟨W.B, W.ρ ++ [.exc a]⟩ H (S ++ [.dead]) ∧ Go W H ⟨W.B, W.ρ ++ [.exc a]⟩ H := by
  have le : Le W ⟨W.B, W.ρ ++ [.exc a]⟩ := ⟨Same.refl _, List.prefix_append _ _⟩
  have mem : ∀ b, Slot.own b ∈ W.ρ ++ [Slot.exc a] → Slot.own b ∈ W.ρ := fun b h => by
    rcases List.mem_append.mp h with h | h
    · exact h
    · cases List.mem_singleton.mp h
  have get : ∀ (n : Nat) (b : Addr), (W.ρ ++ [Slot.exc a])[n]? = some (Slot.own b) → W.ρ[n]? = some (Slot.own b) := fun n b h => by
    rcases snoc_get h with h | ⟨_, h⟩
    · exact h
    · cases h
  refine ⟨⟨r.i, by simp [r.len], fun n m b h1 h2 => r.nd n m b (get _ _ h1) (get _ _ h2), fun b h => r.al b (mem b h), fun n b c h1 h2 => ?_⟩, Same.refl _, le.ρ, fun b q1 q2 q3 => ⟨q1, fun h => q2 (mem b h), rfl⟩⟩
  have h1' := get _ _ h1
  have hn : n < S.length := by rw [← r.len]; exact (List.getElem?_eq_some_iff.mp h1').1
  rw [List.getElem?_append_left hn] at h2
  exact (r.c n b c h1' h2).up le rfl rfl
/-- a cell changes -/
theorem Rel.put (r : Rel M W H S) {n : Nat} {a : Addr} {o : HO} {c : Cell} (h : W.ρ[n]? = some (.own a)) (nb : W.B a = none) (hc : CellR M W (upd H a o) a c) : Rel M W (upd H a o) (S.set n c) ∧ Go W H W (upd H a o) := by
  have ha := List.mem_of_getElem? h
  refine ⟨⟨fun b u q => ?_, by simp [r.len], r.nd, fun b hb => ?_, fun m b c' h1 h2 => ?_⟩, Same.refl _, List.prefix_refl _, fun b q1 q2 q3 => ?_⟩
  · have ne : b ≠ a := fun z => by rw [z, nb] at q; cases q
    rw [upd_ne ne]; exact r.i b u q
  · by_cases z : b = a
    · subst z; rw [upd_same]; intro z; cases z
    · rw [upd_ne z]; exact r.al b hb
  · by_cases z : m = n
    · subst z
      rw [h] at h1; cases h1
      have : (S.set m c)[m]? = some c := List.getElem?_set_self (by rw [← r.len]; exact (List.getElem?_eq_some_iff.mp h).1)
      rw [this] at h2; cases h2
      exact hc
    · have ne : b ≠ a := fun q => z (r.nd m n a (q ▸ h1) h)
      rw [List.getElem?_set_ne (Ne.symm z)] at h2
      exact (r.c m b c' h1 h2).up (Le.refl _) rfl (upd_ne ne)
  · have ne : b ≠ a := fun z => q2 (z ▸ ha)
    exact ⟨q1, q2, upd_ne ne⟩
end
end Fx
namespace Fx
open PySem PySem.Spec PyProof.Rows L2 Co
/-! ### outcomes -/
/-- a mark that hangs on a term: simp leaves that term alone -/
inductive Tag {α : Type} (a : α) : Type where
  | mk
def Out.bind {α β : Type} (o : Out α) (f : α → Sta → Out β) (_ : Tag f := Tag.mk) : Out β := match o with
  | .ok a S => f a S
  | .ex c xs S => .ex c xs S
  | .stuck => .stuck
def lift {α : Type} (o : Option α) (S : Sta) : Out α := match o with
  | some a => .ok a S
  | none => .stuck
def OPost {α : Type} (o : Out α) (A : α → Sta → Prop) (E : String → List PV → Sta → Prop) : Prop := match o with
  | .ok a S => A a S
  | .ex c xs S => E c xs S
  | .stuck => False
theorem opost_bind {α β : Type} {o : Out α} {f : α → Sta → Out β} {A : β → Sta → Prop} {E : String → List PV → Sta → Prop} : OPost (o.bind f) A E = OPost o (fun a S => OPost (f a S) A E) E := by cases o <;> rfl
theorem OPost.mono {α : Type} {o : Out α} {A A' : α → Sta → Prop} {E E' : String → List PV → Sta → Prop} (h : OPost o A E) (k : ∀ a S, A a S → A' a S) (k' : ∀ c xs S, E c xs S → E' c xs S) : OPost o A' E' := by
  cases o with
  | ok a S => exact k a S h
  | ex c xs S => exact k' c xs S h
  | stuck => exact h
theorem opost_lift {α : Type} {o : Option α} {S : Sta} {A : α → Sta → Prop} {E : String → List PV → Sta → Prop} (h : OPost (lift o S) A E) : ∃ a, o = some a ∧ A a S := by
  cases o with
  | none => exact h.elim
  | some a => exact ⟨a, rfl, h⟩
section
variable {M : Md} {W W' Wa W0 W1 : Wd} {H H' Ha H1 : Hp} {S S' : Sta} {σ : L2.St} {ε : Env} {X : WX}
/-! ### slots -/
structure Er (M : Md) (W : Wd) (σ : L2.St) (ε : Env) : Prop where
  len : σ.length = ε.length
  get : ∀ (i : Nat) (p : PV), ε[i]? = some (some p) → ∃ v, σ[i]? = some (some v) ∧ Rp M W v p
theorem Er.up (h : Er M W σ ε) (e : Le W W') : Er M W' σ ε := ⟨h.len, fun i p q => by obtain ⟨v, a, b⟩ := h.get i p q; exact ⟨v, a, rp_up e _ _ b⟩⟩
theorem Er.set (h : Er M W σ ε) {i : Nat} {v : V} {p : PV} (r : Rp M W v p) : Er M W (σ.set i (some v)) (ε.set i (some p)) := ⟨by simp [h.len], fun j q hj => by
  by_cases z : i = j
  · subst z
    have hl : i < ε.length := by have := (List.getElem?_eq_some_iff.mp hj).1; simpa using this
    rw [List.getElem?_set_self hl] at hj
    cases hj
    exact ⟨v, List.getElem?_set_self (by rw [h.len]; exact hl), r⟩
  · rw [List.getElem?_set_ne z] at hj
    obtain ⟨w, a, b⟩ := h.get j q hj
    exact ⟨w, by rw [List.getElem?_set_ne z]; exact a, b⟩⟩
theorem Er.unset (h : Er M W σ ε) {i : Nat} {x : Option V} : Er M W (σ.set i x) (ε.set i none) := ⟨by simp [h.len], fun j q hj => by
  by_cases z : i = j
  · subst z
    have hl : i < ε.length := by have := (List.getElem?_eq_some_iff.mp hj).1; simpa using this
    rw [List.getElem?_set_self hl] at hj
    cases hj
  · rw [List.getElem?_set_ne z] at hj
    obtain ⟨w, a, b⟩ := h.get j q hj
    exact ⟨w, by rw [List.getElem?_set_ne z]; exact a, b⟩⟩
theorem er_start (M : Md) (W : Wd) {vs : List V} {ps : List PV} (n : Nat) (h : RpA M W vs ps) : Er M W (vs.map some ++ List.replicate n none) (ps.map some ++ List.replicate n none) := ⟨by simp [rpa_len h], fun i p q => by
  by_cases hl : i < ps.length
  · rw [List.getElem?_append_left (by simpa using hl), List.getElem?_map] at q
    obtain ⟨p', h1, h2⟩ := Option.map_eq_some_iff.mp q
    cases h2
    obtain ⟨v, a, b⟩ := rpa_get h h1
    refine ⟨v, ?_, b⟩
    rw [List.getElem?_append_left (by rw [List.length_map, rpa_len h]; exact hl), List.getElem?_map, a]
    rfl
  · rw [List.getElem?_append_right (by simpa using hl)] at q
    have := List.mem_of_getElem? q
    rw [List.mem_replicate] at this
    cases this.2⟩
/-! ### what a reading keeps of its mirror -/
/-- the fields of an error that is under way -/
def Xd (M : Md) (W : Wd) (c : String) (xs : List PV) : Option Addr → Prop
  | none => xs = [] ∧ M.fl c = []
  | some dx => M.fl c ≠ [] ∧ ∃ vs, W.B dx = some (.xd ((M.fl c).zip vs).reverse) ∧ vs.length = (M.fl c).length ∧ RpA M W vs xs
theorem Xd.up {c : String} {xs : List PV} {d : Option Addr} (e : Le W W') (h : Xd M W c xs d) : Xd M W' c xs d := by
  cases d with
  | none => exact h
  | some dx => obtain ⟨n, vs, h1, h2, h3⟩ := h; exact ⟨n, vs, e.b _ _ h1, h2, rpa_up e _ _ h3⟩
def okG {α β : Type} (R : Md → Wd → β → α → Prop) (M : Md) (W : Wd) (H : Hp) (Q : β → Hp → Prop) (a : α) (S : Sta) : Prop := ∀ b W' H', Go W H W' H' → Rel M W' H' S → R M W' b a → Q b H'
def exE (M : Md) (W : Wd) (H : Hp) (E : XK) (c : String) (xs : List PV) (S : Sta) : Prop := ∀ d W' H', Go W H W' H' → Rel M W' H' S → Xd M W' c xs d → E (.ref (M.AD c)) d H'
abbrev atσ (X : WX) (σ : L2.St) : XK := fun cls d H => X cls d σ H
theorem okG.up {α β : Type} {R : Md → Wd → β → α → Prop} {Q : β → Hp → Prop} {a : α} (h : okG R M W H Q a S) (g : Go W H W' H') : okG R M W' H' Q a S := fun b W2 H2 g2 r q => h b W2 H2 (g.trans g2) r q
theorem exE.up {E : XK} {c : String} {xs : List PV} (h : exE M W H E c xs S) (g : Go W H W' H') : exE M W' H' E c xs S := fun d W2 H2 g2 r q => h d W2 H2 (g.trans g2) r q
/-- the reading t of an expression follows from its mirror m -/
def RG {α β : Type} (R : Md → Wd → β → α → Prop) (M : Md) (W0 : Wd) (X : WX) (t : L2.St → Hp → (β → Hp → Prop) → Prop) (m : Env → Sta → Out α) : Prop :=
  ∀ (W : Wd) (H : Hp) (S : Sta) (σ : L2.St) (ε : Env), Le W0 W → Rel M W H S → Er M W σ ε → ∀ Q : β → Hp → Prop, OPost (m ε S) (okG R M W H Q) (exE M W H (atσ X σ)) → t σ H Q
abbrev RE (M : Md) (W0 : Wd) (X : WX) (te : TE) (m : Env → Sta → Out PV) : Prop := RG Rp M W0 X te m
abbrev RA (M : Md) (W0 : Wd) (X : WX) (ta : TA) (m : Env → Sta → Out (List PV)) : Prop := RG RpA M W0 X ta m
def Rq {α : Type} (_ : Md) (_ : Wd) (b a : α) : Prop := b = a
abbrev RT (M : Md) (W0 : Wd) (X : WX) (tt : TT) (m : Env → Sta → Out Bool) : Prop := RG Rq M W0 X tt m
abbrev RO (M : Md) (W0 : Wd) (X : WX) (to : TO) (m : Env → Sta → Out (Option Int)) : Prop := RG Rq M W0 X to m
theorem RG.thn {α β γ : Type} {R : Md → Wd → β → α → Prop} {t : L2.St → Hp → (β → Hp → Prop) → Prop} {m : Env → Sta → Out α} {f : α → Sta → Out γ} {A : γ → Sta → Prop} {Q : β → Hp → Prop} (h : RG R M W0 X t m) (g : Go Wa Ha W H) (le : Le W0 Wa) (r : Rel M W H S) (er : Er M Wa σ ε)
    (q : OPost ((m ε S).bind f) A (exE M Wa Ha (atσ X σ))) (k : ∀ b a S' W' H', Go W H W' H' → Rel M W' H' S' → R M W' b a → OPost (f a S') A (exE M Wa Ha (atσ X σ)) → Q b H') : t σ H Q := by
  rw [opost_bind] at q
  exact h W H S σ ε (le.trans g.le) r (er.up g.le) Q (q.mono (fun a S' q b W' H' g' r' p => k b a S' W' H' g' r' p q) fun c xs S' z => z.up g)
def VarE (i : Nat) : Env → Sta → Out PV := fun ε S => match ε[i]? with
  | some (some p) => .ok p S
  | _ => .stuck
def CE (p : PV) : Env → Sta → Out PV := fun _ S => .ok p S
theorem re_var {i : Nat} : RE M W0 X (tVar i) (VarE i) := fun W H S σ ε le r er Q q => by
  unfold VarE at q
  cases h : ε[i]? with
  | none => rw [h] at q; exact q.elim
  | some x =>
    cases x with
    | none => rw [h] at q; exact q.elim
    | some p =>
      rw [h] at q
      obtain ⟨v, a, b⟩ := er.get i p h
      exact ⟨v, a, q v W H (.refl W H) r b⟩
theorem re_c {v : V} {p : PV} (h : ∀ W, Rp M W v p) : RE M W0 X (tC v) (CE p) := fun W H S σ ε le r er Q q => q v W H (.refl W H) r (h W)
theorem re_int {i : Int} : RE M W0 X (tC (.int i)) (CE (.int i)) := re_c fun _ => .int i
theorem re_bl {i : Bool} : RE M W0 X (tC (.bl i)) (CE (.bl i)) := re_c fun _ => .bl i
theorem re_str {i : Str} : RE M W0 X (tC (.str i)) (CE (.str i)) := re_c fun _ => .str i
theorem re_non : RE M W0 X (tC .non) (CE .non) := re_c fun _ => .non
/-! ### operators -/
abbrev F2 := Sta → PV → PV → Option PV
def K2 (M : Md) (r : R2) (f : F2) : Prop := ∀ (W : Wd) (H : Hp) (S : Sta) (u v : V) (x y p : PV), Rel M W H S → Rp M W u x → Rp M W v y → f S x y = some p → ∀ Q : VK, okG Rp M W H Q p S → r u v H Q
def OpE (f : F2) (ma mb : Env → Sta → Out PV) : Env → Sta → Out PV := fun ε S => (ma ε S).bind fun x S1 => (mb ε S1).bind fun y S2 => lift (f S2 x y) S2
variable {ta tb tc te : TE} {ma mb mc me : Env → Sta → Out PV} {tt uu : TT} {mt mu : Env → Sta → Out Bool} {ts tr : TA} {ms mr : Env → Sta → Out (List PV)}
theorem re_op {r : R2} {f : F2} (ha : RE M W0 X ta ma) (hb : RE M W0 X tb mb) (hr : K2 M r f) : RE M W0 X (tOp r ta tb) (OpE f ma mb) := fun W H S σ ε le r0 er Q q =>
  ha.thn (.refl W H) le r0 er q fun u x S1 W1 H1 g1 r1 p1 q1 => hb.thn g1 le r1 er q1 fun v y S2 W2 H2 g2 r2 p2 q2 => by
    obtain ⟨p, e, q3⟩ := opost_lift q2
    exact hr W2 H2 S2 u v x y p r2 (rp_up g2.le _ _ p1) p2 e Q (okG.up q3 (g1.trans g2))
def truth : PV → Option Bool
  | .bl b => some b
  | _ => none
theorem rp_bl {v : V} {p : PV} {b : Bool} (h : Rp M W v p) (e : truth p = some b) : v = .bl b := by
  cases h <;> first | (cases e; rfl) | cases e
def AndE (ma mb : Env → Sta → Out PV) : Env → Sta → Out PV := fun ε S => (ma ε S).bind fun x S1 => (lift (truth x) S1).bind fun b S1 => if b = true then mb ε S1 else .ok (.bl false) S1
def OrE (ma mb : Env → Sta → Out PV) : Env → Sta → Out PV := fun ε S => (ma ε S).bind fun x S1 => (lift (truth x) S1).bind fun b S1 => if b = true then .ok (.bl true) S1 else mb ε S1
def NotE (ma : Env → Sta → Out PV) : Env → Sta → Out PV := fun ε S => (ma ε S).bind fun x S1 => (lift (truth x) S1).bind fun b S1 => .ok (.bl (!b)) S1
/-- the last part of an expression -/
theorem RG.end {α β : Type} {R : Md → Wd → β → α → Prop} {t : L2.St → Hp → (β → Hp → Prop) → Prop} {m : Env → Sta → Out α} {Q : β → Hp → Prop} (h : RG R M W0 X t m) (g : Go Wa Ha W H) (le : Le W0 Wa) (r : Rel M W H S) (er : Er M Wa σ ε)
    (q : OPost (m ε S) (okG R M Wa Ha Q) (exE M Wa Ha (atσ X σ))) : t σ H Q :=
  h W H S σ ε (le.trans g.le) r (er.up g.le) Q (q.mono (fun a S' q => okG.up q g) fun c xs S' z => z.up g)
theorem re_and (ha : RE M W0 X ta ma) (hb : RE M W0 X tb mb) : RE M W0 X (tAndV ta tb) (AndE ma mb) := fun W H S σ ε le r0 er Q q =>
  ha.thn (.refl W H) le r0 er q fun u x S1 W1 H1 g1 r1 p1 q1 => by
    rw [opost_bind] at q1
    obtain ⟨b, e, q2⟩ := opost_lift q1
    refine ⟨b, rp_bl p1 e, ?_⟩
    cases b with
    | true => exact iteT (hb.end g1 le r1 er q2)
    | false => exact iteF (q2 _ W1 H1 g1 r1 (.bl false))
theorem re_or (ha : RE M W0 X ta ma) (hb : RE M W0 X tb mb) : RE M W0 X (tOrV ta tb) (OrE ma mb) := fun W H S σ ε le r0 er Q q =>
  ha.thn (.refl W H) le r0 er q fun u x S1 W1 H1 g1 r1 p1 q1 => by
    rw [opost_bind] at q1
    obtain ⟨b, e, q2⟩ := opost_lift q1
    refine ⟨b, rp_bl p1 e, ?_⟩
    cases b with
    | true => exact iteT (q2 _ W1 H1 g1 r1 (.bl true))
    | false => exact iteF (hb.end g1 le r1 er q2)
theorem re_not (ha : RE M W0 X ta ma) : RE M W0 X (tNotV ta) (NotE ma) := fun W H S σ ε le r0 er Q q =>
  ha.thn (.refl W H) le r0 er q fun u x S1 W1 H1 g1 r1 p1 q1 => by
    rw [opost_bind] at q1
    obtain ⟨b, e, q2⟩ := opost_lift q1
    exact ⟨b, rp_bl p1 e, q2 _ W1 H1 g1 r1 (.bl _)⟩
/-! tests -/
def TestE (ma : Env → Sta → Out PV) : Env → Sta → Out Bool := fun ε S => (ma ε S).bind fun x S1 => lift (truth x) S1
def TAnd (ma mb : Env → Sta → Out Bool) : Env → Sta → Out Bool := fun ε S => (ma ε S).bind fun b S1 => if b = true then mb ε S1 else .ok false S1
def TOr (ma mb : Env → Sta → Out Bool) : Env → Sta → Out Bool := fun ε S => (ma ε S).bind fun b S1 => if b = true then .ok true S1 else mb ε S1
def TNot (ma : Env → Sta → Out Bool) : Env → Sta → Out Bool := fun ε S => (ma ε S).bind fun b S1 => .ok (!b) S1
theorem rt_test (ha : RE M W0 X ta ma) : RT M W0 X (tTest ta) (TestE ma) := fun W H S σ ε le r0 er Q q =>
  ha.thn (.refl W H) le r0 er q fun u x S1 W1 H1 g1 r1 p1 q1 => by
    obtain ⟨b, e, q2⟩ := opost_lift q1
    exact ⟨b, rp_bl p1 e, q2 b W1 H1 g1 r1 rfl⟩
theorem rt_B (ha : RE M W0 X ta ma) : RT M W0 X (tB ta) (TestE ma) := fun W H S σ ε le r0 er Q q =>
  ha.thn (.refl W H) le r0 er q fun u x S1 W1 H1 g1 r1 p1 q1 => by
    obtain ⟨b, e, q2⟩ := opost_lift q1
    exact ⟨b, rp_bl p1 e, q2 b W1 H1 g1 r1 rfl⟩
theorem rt_and (ha : RT M W0 X tt mt) (hb : RT M W0 X uu mu) : RT M W0 X (tAnd tt uu) (TAnd mt mu) := fun W H S σ ε le r0 er Q q =>
  ha.thn (.refl W H) le r0 er q fun u b S1 W1 H1 g1 r1 p1 q1 => by
    cases p1
    cases u with
    | true => exact iteT (hb.end g1 le r1 er q1)
    | false => exact iteF (q1 _ W1 H1 g1 r1 rfl)
theorem rt_or (ha : RT M W0 X tt mt) (hb : RT M W0 X uu mu) : RT M W0 X (tOr tt uu) (TOr mt mu) := fun W H S σ ε le r0 er Q q =>
  ha.thn (.refl W H) le r0 er q fun u b S1 W1 H1 g1 r1 p1 q1 => by
    cases p1
    cases u with
    | true => exact iteT (q1 _ W1 H1 g1 r1 rfl)
    | false => exact iteF (hb.end g1 le r1 er q1)
theorem rt_not (ha : RT M W0 X tt mt) : RT M W0 X (tNot tt) (TNot mt) := fun W H S σ ε le r0 er Q q =>
  ha.thn (.refl W H) le r0 er q fun u b S1 W1 H1 g1 r1 p1 q1 => by
    cases p1
    exact q1 _ W1 H1 g1 r1 rfl
def IfE (mt : Env → Sta → Out Bool) (ma mb : Env → Sta → Out PV) : Env → Sta → Out PV := fun ε S => (mt ε S).bind fun b S1 => if b = true then ma ε S1 else mb ε S1
theorem re_if (ht : RT M W0 X tt mt) (ha : RE M W0 X ta ma) (hb : RE M W0 X tb mb) : RE M W0 X (tIf tt ta tb) (IfE mt ma mb) := fun W H S σ ε le r0 er Q q =>
  ht.thn (.refl W H) le r0 er q fun u b S1 W1 H1 g1 r1 p1 q1 => by
    cases p1
    cases u with
    | true => exact iteT (ha.end g1 le r1 er q1)
    | false => exact iteF (hb.end g1 le r1 er q1)
def ChainE (f f' : F2) (ma mb mc : Env → Sta → Out PV) : Env → Sta → Out PV := fun ε S => (ma ε S).bind fun x S1 => (mb ε S1).bind fun y S2 => (lift (f S2 x y) S2).bind fun w S2 => (lift (truth w) S2).bind fun b S2 => if b = true then (mc ε S2).bind fun z S3 => lift (f' S3 y z) S3 else .ok (.bl false) S2
theorem re_chain {r r' : R2} {f f' : F2} (ha : RE M W0 X ta ma) (hb : RE M W0 X tb mb) (hr : K2 M r f) (hc : RE M W0 X tc mc) (hr' : K2 M r' f') : RE M W0 X (tChain r r' ta tb tc) (ChainE f f' ma mb mc) := fun W H S σ ε le r0 er Q q =>
  ha.thn (.refl W H) le r0 er q fun u x S1 W1 H1 g1 r1 p1 q1 => hb.thn g1 le r1 er q1 fun v y S2 W2 H2 g2 r2 p2 q2 => by
    rw [opost_bind] at q2
    obtain ⟨p, e, q3⟩ := opost_lift q2
    refine hr W2 H2 S2 u v x y p r2 (rp_up g2.le _ _ p1) p2 e _ fun w W3 H3 g3 r3 p3 => ?_
    rw [opost_bind] at q3
    obtain ⟨b, e', q4⟩ := opost_lift q3
    refine ⟨b, rp_bl p3 e', ?_⟩
    have g13 := (g1.trans g2).trans g3
    cases b with
    | true => exact iteT (hc.thn g13 le r3 er q4 fun z pz S4 W4 H4 g4 r4 p4 q5 => by
        obtain ⟨p', e2, q6⟩ := opost_lift q5
        exact hr' W4 H4 S4 v z y pz p' r4 (rp_up (g3.trans g4).le _ _ p2) p4 e2 Q (okG.up q6 (g13.trans g4)))
    | false => exact iteF (q4 _ W3 H3 g13 r3 (.bl false))
/-! ### arguments, displays -/
def NilA : Env → Sta → Out (List PV) := fun _ S => .ok [] S
def ConsA (me : Env → Sta → Out PV) (mr : Env → Sta → Out (List PV)) : Env → Sta → Out (List PV) := fun ε S => (me ε S).bind fun x S1 => (mr ε S1).bind fun xs S2 => .ok (x :: xs) S2
theorem ra_nil : RA M W0 X tNil NilA := fun W H S σ ε le r er Q q => q [] W H (.refl W H) r .nil
theorem ra_cons (h : RE M W0 X te me) (hr : RA M W0 X tr mr) : RA M W0 X (tCons te tr) (ConsA me mr) := fun W H S σ ε le r0 er Q q =>
  h.thn (.refl W H) le r0 er q fun u x S1 W1 H1 g1 r1 p1 q1 => hr.thn g1 le r1 er q1 fun vs xs S2 W2 H2 g2 r2 p2 q2 => q2 _ W2 H2 (g1.trans g2) r2 (.cons (rp_up g2.le _ _ p1) p2)
/-- a tuple; a list that never changes; a list that may -/
def TupE (ms : Env → Sta → Out (List PV)) : Env → Sta → Out PV := fun ε S => (ms ε S).bind fun xs S1 => if xs.length ≤ 100000 then .ok (.tup xs) S1 else .stuck
def LstE (ms : Env → Sta → Out (List PV)) : Env → Sta → Out PV := fun ε S => (ms ε S).bind fun xs S1 => if xs.length ≤ 100000 then .ok (.lst xs) S1 else .stuck
def newL (xs : List PV) (S : Sta) : Out PV := .ok (.mu S.length) (S ++ [.lst xs])
def LmuE (ms : Env → Sta → Out (List PV)) : Env → Sta → Out PV := fun ε S => (ms ε S).bind fun xs S1 => if xs.length ≤ 100000 then newL xs S1 else .stuck
theorem ite_post {α : Type} {c : Prop} [Decidable c] {o : Out α} {A : α → Sta → Prop} {E : String → List PV → Sta → Prop} (h : OPost (if c then o else .stuck) A E) : c ∧ OPost o A E := by
  by_cases z : c
  · rw [if_pos z] at h; exact ⟨z, h⟩
  · rw [if_neg z] at h; exact h.elim
theorem big_ok {n : Nat} (h : n ≤ 100000) : n ≤ sizeLine := Nat.le_trans h (by decide)
theorem new_tup {vs : List V} {xs : List PV} {Q : VK} (g : Go Wa Ha W H) (r : Rel M W H S) (h : RpA M W vs xs) (q : okG Rp M Wa Ha Q (.tup xs) S) : ∀ p, H p = none → Q (.ref p) (upd H p (.tup vs)) := fun p hp => by
  obtain ⟨r2, g2⟩ := r.new (o := .tup vs) hp
  exact q _ _ _ (g.trans g2) r2 (.tup (.inl (.inl upd_same)) (rpa_up g2.le _ _ h))
theorem new_lst {vs : List V} {xs : List PV} {Q : VK} (g : Go Wa Ha W H) (r : Rel M W H S) (h : RpA M W vs xs) (q : okG Rp M Wa Ha Q (.lst xs) S) : ∀ p, H p = none → Q (.ref p) (upd H p (.lst vs)) := fun p hp => by
  obtain ⟨r2, g2⟩ := r.new (o := .lst vs) hp
  exact q _ _ _ (g.trans g2) r2 (.lst upd_same (rpa_up g2.le _ _ h))
theorem new_mu {vs : List V} {xs : List PV} {Q : VK} (g : Go Wa Ha W H) (r : Rel M W H S) (h : RpA M W vs xs) (q : okG Rp M Wa Ha Q (.mu S.length) (S ++ [.lst xs])) : ∀ p, H p = none → Q (.ref p) (upd H p (.lst vs)) := fun p hp => by
  have le : Le W ⟨W.B, W.ρ ++ [.own p]⟩ := ⟨Same.refl _, List.prefix_append _ _⟩
  obtain ⟨r2, g2⟩ := r.cell (o := .lst vs) (c := .lst xs) hp ⟨r.none_b hp, vs, upd_same, rpa_up le _ _ h⟩
  refine q _ _ _ (g.trans g2) r2 (.mu ?_)
  rw [← r.len]
  simp
theorem re_tup (h : RA M W0 X ts ms) : RE M W0 X (tTup ts) (TupE ms) := fun W H S σ ε le r0 er Q q =>
  h.thn (.refl W H) le r0 er q fun vs xs S1 W1 H1 g1 r1 p1 q1 => by
    obtain ⟨z, q2⟩ := ite_post q1
    exact ⟨big_ok (by rw [rpa_len p1]; exact z), new_tup g1 r1 p1 q2⟩
theorem re_lst (h : RA M W0 X ts ms) : RE M W0 X (tLst ts) (LstE ms) := fun W H S σ ε le r0 er Q q =>
  h.thn (.refl W H) le r0 er q fun vs xs S1 W1 H1 g1 r1 p1 q1 => by
    obtain ⟨z, q2⟩ := ite_post q1
    exact ⟨big_ok (by rw [rpa_len p1]; exact z), new_lst g1 r1 p1 q2⟩
theorem re_lmu (h : RA M W0 X ts ms) : RE M W0 X (tLst ts) (LmuE ms) := fun W H S σ ε le r0 er Q q =>
  h.thn (.refl W H) le r0 er q fun vs xs S1 W1 H1 g1 r1 p1 q1 => by
    obtain ⟨z, q2⟩ := ite_post q1
    exact ⟨big_ok (by rw [rpa_len p1]; exact z), new_mu g1 r1 p1 q2⟩
/-! ### calls of built-ins and of defs -/
abbrev FC := List PV → Sta → Out PV
def noX : String → List PV → Sta → Prop := fun _ _ _ => False
def KC (M : Md) (r : List V → Hp → VK → Prop) (f : FC) : Prop := ∀ (W : Wd) (H : Hp) (S : Sta) (vs : List V) (xs : List PV), Rel M W H S → RpA M W vs xs → ∀ Q : VK, OPost (f xs S) (okG Rp M W H Q) noX → r vs H Q
/-- what a built-in does, where it raises nothing -/
def calm (o : Out PV) : Out PV := match o with
  | .ok a S => .ok a S
  | _ => .stuck
theorem calm_post {o : Out PV} {A : PV → Sta → Prop} {E : String → List PV → Sta → Prop} (h : OPost (calm o) A E) : OPost o A noX := by
  cases o with
  | ok a S => exact h
  | ex => exact h.elim
  | stuck => exact h.elim
def CbE (f : FC) (ms : Env → Sta → Out (List PV)) : Env → Sta → Out PV := fun ε S => (ms ε S).bind fun xs S1 => calm (f xs S1)
theorem re_cb {r : List V → Hp → VK → Prop} {f : FC} (h : RA M W0 X ts ms) (hr : KC M r f) : RE M W0 X (tCB r ts) (CbE f ms) := fun W H S σ ε le r0 er Q q =>
  h.thn (.refl W H) le r0 er q fun vs xs S1 W1 H1 g1 r1 p1 q1 => hr W1 H1 S1 vs xs r1 p1 Q ((calm_post q1).mono (fun a S' q => okG.up q g1) fun _ _ _ z => z)
/-- the promise of a def whose mirror is f -/
def spM (M : Md) (f : FC) : Sp := fun vs H Q E => ∃ (W : Wd) (S : Sta) (xs : List PV), Rel M W H S ∧ RpA M W vs xs ∧ OPost (f xs S) (okG Rp M W H Q) (exE M W H E)
def CallE (f : FC) (dps : List PV) (ms : Env → Sta → Out (List PV)) : Env → Sta → Out PV := fun ε S => (ms ε S).bind fun xs S1 => f (xs ++ dps) S1
theorem re_call {f : FC} {dvs : List V} {dps : List PV} {E : XK} (h : RA M W0 (fun cls d _ H => E cls d H) ts ms) (hd : ∀ W, RpA M W dvs dps) : RE M W0 (fun cls d _ H => E cls d H) (tCall (spM M f) dvs E ts) (CallE f dps ms) := fun W H S σ ε le r0 er Q q =>
  h.thn (.refl W H) le r0 er q fun vs xs S1 W1 H1 g1 r1 p1 q1 => ⟨W1, S1, xs ++ dps, r1, rpa_app p1 (hd _), q1.mono (fun a S' q => okG.up q g1) fun c ys S' z => exE.up z g1⟩
theorem re_callS {f : FC} (h : RA M W0 X ts ms) : RE M W0 X (tCallS (spM M f) (atσ X) ts) (CallE f [] ms) := fun W H S σ ε le r0 er Q q =>
  h.thn (.refl W H) le r0 er q fun vs xs S1 W1 H1 g1 r1 p1 q1 => ⟨W1, S1, xs, r1, p1, by
    rw [List.append_nil] at q1
    exact q1.mono (fun a S' q => okG.up q g1) fun c ys S' z => exE.up z g1⟩
end
end Fx
namespace Fx
open PySem PySem.Spec PyProof.Rows L2 Co
section
variable {M : Md} {W W' Wa W0 W1 : Wd} {H H' Ha H1 : Hp} {S S' : Sta} {σ : L2.St} {ε : Env} {X : WX}
variable {ta tb tc te : TE} {ma mb mc me : Env → Sta → Out PV} {tt uu : TT} {mt mu : Env → Sta → Out Bool} {ts tr : TA} {ms mr : Env → Sta → Out (List PV)}
/-! ### lists and tuples as they stand now -/
def look (S : Sta) : PV → PV
  | .mu n => match S[n]? with
    | some (.lst xs) => .lst xs
    | _ => .mu n
  | .kls xs => .lst xs
  | p => p
/-- items of a list (true) or a tuple (false) -/
def items (S : Sta) (p : PV) : Option (Bool × List PV) := match look S p with
  | .lst xs => some (true, xs)
  | .tup xs => some (false, xs)
  | _ => none
theorem look_lst (r : Rel M W H S) {v : V} {p : PV} {xs : List PV} (h : Rp M W v p) (e : look S p = .lst xs) : ∃ a vs, v = .ref a ∧ SqL M.K H a vs ∧ RpA M W vs xs := by
  cases h with
  | lst hs ha => cases e; exact ⟨_, _, rfl, .inl (.inl (r.i _ _ hs)), ha⟩
  | kls hs ha => cases e; exact ⟨_, _, rfl, r.i.seq hs, ha⟩
  | @mu n a hm =>
    unfold look at e
    dsimp only at e
    cases q : S[n]? with
    | none => rw [q] at e; cases e
    | some c =>
      rw [q] at e
      cases c with
      | lst ys =>
        cases e
        obtain ⟨_, vs, h1, h2⟩ := r.c n a _ hm q
        exact ⟨a, vs, rfl, .inl (.inl h1), h2⟩
      | obj => cases e
      | dead => cases e
  | _ => cases e
theorem look_tup (r : Rel M W H S) {v : V} {p : PV} {xs : List PV} (h : Rp M W v p) (e : look S p = .tup xs) : ∃ a vs, v = .ref a ∧ SqT M.K H a vs ∧ RpA M W vs xs := by
  cases h with
  | tup hs ha => cases e; exact ⟨_, _, rfl, seqT_up r.i hs, ha⟩
  | @mu n a hm =>
    unfold look at e
    dsimp only at e
    cases q : S[n]? with
    | none => rw [q] at e; cases e
    | some c => rw [q] at e; cases c <;> cases e
  | _ => cases e
theorem look_str {v : V} {p : PV} {z : Str} (h : Rp M W v p) (e : look S p = .str z) : v = .str z := by
  cases h with
  | str => cases e; rfl
  | @mu n a hm =>
    unfold look at e
    dsimp only at e
    cases q : S[n]? with
    | none => rw [q] at e; cases e
    | some c => rw [q] at e; cases c <;> cases e
  | _ => cases e
theorem look_int {v : V} {p : PV} {z : Int} (h : Rp M W v p) (e : look S p = .int z) : v = .int z := by
  cases h with
  | int => cases e; rfl
  | @mu n a hm =>
    unfold look at e
    dsimp only at e
    cases q : S[n]? with
    | none => rw [q] at e; cases e
    | some c => rw [q] at e; cases c <;> cases e
  | _ => cases e
theorem items_sq (r : Rel M W H S) {v : V} {p : PV} {k : Bool} {xs : List PV} (h : Rp M W v p) (e : items S p = some (k, xs)) : ∃ a vs, v = .ref a ∧ SqB M.K k H a vs ∧ RpA M W vs xs := by
  unfold items at e
  split at e
  · rename_i ys q
    cases e
    obtain ⟨a, vs, h1, h2, h3⟩ := look_lst r h q
    exact ⟨a, vs, h1, h2, h3⟩
  · rename_i ys q
    cases e
    obtain ⟨a, vs, h1, h2, h3⟩ := look_tup r h q
    exact ⟨a, vs, h1, h2, h3⟩
  · cases e
/-! ### data -/
mutual
def toD : PV → Option D
  | .non => some .none
  | .bl b => some (.bool b)
  | .int i => some (.int i)
  | .str s => some (.str s)
  | .tup xs => (toDs xs).map .tuple
  | .lst xs => (toDs xs).map .list
  | .kls xs => (toDs xs).map .list
  | .obj _ _ _ => none
  | .mu _ => none
  | .xv _ => none
def toDs : List PV → Option (List D)
  | [] => some []
  | p :: ps => match toD p, toDs ps with
    | some d, some ds => some (d :: ds)
    | _, _ => none
end
mutual
def dat (S : Sta) : PV → Option D
  | .non => some .none
  | .bl b => some (.bool b)
  | .int i => some (.int i)
  | .str s => some (.str s)
  | .tup xs => (dats S xs).map .tuple
  | .lst xs => (dats S xs).map .list
  | .kls xs => (dats S xs).map .list
  | .obj _ _ _ => none
  | .mu n => match S[n]? with
    | some (.lst xs) => (toDs xs).map .list
    | _ => none
  | .xv _ => none
def dats (S : Sta) : List PV → Option (List D)
  | [] => some []
  | p :: ps => match dat S p, dats S ps with
    | some d, some ds => some (d :: ds)
    | _, _ => none
end
mutual
theorem toD_ok (e : Same W.B H) : ∀ (p : PV) (v : V) (d : D), Rp M W v p → toD p = some d → Dp M.K H v d
  | .non, _, _, h, q => by cases h; simp only [toD] at q; cases q; exact .non
  | .bl b, _, _, h, q => by cases h; simp only [toD] at q; cases q; exact .bl b
  | .int i, _, _, h, q => by cases h; simp only [toD] at q; cases q; exact .int i
  | .str z, _, _, h, q => by cases h; simp only [toD] at q; cases q; exact .str z
  | .tup xs, _, _, h, q => by
    cases h with
    | tup hs ha =>
      simp only [toD] at q
      obtain ⟨ds, q1, rfl⟩ := Option.map_eq_some_iff.mp q
      exact .tup (seqT_up e hs) (toDs_ok e xs _ ds ha q1)
  | .lst xs, _, _, h, q => by
    cases h with
    | lst hs ha =>
      simp only [toD] at q
      obtain ⟨ds, q1, rfl⟩ := Option.map_eq_some_iff.mp q
      exact .lst (.inl (.inl (e _ _ hs))) (toDs_ok e xs _ ds ha q1)
  | .kls xs, _, _, h, q => by
    cases h with
    | kls hs ha =>
      simp only [toD] at q
      obtain ⟨ds, q1, rfl⟩ := Option.map_eq_some_iff.mp q
      exact .lst (e.seq hs) (toDs_ok e xs _ ds ha q1)
  | .obj c ns xs, _, _, h, q => by simp only [toD] at q; cases q
  | .mu n, _, _, h, q => by simp only [toD] at q; cases q
  | .xv n, _, _, h, q => by simp only [toD] at q; cases q
theorem toDs_ok (e : Same W.B H) : ∀ (ps : List PV) (vs : List V) (ds : List D), RpA M W vs ps → toDs ps = some ds → DpAll M.K H vs ds
  | [], _, _, h, q => by cases h; simp only [toDs] at q; cases q; exact .nil
  | p :: ps, _, ds, h, q => by
    cases h with
    | cons h1 h2 =>
      simp only [toDs] at q
      split at q
      · rename_i d ds' q1 q2
        cases q
        exact .cons (toD_ok e p _ d h1 q1) (toDs_ok e ps _ ds' h2 q2)
      · cases q
end
mutual
theorem dat_ok (r : Rel M W H S) : ∀ (p : PV) (v : V) (d : D), Rp M W v p → dat S p = some d → Dp M.K H v d
  | .non, _, _, h, q => by cases h; simp only [dat] at q; cases q; exact .non
  | .bl b, _, _, h, q => by cases h; simp only [dat] at q; cases q; exact .bl b
  | .int i, _, _, h, q => by cases h; simp only [dat] at q; cases q; exact .int i
  | .str z, _, _, h, q => by cases h; simp only [dat] at q; cases q; exact .str z
  | .tup xs, _, _, h, q => by
    cases h with
    | tup hs ha =>
      simp only [dat] at q
      obtain ⟨ds, q1, rfl⟩ := Option.map_eq_some_iff.mp q
      exact .tup (seqT_up r.i hs) (dats_ok r xs _ ds ha q1)
  | .lst xs, _, _, h, q => by
    cases h with
    | lst hs ha =>
      simp only [dat] at q
      obtain ⟨ds, q1, rfl⟩ := Option.map_eq_some_iff.mp q
      exact .lst (.inl (.inl (r.i _ _ hs))) (dats_ok r xs _ ds ha q1)
  | .kls xs, _, _, h, q => by
    cases h with
    | kls hs ha =>
      simp only [dat] at q
      obtain ⟨ds, q1, rfl⟩ := Option.map_eq_some_iff.mp q
      exact .lst (r.i.seq hs) (dats_ok r xs _ ds ha q1)
  | .obj c ns xs, _, _, h, q => by simp only [dat] at q; cases q
  | .mu n, v, d, h, q => by
    simp only [dat] at q
    split at q
    · rename_i xs q0
      obtain ⟨ds, q1, rfl⟩ := Option.map_eq_some_iff.mp q
      obtain ⟨a, vs, rfl, hs, ha⟩ := look_lst (xs := xs) r h (by unfold look; dsimp only; rw [q0])
      exact .lst hs (toDs_ok r.i xs vs ds ha q1)
    · cases q
  | .xv n, v, d, h, q => by simp only [dat] at q; cases q
theorem dats_ok (r : Rel M W H S) : ∀ (ps : List PV) (vs : List V) (ds : List D), RpA M W vs ps → dats S ps = some ds → DpAll M.K H vs ds
  | [], _, _, h, q => by cases h; simp only [dats] at q; cases q; exact .nil
  | p :: ps, _, ds, h, q => by
    cases h with
    | cons h1 h2 =>
      simp only [dats] at q
      split at q
      · rename_i d ds' q1 q2
        cases q
        exact .cons (dat_ok r p _ d h1 q1) (dats_ok r ps _ ds' h2 q2)
      · cases q
end
/-! ### operators -/
theorem okG_end {v : V} {p : PV} {Q : VK} (r : Rel M W H S) (h : Rp M W v p) (q : okG Rp M W H Q p S) : Q v H := q v W H (.refl W H) r h
def fAdd : F2 := fun S x y => match look S x, look S y with
  | .int i, .int j => some (.int (i + j))
  | .str a, .str b => if a.length + b.length ≤ 100000 then some (.str (a ++ b)) else none
  | .tup xs, .tup ys => if xs.length + ys.length ≤ 100000 then some (.tup (xs ++ ys)) else none
  | .lst xs, .lst ys => match x, y with
    | .kls _, _ => none
    | _, .kls _ => none
    | _, _ => if xs.length + ys.length ≤ 100000 then some (.lst (xs ++ ys)) else none
  | _, _ => none
theorem look_lstH (r : Rel M W H S) {v : V} {p : PV} {xs : List PV} (h : Rp M W v p) (hk : ∀ ys, p ≠ .kls ys) (e : look S p = .lst xs) : ∃ a vs, v = .ref a ∧ H a = some (.lst vs) ∧ RpA M W vs xs := by
  cases h with
  | lst hs ha => cases e; exact ⟨_, _, rfl, r.i _ _ hs, ha⟩
  | kls hs ha => exact absurd rfl (hk _)
  | @mu n a hm =>
    unfold look at e
    dsimp only at e
    cases q : S[n]? with
    | none => rw [q] at e; cases e
    | some c =>
      rw [q] at e
      cases c with
      | lst ys =>
        cases e
        obtain ⟨_, vs, h1, h2⟩ := r.c n a _ hm q
        exact ⟨a, vs, rfl, h1, h2⟩
      | obj => cases e
      | dead => cases e
  | _ => cases e
theorem ite_some {α : Type} {c : Prop} [Decidable c] {x y : α} (h : (if c then some x else none) = some y) : c ∧ x = y := by
  by_cases z : c
  · rw [if_pos z] at h; exact ⟨z, Option.some.inj h⟩
  · rw [if_neg z] at h; cases h
theorem k_add : K2 M (rAddA M.K) fAdd := fun W H S u v x y p r hx hy e Q q => by
  unfold fAdd at e
  split at e
  · rename_i i j ex ey
    cases e
    exact .inl ⟨i, j, look_int hx ex, look_int hy ey, okG_end r (.int _) q⟩
  · rename_i a b ex ey
    obtain ⟨z, rfl⟩ := ite_some e
    exact .inr (.inl ⟨a, b, look_str hx ex, look_str hy ey, big_ok z, okG_end r (.str _) q⟩)
  · rename_i xs ys ex ey
    obtain ⟨z, rfl⟩ := ite_some e
    obtain ⟨a, us, rfl, h1, h2⟩ := look_tup r hx ex
    obtain ⟨b, vs, rfl, h3, h4⟩ := look_tup r hy ey
    refine .inr (.inr (.inr ⟨a, b, us, vs, rfl, rfl, h1, h3, big_ok (by rw [rpa_len h2, rpa_len h4]; exact z), fun z => ?_, fun n z => ?_, fun n1 n2 => new_tup (.refl W H) r (rpa_app h2 h4) q⟩))
    · subst z
      cases h2
      cases hy with
      | tup hs ha => cases ey; exact okG_end r (.tup hs ha) q
      | @mu n b hm =>
        exfalso
        unfold look at ey
        dsimp only at ey
        cases w : S[n]? with
        | none => rw [w] at ey; cases ey
        | some c => rw [w] at ey; cases c <;> cases ey
      | _ => cases ey
    · subst z
      cases h4
      rw [List.append_nil] at q
      cases hx with
      | tup hs ha => cases ex; exact okG_end r (.tup hs ha) q
      | @mu n b hm =>
        exfalso
        unfold look at ex
        dsimp only at ex
        cases w : S[n]? with
        | none => rw [w] at ex; cases ex
        | some c => rw [w] at ex; cases c <;> cases ex
      | _ => cases ex
  · rename_i xs ys ex ey
    have main : (∀ ys, x ≠ .kls ys) → (∀ ys, y ≠ .kls ys) → xs.length + ys.length ≤ 100000 → p = .lst (xs ++ ys) → rAddA M.K u v H Q := fun k1 k2 z e => by
      subst e
      obtain ⟨a, us, rfl, h1, h2⟩ := look_lstH r hx k1 ex
      obtain ⟨b, vs, rfl, h3, h4⟩ := look_lstH r hy k2 ey
      exact .inr (.inr (.inl ⟨a, b, us, vs, rfl, rfl, h1, h3, big_ok (by rw [rpa_len h2, rpa_len h4]; exact z), new_lst (.refl W H) r (rpa_app h2 h4) q⟩))
    split at e
    · cases e
    · cases e
    · rename_i n1 n2
      obtain ⟨z, e⟩ := ite_some e
      exact main (fun ys q => n1 _ q) (fun ys q => n2 _ q) z e.symm
  · cases e
/-- an operator on two ints -/
def fI (C : Int → Int → Prop) [∀ i j, Decidable (C i j)] (g : Int → Int → PV) : F2 := fun S x y => match x, y with
  | .int i, .int j => if C i j then some (g i j) else none
  | _, _ => none
theorem fI_inv {C : Int → Int → Prop} [∀ i j, Decidable (C i j)] {g : Int → Int → PV} {x y p : PV} {u v : V} (hx : Rp M W u x) (hy : Rp M W v y) (e : fI C g S x y = some p) : ∃ i j, u = .int i ∧ v = .int j ∧ C i j ∧ p = g i j := by
  cases x <;> first | (cases e; done) | skip
  cases y <;> first | (cases e; done) | skip
  cases hx; cases hy
  obtain ⟨z, rfl⟩ := ite_some e
  exact ⟨_, _, rfl, rfl, z, rfl⟩
abbrev fI0 (g : Int → Int → PV) : F2 := fI (fun _ _ => True) g
theorem k_I0 {g : Int → Int → PV} {gv : Int → Int → V} (h : ∀ W i j, Rp M W (gv i j) (g i j)) : K2 M (rI0 gv) (fI0 g) := fun W H S u v x y p r hx hy e Q q => by
  obtain ⟨i, j, rfl, rfl, _, rfl⟩ := fI_inv hx hy e
  exact ⟨i, j, rfl, rfl, okG_end r (h _ _ _) q⟩
theorem k_I {C C' : Int → Int → Prop} [∀ i j, Decidable (C i j)] {g : Int → Int → PV} {gv : Int → Int → V} (hc : ∀ i j, C i j → C' i j) (h : ∀ W i j, Rp M W (gv i j) (g i j)) : K2 M (rI C' gv) (fI C g) := fun W H S u v x y p r hx hy e Q q => by
  obtain ⟨i, j, rfl, rfl, z, rfl⟩ := fI_inv hx hy e
  exact ⟨i, j, rfl, rfl, hc _ _ z, okG_end r (h _ _ _) q⟩
abbrev fSub : F2 := fI0 fun i j => .int (i - j)
abbrev fLt : F2 := fI0 fun i j => .bl (decide (i < j))
abbrev fLe : F2 := fI0 fun i j => .bl (decide (i ≤ j))
abbrev fGt : F2 := fI0 fun i j => .bl (decide (j < i))
abbrev fGe : F2 := fI0 fun i j => .bl (decide (j ≤ i))
abbrev fMul : F2 := fI (fun i j => (-18446744073709551616 < i ∧ i < 18446744073709551616) ∨ (-18446744073709551616 < j ∧ j < 18446744073709551616)) fun i j => .int (i * j)
abbrev fMod : F2 := fI (fun _ j => 0 < j) fun i j => .int (i % j)
abbrev fDiv : F2 := fI (fun _ j => 0 < j ∧ j.natAbs.log2 < 9000) fun i j => .int (i / j)
theorem k_sub : K2 M (rI0 fun i j => .int (i - j)) fSub := k_I0 fun _ _ _ => .int _
theorem k_lt : K2 M (rI0 fun i j => .bl (decide (i < j))) fLt := k_I0 fun _ _ _ => .bl _
theorem k_le : K2 M (rI0 fun i j => .bl (decide (i ≤ j))) fLe := k_I0 fun _ _ _ => .bl _
theorem k_gt : K2 M (rI0 fun i j => .bl (decide (j < i))) fGt := k_I0 fun _ _ _ => .bl _
theorem k_ge : K2 M (rI0 fun i j => .bl (decide (j ≤ i))) fGe := k_I0 fun _ _ _ => .bl _
theorem k_mul : K2 M (rI CMul fun i j => .int (i * j)) fMul := k_I (fun _ _ h => by
  have e : (2 : Int) ^ 64 = 18446744073709551616 := by decide
  unfold CMul
  rw [e]
  exact h) fun _ _ _ => .int _
theorem k_mod : K2 M (rI (fun _ j => 0 < j) fun i j => .int (i % j)) fMod := k_I (fun _ _ h => h) fun _ _ _ => .int _
theorem k_div : K2 M (rI CDivW fun i j => .int (i / j)) fDiv := k_I (fun _ _ h => h) fun _ _ _ => .int _
def fEq : F2 := fun S x y => match dat S x, dat S y with
  | some d, some e => if SeqAt.shaped d = true ∧ SeqAt.shaped e = true then some (.bl (PyData.eqv d e)) else none
  | _, _ => none
def fNe : F2 := fun S x y => match dat S x, dat S y with
  | some d, some e => if SeqAt.shaped d = true ∧ SeqAt.shaped e = true then some (.bl (!PyData.eqv d e)) else none
  | _, _ => none
theorem k_eqD : K2 M (rEqD M.K) fEq := fun W H S u v x y p r hx hy e Q q => by
  unfold fEq at e
  split at e
  · rename_i d d' h1 h2
    obtain ⟨⟨z1, z2⟩, rfl⟩ := ite_some e
    exact ⟨d, d', dat_ok r _ _ _ hx h1, dat_ok r _ _ _ hy h2, z1, z2, okG_end r (.bl _) q⟩
  · cases e
theorem k_neD : K2 M (rNeD M.K) fNe := fun W H S u v x y p r hx hy e Q q => by
  unfold fNe at e
  split at e
  · rename_i d d' h1 h2
    obtain ⟨⟨z1, z2⟩, rfl⟩ := ite_some e
    exact ⟨d, d', dat_ok r _ _ _ hx h1, dat_ok r _ _ _ hy h2, z1, z2, okG_end r (.bl _) q⟩
  · cases e
def isNonP : PV → Bool
  | .non => true
  | _ => false
theorem dec_nonP {v : V} {p : PV} (h : Rp M W v p) : decide (v = V.non) = isNonP p := by
  cases h <;> first | rfl | exact decide_eq_false (fun z => nomatch z)
def fIsN : F2 := fun S x y => if isNonP y = true then some (.bl (isNonP x)) else none
def fNotN : F2 := fun S x y => if isNonP y = true then some (.bl (!isNonP x)) else none
theorem isNon_v {v : V} {p : PV} (h : Rp M W v p) (e : isNonP p = true) : v = .non := by
  rw [← dec_nonP h] at e
  exact of_decide_eq_true e
theorem k_isN : K2 M rIsN fIsN := fun W H S u v x y p r hx hy e Q q => by
  obtain ⟨z, rfl⟩ := ite_some e
  refine ⟨isNon_v hy z, ?_⟩
  rw [dec_nonP hx]
  exact okG_end r (.bl _) q
theorem k_notN : K2 M rNotN fNotN := fun W H S u v x y p r hx hy e Q q => by
  obtain ⟨z, rfl⟩ := ite_some e
  refine ⟨isNon_v hy z, ?_⟩
  rw [dec_nonP hx]
  exact okG_end r (.bl _) q
/-- a subscript -/
def fIx : F2 := fun S x y => match look S x, y with
  | .lst xs, .int i => atI xs i
  | .tup xs, .int i => atI xs i
  | .str z, .int i => if z.length ≤ 100000 then (atI z.cps.toList i).map fun c => .str ⟨#[c]⟩ else none
  | _, _ => none
theorem atI_rel {vs : List V} {ps : List PV} {i : Int} {p : PV} (h : RpA M W vs ps) (e : atI ps i = some p) : ∃ v, atI vs i = some v ∧ Rp M W v p := by
  have l := rpa_len h
  unfold atI at e ⊢
  rw [l]
  cases q : ixN ps.length i with
  | none => rw [q] at e; cases e
  | some n =>
    rw [q] at e
    exact rpa_get h e
theorem k_ix : K2 M (rIx M.K) fIx := fun W H S u v x y p r hx hy e Q q => by
  unfold fIx at e
  split at e
  · rename_i xs i ex
    cases hy
    obtain ⟨a, vs, rfl, h1, h2⟩ := look_lst r hx ex
    obtain ⟨w, h3, h4⟩ := atI_rel h2 e
    exact .inl ⟨a, vs, i, w, rfl, rfl, h1, h3, okG_end r h4 q⟩
  · rename_i xs i ex
    cases hy
    obtain ⟨a, vs, rfl, h1, h2⟩ := look_tup r hx ex
    obtain ⟨w, h3, h4⟩ := atI_rel h2 e
    exact .inr (.inl ⟨a, vs, i, w, rfl, rfl, h1, h3, okG_end r h4 q⟩)
  · rename_i z i ex
    cases hy
    obtain ⟨zl, e⟩ : z.length ≤ 100000 ∧ (atI z.cps.toList i).map (fun c => PV.str ⟨#[c]⟩) = some p := by
      by_cases zl : z.length ≤ 100000
      · rw [if_pos zl] at e; exact ⟨zl, e⟩
      · rw [if_neg zl] at e; cases e
    obtain ⟨c, h1, rfl⟩ := Option.map_eq_some_iff.mp e
    exact .inr (.inr ⟨z, i, c, look_str hx ex, rfl, big_ok zl, h1, okG_end r (.str _) q⟩)
  · cases e
/-! ### built-ins -/
theorem rpa1 {vs : List V} {a : PV} (h : RpA M W vs [a]) : ∃ x, vs = [x] ∧ Rp M W x a := by
  cases h with | cons h1 h => cases h; exact ⟨_, rfl, h1⟩
def fLen : FC := fun xs S => match xs with
  | [x] => match look S x with
    | .lst ys => .ok (.int (ys.length : Int)) S
    | .tup ys => .ok (.int (ys.length : Int)) S
    | .str z => if z.length ≤ 100000 then .ok (.int (z.length : Int)) S else .stuck
    | _ => .stuck
  | _ => .stuck
theorem k_len : KC M (rLenA M.K) fLen := fun W H S vs xs r ha Q q => by
  unfold fLen at q
  split at q
  · rename_i x
    obtain ⟨v, rfl, hv⟩ := rpa1 ha
    split at q
    · rename_i ys e
      obtain ⟨a, us, rfl, h1, h2⟩ := look_lst r hv e
      refine ⟨_, _, rfl, .inl ⟨_, h1, rfl⟩, ?_⟩
      rw [rpa_len h2]
      exact okG_end r (.int _) q
    · rename_i ys e
      obtain ⟨a, us, rfl, h1, h2⟩ := look_tup r hv e
      refine ⟨_, _, rfl, .inr ⟨_, h1, rfl⟩, ?_⟩
      rw [rpa_len h2]
      exact okG_end r (.int _) q
    · rename_i z e
      obtain ⟨zl, q⟩ := ite_post q
      have := look_str hv e
      subst this
      exact ⟨_, _, rfl, ⟨big_ok zl, rfl⟩, okG_end r (.int _) q⟩
    · exact q.elim
  · exact q.elim
def fTuple : FC := fun xs S => match xs with
  | [x] => match look S x with
    | .lst ys => .ok (.tup ys) S
    | .tup ys => .ok (.tup ys) S
    | _ => .stuck
  | _ => .stuck
theorem k_tuple : KC M (rTupO M.K) fTuple := fun W H S vs xs r ha Q q => by
  unfold fTuple at q
  split at q
  · rename_i x
    obtain ⟨v, rfl, hv⟩ := rpa1 ha
    split at q
    · rename_i ys e
      obtain ⟨a, us, rfl, h1, h2⟩ := look_lst r hv e
      exact ⟨a, us, rfl, .inl ⟨h1, new_tup (.refl W H) r h2 q⟩⟩
    · rename_i ys e
      cases hv with
      | tup hs hh =>
        cases e
        exact ⟨_, _, rfl, .inr ⟨seqT_up r.i hs, okG_end r (.tup hs hh) q⟩⟩
      | @mu n b hm =>
        exfalso
        unfold look at e
        dsimp only at e
        cases w : S[n]? with
        | none => rw [w] at e; cases e
        | some c => rw [w] at e; cases c <;> cases e
      | _ => cases e
    · exact q.elim
  · exact q.elim
def fList : FC := fun xs S => match xs with
  | [x] => match items S x with
    | some (_, ys) => .ok (.lst ys) S
    | none => .stuck
  | _ => .stuck
def fListM : FC := fun xs S => match xs with
  | [x] => match items S x with
    | some (_, ys) => newL ys S
    | none => .stuck
  | _ => .stuck
theorem sqB_or {k : Bool} {a : Addr} {vs : List V} (h : SqB M.K k H a vs) : SqL M.K H a vs ∨ SqT M.K H a vs := by
  cases k with
  | true => exact .inl h
  | false => exact .inr h
theorem k_list : KC M (rLstO M.K) fList := fun W H S vs xs r ha Q q => by
  unfold fList at q
  split at q
  · rename_i x
    obtain ⟨v, rfl, hv⟩ := rpa1 ha
    split at q
    · rename_i k ys e
      obtain ⟨a, us, rfl, h1, h2⟩ := items_sq r hv e
      exact ⟨a, us, rfl, sqB_or h1, new_lst (.refl W H) r h2 q⟩
    · exact q.elim
  · exact q.elim
theorem k_listM : KC M (rLstO M.K) fListM := fun W H S vs xs r ha Q q => by
  unfold fListM at q
  split at q
  · rename_i x
    obtain ⟨v, rfl, hv⟩ := rpa1 ha
    split at q
    · rename_i k ys e
      obtain ⟨a, us, rfl, h1, h2⟩ := items_sq r hv e
      exact ⟨a, us, rfl, sqB_or h1, new_mu (.refl W H) r h2 q⟩
    · exact q.elim
  · exact q.elim
def bools : List PV → Option (List Bool)
  | [] => some []
  | .bl b :: ps => (bools ps).map (b :: ·)
  | _ :: _ => none
theorem bools_ok : ∀ {ps : List PV} {vs : List V} {bs : List Bool}, RpA M W vs ps → bools ps = some bs → vs = bs.map V.bl
  | [], _, _, h, e => by cases h; cases e; rfl
  | p :: ps, _, _, h, e => by
    cases h with
    | cons h1 h2 =>
      cases h1 <;> first | (simp only [bools] at e; cases e; done) | skip
      simp only [bools] at e
      obtain ⟨bs', h3, rfl⟩ := Option.map_eq_some_iff.mp e
      rw [bools_ok h2 h3]
      rfl
def fAll : FC := fun xs S => match xs with
  | [x] => match look S x with
    | .lst ys => match bools ys with
      | some bs => .ok (.bl (bs.all id)) S
      | none => .stuck
    | _ => .stuck
  | _ => .stuck
theorem k_all : KC M (rAll M.K) fAll := fun W H S vs xs r ha Q q => by
  unfold fAll at q
  split at q
  · rename_i x
    obtain ⟨v, rfl, hv⟩ := rpa1 ha
    split at q
    · rename_i ys e
      split at q
      · rename_i bs e2
        obtain ⟨a, us, rfl, h1, h2⟩ := look_lst r hv e
        have := bools_ok h2 e2
        subst this
        exact ⟨a, bs, rfl, h1, okG_end r (.bl _) q⟩
      · exact q.elim
    · exact q.elim
  · exact q.elim
def fAbs : FC := fun xs S => match xs with
  | [.int i] => .ok (.int (if i < 0 then -i else i)) S
  | _ => .stuck
theorem k_abs : KC M (fun xs H Q => ∃ i, xs = [.int i] ∧ Q (.int (if i < 0 then -i else i)) H) fAbs := fun W H S vs xs r ha Q q => by
  unfold fAbs at q
  split at q
  · obtain ⟨v, rfl, hv⟩ := rpa1 ha
    cases hv
    exact ⟨_, rfl, okG_end r (.int _) q⟩
  · exact q.elim
def fInt : FC := fun xs S => match xs with
  | [.int i] => .ok (.int i) S
  | [.bl b] => .ok (.int (if b then 1 else 0)) S
  | _ => .stuck
theorem k_int : KC M rInt1 fInt := fun W H S vs xs r ha Q q => by
  unfold fInt at q
  split at q
  · obtain ⟨v, rfl, hv⟩ := rpa1 ha
    cases hv
    exact .inl ⟨_, rfl, okG_end r (.int _) q⟩
  · obtain ⟨v, rfl, hv⟩ := rpa1 ha
    cases hv
    exact .inr ⟨_, rfl, okG_end r (.int _) q⟩
  · exact q.elim
def fRepr : FC := fun xs S => match xs with
  | [x] => match dat S x with
    | some d => if d.showable = true ∧ d.depth ≤ 60 ∧ d.shown.length ≤ 1000000 then .ok (.str d.shown) S else .stuck
    | none => .stuck
  | _ => .stuck
theorem k_repr : KC M (rReprD M.K) fRepr := fun W H S vs xs r ha Q q => by
  unfold fRepr at q
  split at q
  · rename_i x
    obtain ⟨v, rfl, hv⟩ := rpa1 ha
    split at q
    · rename_i d e
      obtain ⟨⟨h1, h2, h3⟩, q⟩ := ite_post q
      exact ⟨v, d, rfl, dat_ok r _ _ _ hv e, h1, h2, h3, okG_end r (.str _) q⟩
    · exact q.elim
  · exact q.elim
/-! ### isinstance with built-in classes -/
def tyP (S : Sta) (p : PV) : Option String := match look S p with
  | .non => some "NoneType"
  | .bl _ => some "bool"
  | .int _ => some "int"
  | .str _ => some "str"
  | .tup _ => some "tuple"
  | .lst _ => some "list"
  | _ => none
def isT (t : String) (k : Ty) : Bool := match k with
  | .int => t == "int" || t == "bool"
  | .bool => t == "bool"
  | .str => t == "str"
  | .list => t == "list"
  | .tuple => t == "tuple"
theorem tyx_lst {a : Addr} {vs : List V} {K : PySem.W.Frag} (h : SqL K H a vs) : TyX K H (.ref a) (.type "list") := by
  rcases h with (h | ⟨o, h⟩) | ⟨o, its, n, hk, hc, _⟩
  · exact .base (.lst h)
  · exact .base (.frz h)
  · exact .kList hk hc
theorem tyx_tup {a : Addr} {vs : List V} {K : PySem.W.Frag} (h : SqT K H a vs) : TyX K H (.ref a) (.type "tuple") := by
  rcases h with (h | ⟨o, h⟩) | ⟨o, its, n, hk, hc, _⟩
  · exact .base (.tup h)
  · exact .fTuple h
  · exact .kTuple hk hc
theorem look_mu {v : V} {p : PV} {n : Nat} (e : look S p = .mu n) : tyP S p = none := by
  unfold tyP
  rw [e]
theorem tyP_ok (r : Rel M W H S) {v : V} {p : PV} {t : String} (h : Rp M W v p) (e : tyP S p = some t) : TyX M.K H v (.type t) ∧ (t = "NoneType" ∨ t = "bool" ∨ t = "int" ∨ t = "str" ∨ t = "tuple" ∨ t = "list") := by
  cases h with
  | non => cases e; exact ⟨.base .non, by decide⟩
  | bl b => cases e; exact ⟨.base (.bl b), by decide⟩
  | int i => cases e; exact ⟨.base (.int i), by decide⟩
  | str z => cases e; exact ⟨.base (.str z), by decide⟩
  | tup hs ha => cases e; exact ⟨tyx_tup (seqT_up r.i hs), by decide⟩
  | lst hs ha => cases e; exact ⟨.base (.lst (r.i _ _ hs)), by decide⟩
  | kls hs ha => cases e; exact ⟨tyx_lst (r.i.seq hs), by decide⟩
  | obj => cases e
  | xv => cases e
  | @mu n a hm =>
    unfold tyP look at e
    dsimp only at e
    cases w : S[n]? with
    | none => rw [w] at e; cases e
    | some c =>
      rw [w] at e
      cases c with
      | lst xs =>
        cases e
        obtain ⟨_, vs, h1, h2⟩ := r.c n a _ hm w
        exact ⟨.base (.lst h1), by decide⟩
      | obj => cases e
      | dead => cases e
theorem kit_isT {t : String} (k : Ty) (h : t = "NoneType" ∨ t = "bool" ∨ t = "int" ∨ t = "str" ∨ t = "tuple" ∨ t = "list") : kitB t k.nm = some (isT t k) := by
  rcases h with h | h | h | h | h | h <;> subst h <;> cases k <;> decide +kernel
def IsiE (k : Ty) (ma : Env → Sta → Out PV) : Env → Sta → Out PV := fun ε S => (ma ε S).bind fun x S1 => (lift (tyP S1 x) S1).bind fun t S1 => .ok (.bl (isT t k)) S1
theorem re_isi (k : Ty) (ha : RE M W0 X ta ma) : RE M W0 X (tCB (rIsi M.K) (tCons ta (tCons (tC (.ty k.nm)) tNil))) (IsiE k ma) := fun W H S σ ε le r0 er Q q =>
  ha.thn (.refl W H) le r0 er q fun u x S1 W1 H1 g1 r1 p1 q1 => by
    rw [opost_bind] at q1
    obtain ⟨t, e, q2⟩ := opost_lift q1
    obtain ⟨h1, h2⟩ := tyP_ok r1 p1 e
    exact ⟨u, .ty k.nm, .type t, .type k.nm, isT t k, rfl, .ty k.nm, h1, kit_ty (kit_isT k h2), q2 _ W1 H1 g1 r1 (.bl _)⟩
def IsiTE (k l : Ty) (ma : Env → Sta → Out PV) : Env → Sta → Out PV := fun ε S => (ma ε S).bind fun x S1 => (lift (tyP S1 x) S1).bind fun t S1 => .ok (.bl (isT t k || isT t l)) S1
theorem re_isiT (n m : Ty) (ha : RE M W0 X ta ma) : RE M W0 X (tCB (rIsiT M.K) (tCons ta (tCons (tTup (tCons (tC (.ty n.nm)) (tCons (tC (.ty m.nm)) tNil))) tNil))) (IsiTE n m ma) := fun W H S σ ε le r0 er Q q =>
  ha.thn (.refl W H) le r0 er q fun u x S1 W1 H1 g1 r1 p1 q1 => by
    rw [opost_bind] at q1
    obtain ⟨t, e, q2⟩ := opost_lift q1
    refine ⟨by show 2 ≤ sizeLine; decide, fun p hp => ?_⟩
    obtain ⟨r2, g2⟩ := r1.new (o := .tup [.ty n.nm, .ty m.nm]) hp
    obtain ⟨h1, h2⟩ := tyP_ok r2 (rp_up g2.le _ _ p1) e
    refine ⟨u, p, _, .type t, [.type n.nm, .type m.nm], isT t n || isT t m, rfl, upd_same, .cons (.ty n.nm) (.cons (.ty m.nm) .nil), h1, ?_, q2 _ _ _ (g1.trans g2) r2 (.bl _)⟩
    refine kitAny_cons (kit_ty (kit_isT n h2)) (fun z => ?_) (fun z => by rw [z]; rfl)
    rw [z]
    refine kitAny_cons (kit_ty (kit_isT m h2)) (fun z' => ?_) (fun z' => by rw [z']; rfl)
    rw [z']
    exact kitAny_nil
/-! ### slices, join -/
def NoO : Env → Sta → Out (Option Int) := fun _ S => .ok none S
def PartO (me : Env → Sta → Out PV) : Env → Sta → Out (Option Int) := fun ε S => (me ε S).bind fun x S1 => match x with
  | .int i => .ok (some i) S1
  | _ => .stuck
theorem ro_none : RO M W0 X tNoPart NoO := fun W H S σ ε le r0 er Q q => q none W H (.refl W H) r0 rfl
theorem ro_part (h : RE M W0 X te me) : RO M W0 X (tPart te) (PartO me) := fun W H S σ ε le r0 er Q q =>
  h.thn (.refl W H) le r0 er q fun u x S1 W1 H1 g1 r1 p1 q1 => by
    split at q1
    · cases p1
      exact ⟨_, rfl, q1 _ W1 H1 g1 r1 rfl⟩
    · exact q1.elim
def cutP (xs : List PV) (lo hi : Option Int) : List PV := (xs.drop (HT.sIx xs.length 0 lo)).take (HT.sIx xs.length xs.length hi - HT.sIx xs.length 0 lo)
def fSl (S : Sta) (x : PV) (l u : Option Int) : Option PV := match look S x with
  | .lst xs => some (.lst (cutP xs l u))
  | .tup xs => some (.tup (cutP xs l u))
  | .str z => if z.length ≤ 100000 then some (.str (cutS z l u)) else none
  | _ => none
def SlE (ma : Env → Sta → Out PV) (ml mh : Env → Sta → Out (Option Int)) : Env → Sta → Out PV := fun ε S => (ma ε S).bind fun x S1 => (ml ε S1).bind fun l S2 => (mh ε S2).bind fun u S3 => lift (fSl S3 x l u) S3
theorem cut_relP {vs : List V} {ps : List PV} {l u : Option Int} (h : RpA M W vs ps) : RpA M W (cutV vs l u) (cutP ps l u) := by
  unfold cutV cutP
  rw [rpa_len h]
  exact rpa_take _ (rpa_drop _ h)
theorem look_tupB {v : V} {p : PV} {xs : List PV} (h : Rp M W v p) (e : look S p = .tup xs) : p = .tup xs := by
  cases h with
  | tup hs ha => cases e; rfl
  | @mu n a hm =>
    unfold look at e
    dsimp only at e
    cases q : S[n]? with
    | none => rw [q] at e; cases e
    | some c => rw [q] at e; cases c <;> cases e
  | _ => cases e
theorem re_sl {tl th : TO} {ml mh : Env → Sta → Out (Option Int)} (ha : RE M W0 X ta ma) (hl : RO M W0 X tl ml) (hh : RO M W0 X th mh) : RE M W0 X (tSl (rSlX M.K) ta tl th) (SlE ma ml mh) := fun W H S σ ε le r0 er Q q =>
  ha.thn (.refl W H) le r0 er q fun v x S1 W1 H1 g1 r1 p1 q1 => hl.thn g1 le r1 er q1 fun l l' S2 W2 H2 g2 r2 p2 q2 => hh.thn (g1.trans g2) le r2 er q2 fun u u' S3 W3 H3 g3 r3 p3 q3 => by
    cases p2; cases p3
    obtain ⟨p, e, q4⟩ := opost_lift q3
    have p1' := rp_up (g2.trans g3).le _ _ p1
    have g13 := (g1.trans g2).trans g3
    unfold fSl at e
    split at e
    · rename_i xs ex
      cases e
      obtain ⟨a, vs, rfl, h1, h2⟩ := look_lst r3 p1' ex
      exact .inl ⟨_, _, rfl, h1, new_lst g13 r3 (cut_relP h2) q4⟩
    · rename_i xs ex
      cases e
      have := look_tupB p1' ex
      subst this
      cases p1' with
      | tup hs hz =>
        refine .inr (.inl ⟨_, _, rfl, seqT_up r3.i hs, fun ⟨z1, z2⟩ => ?_, fun _ => new_tup g13 r3 (cut_relP hz) q4⟩)
        have el := rpa_len hz
        rw [el] at z1 z2
        have ec : cutP xs l u = xs := by
          unfold cutP
          rw [z1, z2]
          simp
        rw [ec] at q4
        exact q4 _ W3 H3 g13 r3 (.tup hs hz)
    · rename_i z ex
      obtain ⟨zl, rfl⟩ := ite_some e
      exact .inr (.inr ⟨z, look_str p1' ex, big_ok zl, q4 _ W3 H3 g13 r3 (.str _)⟩)
    · cases e
def strsP : List PV → Option (List Str)
  | [] => some []
  | .str b :: ps => (strsP ps).map (b :: ·)
  | _ :: _ => none
theorem strs_ok : ∀ {ps : List PV} {vs : List V} {bs : List Str}, RpA M W vs ps → strsP ps = some bs → vs = bs.map V.str
  | [], _, _, h, e => by cases h; cases e; rfl
  | p :: ps, _, _, h, e => by
    cases h with
    | cons h1 h2 =>
      cases h1 <;> first | (simp only [strsP] at e; cases e; done) | skip
      simp only [strsP] at e
      obtain ⟨bs', h3, rfl⟩ := Option.map_eq_some_iff.mp e
      rw [strs_ok h2 h3]
      rfl
def JoinE (ma mb : Env → Sta → Out PV) : Env → Sta → Out PV := fun ε S => (ma ε S).bind fun x S1 => match x with
  | .str a => (mb ε S1).bind fun y S2 => match items S2 y with
    | some (_, ys) => match strsP ys with
      | some zs => if (zs.map (·.length)).sum + zs.length * a.length ≤ 100000 then .ok (.str (Txt.join a zs)) S2 else .stuck
      | none => .stuck
    | none => .stuck
  | _ => .stuck
theorem re_join (ha : RE M W0 X ta ma) (hb : RE M W0 X tb mb) : RE M W0 X (tM1 (rJoin M.K) ta tb) (JoinE ma mb) := fun W H S σ ε le r0 er Q q =>
  ha.thn (.refl W H) le r0 er q fun v x S1 W1 H1 g1 r1 p1 q1 => by
    split at q1
    · rename_i a
      cases p1
      refine ⟨⟨a, rfl⟩, hb.thn g1 le r1 er q1 fun w y S2 W2 H2 g2 r2 p2 q2 => ?_⟩
      split at q2
      · rename_i k ys e
        split at q2
        · rename_i zs ez
          obtain ⟨zl, q3⟩ := ite_post q2
          obtain ⟨b, us, rfl, h1, h2⟩ := items_sq r2 p2 e
          have := strs_ok h2 ez
          subst this
          exact ⟨a, b, zs, rfl, rfl, sqB_or h1, Nat.le_trans zl (by decide), q3 _ W2 H2 (g1.trans g2) r2 (.str _)⟩
        · exact q2.elim
      · exact q2.elim
    · exact q1.elim
end
end Fx
namespace Fx
open PySem PySem.Spec PyProof.Rows L2 Co
/-! ### statements -/
def Out.flow {α : Type} (o : Out α) (ε : Env) (f : α → Sta → Flow) (_ : Tag f := Tag.mk) : Flow := match o with
  | .ok a S => f a S
  | .ex c xs S => .ex c xs ε S
  | .stuck => .stuck
structure Wsh where
  nx : Env → Sta → Prop
  rt : PV → Sta → Prop
  bk : Env → Sta → Prop
  ct : Env → Sta → Prop
  ex : String → List PV → Env → Sta → Prop
def FPost (f : Flow) (D : Wsh) : Prop := match f with
  | .nx ε S => D.nx ε S
  | .rt p S => D.rt p S
  | .bk ε S => D.bk ε S
  | .ct ε S => D.ct ε S
  | .ex c xs ε S => D.ex c xs ε S
  | .stuck => False
section
variable {M : Md} {W W' Wa W0 W1 : Wd} {H H' Ha H1 : Hp} {S S' : Sta} {σ : L2.St} {ε : Env} {X : WX}
variable {ta tb tc te : TE} {ma mb mc me : Env → Sta → Out PV} {tt uu : TT} {mt mu : Env → Sta → Out Bool} {ts tr : TA} {ms mr : Env → Sta → Out (List PV)}
def enG (M : Md) (W : Wd) (H : Hp) (N : L2.St → Hp → Prop) (ε' : Env) (S' : Sta) : Prop := ∀ σ' W' H', Go W H W' H' → Rel M W' H' S' → Er M W' σ' ε' → N σ' H'
def exS (M : Md) (W : Wd) (H : Hp) (X : WX) (c : String) (xs : List PV) (ε' : Env) (S' : Sta) : Prop := ∀ d σ' W' H', Go W H W' H' → Rel M W' H' S' → Er M W' σ' ε' → Xd M W' c xs d → X (.ref (M.AD c)) d σ' H'
theorem enG.up {N : L2.St → Hp → Prop} {ε' : Env} (h : enG M W H N ε' S) (g : Go W H W' H') : enG M W' H' N ε' S := fun σ' W2 H2 g2 r q => h σ' W2 H2 (g.trans g2) r q
theorem exS.up {c : String} {xs : List PV} {ε' : Env} (h : exS M W H X c xs ε' S) (g : Go W H W' H') : exS M W' H' X c xs ε' S := fun d σ' W2 H2 g2 r q => h d σ' W2 H2 (g.trans g2) r q
def wsh (M : Md) (W : Wd) (H : Hp) (D : Ends) (X : WX) : Wsh := ⟨enG M W H D.nx, okG Rp M W H D.rt, enG M W H D.bk, enG M W H D.ct, exS M W H X⟩
theorem FPost.up {f : Flow} {D : Ends} (h : FPost f (wsh M W H D X)) (g : Go W H W' H') : FPost f (wsh M W' H' D X) := by
  cases f with
  | nx => exact enG.up h g
  | rt => exact okG.up h g
  | bk => exact enG.up h g
  | ct => exact enG.up h g
  | ex => exact exS.up h g
  | stuck => exact h
def RS (M : Md) (W0 : Wd) (X : WX) (t : TS) (m : Env → Sta → Flow) : Prop :=
  ∀ (W : Wd) (H : Hp) (S : Sta) (σ : L2.St) (ε : Env), Le W0 W → Rel M W H S → Er M W σ ε → ∀ D : Ends, FPost (m ε S) (wsh M W H D X) → t D σ H
theorem RG.thnS {α β : Type} {R : Md → Wd → β → α → Prop} {t : L2.St → Hp → (β → Hp → Prop) → Prop} {m : Env → Sta → Out α} {f : α → Sta → Flow} {D : Ends} {Q : β → Hp → Prop} (h : RG R M W0 X t m) (g : Go Wa Ha W H) (le : Le W0 Wa) (r : Rel M W H S) (er : Er M Wa σ ε)
    (q : FPost ((m ε S).flow ε f) (wsh M Wa Ha D X)) (k : ∀ b a S' W' H', Go W H W' H' → Rel M W' H' S' → R M W' b a → FPost (f a S') (wsh M Wa Ha D X) → Q b H') : t σ H Q := by
  refine h W H S σ ε (le.trans g.le) r (er.up g.le) Q ?_
  cases e : m ε S with
  | ok a S' =>
    rw [e] at q
    exact fun b W' H' g' r' p => k b a S' W' H' g' r' p q
  | ex c xs S' =>
    rw [e] at q
    exact fun d W' H' g' r' xd => q d σ W' H' (g.trans g') r' (er.up (g.trans g').le) xd
  | stuck => rw [e] at q; exact q
theorem RS.end {t : TS} {m : Env → Sta → Flow} {D : Ends} (h : RS M W0 X t m) (g : Go Wa Ha W H) (le : Le W0 Wa) (r : Rel M W H S) (er : Er M Wa σ ε) (q : FPost (m ε S) (wsh M Wa Ha D X)) : t D σ H :=
  h W H S σ ε (le.trans g.le) r (er.up g.le) D (q.up g)
variable {t u : TS} {m m' mt' mu' : Env → Sta → Flow}
def NextS : Env → Sta → Flow := fun ε S => .nx ε S
def BreakS : Env → Sta → Flow := fun ε S => .bk ε S
def ContS : Env → Sta → Flow := fun ε S => .ct ε S
def RetNS : Env → Sta → Flow := fun _ S => .rt .non S
theorem rs_next : RS M W0 X tNext NextS := fun W H S σ ε le r er D q => q σ W H (.refl W H) r er
theorem rs_break : RS M W0 X tBreak BreakS := fun W H S σ ε le r er D q => q σ W H (.refl W H) r er
theorem rs_cont : RS M W0 X tCont ContS := fun W H S σ ε le r er D q => q σ W H (.refl W H) r er
theorem rs_retN : RS M W0 X tRetN RetNS := fun W H S σ ε le r er D q => q .non W H (.refl W H) r .non
def RetS (me : Env → Sta → Out PV) : Env → Sta → Flow := fun ε S => (me ε S).flow ε fun p S1 => .rt p S1
theorem rs_ret (h : RE M W0 X te me) : RS M W0 X (tRet te) (RetS me) := fun W H S σ ε le r er D q =>
  h.thnS (.refl W H) le r er q fun v p S1 W1 H1 g1 r1 p1 q1 => q1 v W1 H1 g1 r1 p1
def DropS (me : Env → Sta → Out PV) : Env → Sta → Flow := fun ε S => (me ε S).flow ε fun _ S1 => .nx ε S1
theorem rs_drop (h : RE M W0 X te me) : RS M W0 X (tDrop te) (DropS me) := fun W H S σ ε le r er D q =>
  h.thnS (.refl W H) le r er q fun v p S1 W1 H1 g1 r1 p1 q1 => q1 σ W1 H1 g1 r1 (er.up g1.le)
/-- targets; they raise nothing -/
abbrev MG := PV → Env → Sta → Out Env
def RTg (M : Md) (W0 : Wd) (X : WX) (t : TG) (g : MG) : Prop := ∀ (W : Wd) (H : Hp) (S : Sta) (σ : L2.St) (ε : Env) (v : V) (p : PV), Le W0 W → Rel M W H S → Er M W σ ε → Rp M W v p → ∀ N : L2.St → Hp → Prop, OPost (g p ε S) (enG M W H N) noX → t v σ H N
def NameG (i : Nat) : MG := fun p ε S => .ok (ε.set i (some p)) S
theorem rg_name {i : Nat} : RTg M W0 X (gName i) (NameG i) := fun W H S σ ε v p le r er rp N q => q _ W H (.refl W H) r (er.set rp)
def RTgs (M : Md) (W0 : Wd) (X : WX) (t : TGs) (g : List PV → Env → Sta → Out Env) : Prop := ∀ (W : Wd) (H : Hp) (S : Sta) (σ : L2.St) (ε : Env) (vs : List V) (ps : List PV), Le W0 W → Rel M W H S → Er M W σ ε → RpA M W vs ps → ∀ N : L2.St → Hp → Prop, OPost (g ps ε S) (enG M W H N) noX → t vs σ H N
def NilG : List PV → Env → Sta → Out Env := fun ps ε S => match ps with
  | [] => .ok ε S
  | _ => .stuck
def ConsG (g : MG) (gs : List PV → Env → Sta → Out Env) : List PV → Env → Sta → Out Env := fun ps ε S => match ps with
  | p :: ps => (g p ε S).bind fun ε1 S1 => gs ps ε1 S1
  | [] => .stuck
def TupG (n : Nat) (gs : List PV → Env → Sta → Out Env) : MG := fun p ε S => match p with
  | .tup ps => if ps.length = n then gs ps ε S else .stuck
  | _ => .stuck
theorem rgs_nil : RTgs M W0 X gNil NilG := fun W H S σ ε vs ps le r er rp N q => by
  cases rp with
  | nil => exact ⟨rfl, q σ W H (.refl W H) r er⟩
  | cons => exact q.elim
theorem rgs_cons {t : TG} {u : TGs} {g : MG} {gs : List PV → Env → Sta → Out Env} (h : RTg M W0 X t g) (k : RTgs M W0 X u gs) : RTgs M W0 X (gCons t u) (ConsG g gs) := fun W H S σ ε vs ps le r er rp N q => by
  cases rp with
  | nil => exact q.elim
  | cons h1 h2 =>
    refine ⟨_, _, rfl, h W H S σ ε _ _ le r er h1 _ ?_⟩
    unfold ConsG at q
    dsimp only at q
    rw [opost_bind] at q
    exact q.mono (fun ε1 S1 q σ1 W1 H1 g1 r1 er1 => k W1 H1 S1 σ1 ε1 _ _ (le.trans g1.le) r1 er1 (rpa_up g1.le _ _ h2) N (q.mono (fun ε2 S2 q => enG.up q g1) fun _ _ _ z => z)) fun _ _ _ z => z
theorem rg_tup {n : Nat} {u : TGs} {gs : List PV → Env → Sta → Out Env} (k : RTgs M W0 X u gs) : RTg M W0 X (gTup M.K n u) (TupG n gs) := fun W H S σ ε v p le r er rp N q => by
  unfold TupG at q
  split at q
  · rename_i ps
    obtain ⟨z, q⟩ := ite_post q
    cases rp with
    | tup hs ha => exact ⟨_, _, rfl, seqT_up r.i hs, by rw [rpa_len ha]; exact z, k W H S σ ε _ _ le r er ha N q⟩
  · exact q.elim
/-- x[i] = v on a list that may change -/
def quiet {α : Type} (o : Out α) : Out α := match o with
  | .ok a S => .ok a S
  | _ => .stuck
theorem quiet_post {α : Type} {o : Out α} {A : α → Sta → Prop} {E : String → List PV → Sta → Prop} (h : OPost (quiet o) A E) : ∃ a S, o = .ok a S ∧ A a S := by
  cases o with
  | ok a S => exact ⟨a, S, rfl, h⟩
  | ex => exact h.elim
  | stuck => exact h.elim
def putL (S : Sta) (o i : PV) (p : PV) : Option Sta := match o, i with
  | .mu n, .int k => match S[n]? with
    | some (.lst xs) => match ixN xs.length k with
      | some j => some (S.set n (.lst (xs.set j p)))
      | none => none
    | _ => none
  | _, _ => none
def SubG (mo mi : Env → Sta → Out PV) : MG := fun p ε S => (quiet (mo ε S)).bind fun o S1 => (quiet (mi ε S1)).bind fun i S2 => match putL S2 o i p with
  | some S3 => .ok ε S3
  | none => .stuck
theorem rg_sub (ha : RE M W0 X ta ma) (hb : RE M W0 X tb mb) : RTg M W0 X (gSub ta tb rSetL) (SubG ma mb) := fun W H S σ ε v p le r er rp N q => by
  unfold SubG at q
  rw [opost_bind] at q
  obtain ⟨o, S1, e1, q1⟩ := quiet_post q
  clear q
  refine ha W H S σ ε le r er _ ?_
  rw [e1]
  intro w W1 H1 g1 r1 p1
  rw [opost_bind] at q1
  obtain ⟨i, S2, e2, q⟩ := quiet_post q1
  clear q1
  refine hb W1 H1 S1 σ ε (le.trans g1.le) r1 (er.up g1.le) _ ?_
  rw [e2]
  intro w2 W2 H2 g2 r2 p2
  unfold putL at q
  cases o <;> first | (exact q.elim) | skip
  cases i <;> first | (exact q.elim) | skip
  rename_i n k
  have p1' := rp_up g2.le _ _ p1
  cases p2
  cases p1' with
  | @mu _ a hm =>
    dsimp only at q
    cases e3 : S2[n]? with
    | none => rw [e3] at q; exact q.elim
    | some c =>
      rw [e3] at q
      cases c with
      | lst xs =>
        dsimp only at q
        obtain ⟨nb, vs, h1, h2⟩ := r2.c n a _ hm e3
        cases e4 : ixN xs.length k with
        | none => rw [e4] at q; exact q.elim
        | some j =>
          rw [e4] at q
          refine ⟨a, vs, k, j, rfl, rfl, h1, by rw [rpa_len h2]; exact e4, ?_⟩
          obtain ⟨r3, g3⟩ := r2.put (o := .lst (vs.set j v)) (c := .lst (xs.set j p)) hm nb ⟨nb, _, upd_same, rpa_set (rp_up (g1.trans g2).le _ _ rp) j h2⟩
          exact q σ W2 _ ((g1.trans g2).trans g3) r3 (er.up ((g1.trans g2).trans g3).le)
      | obj => exact q.elim
      | dead => exact q.elim
def AsgS (me : Env → Sta → Out PV) (g : MG) : Env → Sta → Flow := fun ε S => (me ε S).flow ε fun p S1 => match g p ε S1 with
  | .ok ε' S2 => .nx ε' S2
  | _ => .stuck
theorem rs_asg {tg : TG} {g : MG} (h : RE M W0 X te me) (hg : RTg M W0 X tg g) : RS M W0 X (tAsg te tg) (AsgS me g) := fun W H S σ ε le r er D q =>
  h.thnS (.refl W H) le r er q fun v p S1 W1 H1 g1 r1 p1 q1 => by
    refine hg W1 H1 S1 σ ε v p (le.trans g1.le) r1 (er.up g1.le) p1 _ ?_
    split at q1
    · rename_i ε' S2 e
      rw [e]
      exact enG.up q1 g1
    · exact q1.elim
def SetS (i : Nat) (me : Env → Sta → Out PV) : Env → Sta → Flow := fun ε S => (me ε S).flow ε fun p S1 => .nx (ε.set i (some p)) S1
theorem rs_set {i : Nat} (h : RE M W0 X te me) : RS M W0 X (tAsg te (gName i)) (SetS i me) := fun W H S σ ε le r er D q =>
  h.thnS (.refl W H) le r er q fun v p S1 W1 H1 g1 r1 p1 q1 => q1 _ W1 H1 g1 r1 ((er.up g1.le).set p1)
def IfS (mc : Env → Sta → Out Bool) (m m' : Env → Sta → Flow) : Env → Sta → Flow := fun ε S => (mc ε S).flow ε fun b S1 => if b = true then m ε S1 else m' ε S1
theorem rs_if (h : RT M W0 X tt mt) (h1 : RS M W0 X t m) (h2 : RS M W0 X u m') : RS M W0 X (tIfS tt t u) (IfS mt m m') := fun W H S σ ε le r er D q =>
  h.thnS (.refl W H) le r er q fun b b' S1 W1 H1 g1 r1 p1 q1 => by
    cases p1
    cases b with
    | true => exact iteT (h1.end g1 le r1 er q1)
    | false => exact iteF (h2.end g1 le r1 er q1)
def Flow.then (f : Flow) (k : Env → Sta → Flow) (_ : Tag k := Tag.mk) : Flow := match f with
  | .nx ε S => k ε S
  | f => f
def SeqS (m m' : Env → Sta → Flow) : Env → Sta → Flow := fun ε S => (m ε S).then m'
theorem rs_seq (h1 : RS M W0 X t m) (h2 : RS M W0 X u m') : RS M W0 X (tSeq t u) (SeqS m m') := fun W H S σ ε le r er D q => by
  refine h1 W H S σ ε le r er _ ?_
  unfold SeqS at q
  cases e : m ε S with
  | nx ε' S' => rw [e] at q; exact fun σ' W' H' g' r' er' => h2 W' H' S' σ' ε' (le.trans g'.le) r' er' D (FPost.up q g')
  | rt p S' => rw [e] at q; exact q
  | bk ε' S' => rw [e] at q; exact q
  | ct ε' S' => rw [e] at q; exact q
  | ex c xs ε' S' => rw [e] at q; exact q
  | stuck => rw [e] at q; exact q
def AugS (i : Nat) (me : Env → Sta → Out PV) (f : F2) : Env → Sta → Flow := fun ε S => match ε[i]? with
  | some (some x) => (me ε S).flow ε fun y S1 => match f S1 x y with
    | some z => .nx (ε.set i (some z)) S1
    | none => .stuck
  | _ => .stuck
theorem rs_aug {i : Nat} {ti : TIp} {f : F2} (h : RE M W0 X te me) (hf : K2 M ti f) : RS M W0 X (tAug i te ti) (AugS i me f) := fun W H S σ ε le r er D q => by
  unfold AugS at q
  split at q
  · rename_i x ex
    obtain ⟨v, h1, h2⟩ := er.get i x ex
    refine ⟨v, h1, h.thnS (.refl W H) le r er q fun w y S1 W1 H1 g1 r1 p1 q1 => ?_⟩
    split at q1
    · rename_i z ez
      exact hf W1 H1 S1 v w x y z r1 (rp_up g1.le _ _ h2) p1 ez _ fun b W2 H2 g2 r2 p2 => q1 _ W2 H2 (g1.trans g2) r2 ((er.up (g1.trans g2).le).set p2)
    · exact q1.elim
  · exact q.elim
theorem k_ipI {f : Int → Int → Int} : K2 M (ipI f) (fI0 fun i j => .int (f i j)) := fun W H S u v x y p r hx hy e Q q => by
  obtain ⟨i, j, rfl, rfl, _, rfl⟩ := fI_inv hx hy e
  exact ⟨i, j, rfl, rfl, okG_end r (.int _) q⟩
/-! ### errors -/
/-- raise C(..), C's fields being names -/
def RaiseS (c : String) (names : List Str) (ms : Env → Sta → Out (List PV)) : Env → Sta → Flow := fun ε S => (ms ε S).flow ε fun xs S1 => if xs.length = names.length then .ex c xs ε S1 else .stuck
def Raise0S (c : String) : Env → Sta → Flow := fun ε S => .ex c [] ε S
theorem fite_post {c : Prop} [Decidable c] {f : Flow} {D : Wsh} (h : FPost (if c then f else .stuck) D) : c ∧ FPost f D := by
  by_cases z : c
  · rw [if_pos z] at h; exact ⟨z, h⟩
  · rw [if_neg z] at h; exact h.elim
theorem rs_raise {c : String} {names : List Str} (h : RA M W0 X ts ms) (hn : M.fl c = names) (hz : names.length ≤ 1000) (h0 : names ≠ []) : RS M W0 X (fun _ σ H => tMkO (M.AD c) (spIni (M.AD c) names) [] ts σ H fun cls d H' => X cls d σ H') (RaiseS c names ms) := fun W H S σ ε le r er D q =>
  h.thnS (.refl W H) le r er q fun vs xs S1 W1 H1 g1 r1 p1 q1 => by
    obtain ⟨hl, q2⟩ := fite_post q1
    have lw := rpa_len p1
    refine ⟨by omega, fun a ha => ⟨a, vs, by rw [List.append_nil], by omega, upd_same, fun dx hdx hne => ?_⟩⟩
    have hd1 : H1 dx = none := by rw [upd_ne hne] at hdx; exact hdx
    refine ⟨rfl, dx, (names.zip vs).reverse, upd_same, by rw [upd_ne hne, upd_same], hd1, ?_⟩
    have hH : upd (del (upd (upd (upd H1 a (exo a (M.AD c) none)) dx (exd dx (names.zip vs).reverse)) a (exo a (M.AD c) (some dx))) a) dx (.xd (names.zip vs).reverse) = upd H1 dx (.xd (names.zip vs).reverse) := by
      funext b
      by_cases z : b = dx
      · subst z; rw [upd_same, upd_same]
      · rw [upd_ne z, upd_ne z]
        by_cases y : b = a
        · subst y; rw [ha]; simp [del]
        · have : del (upd (upd (upd H1 a (exo a (M.AD c) none)) dx (exd dx (names.zip vs).reverse)) a (exo a (M.AD c) (some dx))) a b = upd (upd (upd H1 a (exo a (M.AD c) none)) dx (exd dx (names.zip vs).reverse)) a (exo a (M.AD c) (some dx)) b := by simp [del, y]
          rw [this, upd_ne y, upd_ne z, upd_ne y]
    rw [hH]
    obtain ⟨r2, g2⟩ := r1.new (o := .xd (names.zip vs).reverse) hd1
    exact q2 (some dx) σ _ _ (g1.trans g2) r2 (er.up (g1.trans g2).le) ⟨by rw [hn]; exact h0, vs, by rw [hn]; exact upd_same, by rw [hn]; omega, rpa_up g2.le _ _ p1⟩
theorem rs_raise0 {c : String} (hn : M.fl c = []) : RS M W0 X (fun _ σ H => (fun (_ : L2.St) (H : Hp) (Q : XK) => Q (.ref (M.AD c)) none H) σ H fun cls d H' => X cls d σ H') (Raise0S c) := fun W H S σ ε le r er D q =>
  q none σ W H (.refl W H) r er ⟨rfl, hn⟩
/-- try .. except C as e: sub c tells whether the handler is for errors of the class c -/
def unslot (i : Nat) : Flow → Flow
  | .nx ε S => .nx (ε.set i none) S
  | .bk ε S => .bk (ε.set i none) S
  | .ct ε S => .ct (ε.set i none) S
  | f => f
def TryAsS (i : Nat) (sub : String → Option Bool) (mb : Env → Sta → Flow) (ms : String → List PV → Nat → Env → Sta → Flow) : Env → Sta → Flow := fun ε S => match mb ε S with
  | .ex c xs ε' S' => match sub c with
    | some true => unslot i (ms c xs S'.length (ε'.set i (some (.xv S'.length))) (S' ++ [.dead]))
    | some false => .ex c xs ε' S'
    | none => .stuck
  | f => f
theorem rs_tryas {i : Nat} {cl : Value} {sub : String → Option Bool} {tb : WX → TS} {ts : Addr → Value → Option Addr → TS} {mb : Env → Sta → Flow} {ms : String → List PV → Nat → Env → Sta → Flow} (hb : ∀ Wx, RS M W0 Wx (tb Wx) mb) (hsub : ∀ c b, sub c = some b → PySem.W.exmOne M.K (.ref (M.AD c)) cl = some b)
    (hs : ∀ (a : Addr) (d : Option Addr) (c : String) (xs : List PV) (W1 : Wd) (n : Nat), Le W0 W1 → W1.ρ[n]? = some (.exc a) → Xd M W1 c xs d → RS M W1 X (ts a (.ref (M.AD c)) d) (ms c xs n)) :
    RS M W0 X (fun D σ H => tb (wAs M.K cl i ts X D) D σ H) (TryAsS i sub mb ms) := fun W H S σ ε le r er D q => by
  refine hb _ W H S σ ε le r er D ?_
  unfold TryAsS at q
  cases e : mb ε S with
  | nx ε' S' => rw [e] at q; exact q
  | rt p S' => rw [e] at q; exact q
  | bk ε' S' => rw [e] at q; exact q
  | ct ε' S' => rw [e] at q; exact q
  | stuck => rw [e] at q; exact q
  | ex c xs ε' S' =>
    rw [e] at q
    dsimp only at q
    intro d σ' W' H' g' r' er' xd
    cases e2 : sub c with
    | none => rw [e2] at q; exact q.elim
    | some b =>
      rw [e2] at q
      refine ⟨b, hsub c b e2, fun hb => ?_, fun hb => ?_⟩
      · subst hb
        intro a ha
        dsimp only at q
        obtain ⟨r2, g2⟩ := r'.caught a
        have hn : (W'.ρ ++ [Slot.exc a])[S'.length]? = some (.exc a) := by rw [← r'.len]; simp
        have er2 : Er M ⟨W'.B, W'.ρ ++ [.exc a]⟩ (σ'.set i (some (.ref a))) (ε'.set i (some (.xv S'.length))) := (er'.up g2.le).set (.xv hn)
        refine hs a d c xs ⟨W'.B, W'.ρ ++ [.exc a]⟩ S'.length (le.trans (g'.trans g2).le) hn (xd.up g2.le) _ _ _ _ _ (Le.refl _) r2 er2 _ ?_
        have gg := g'.trans g2
        cases e3 : ms c xs S'.length (ε'.set i (some (.xv S'.length))) (S' ++ [.dead]) with
        | nx ε3 S3 => rw [e3] at q; exact fun σ3 W3 H3 g3 r3 er3 => q _ W3 H3 (gg.trans g3) r3 er3.unset
        | bk ε3 S3 => rw [e3] at q; exact fun σ3 W3 H3 g3 r3 er3 => q _ W3 H3 (gg.trans g3) r3 er3.unset
        | ct ε3 S3 => rw [e3] at q; exact fun σ3 W3 H3 g3 r3 er3 => q _ W3 H3 (gg.trans g3) r3 er3.unset
        | rt p S3 => rw [e3] at q; exact okG.up q gg
        | ex c3 xs3 ε3 S3 => rw [e3] at q; exact exS.up q gg
        | stuck => rw [e3] at q; exact q
      · subst hb
        exact q d σ' W' H' g' r' er' xd
/-- try .. except C: -/
def TryS (sub : String → Option Bool) (mb : Env → Sta → Flow) (ms : String → List PV → Env → Sta → Flow) : Env → Sta → Flow := fun ε S => match mb ε S with
  | .ex c xs ε' S' => match sub c with
    | some true => ms c xs ε' S'
    | some false => .ex c xs ε' S'
    | none => .stuck
  | f => f
theorem rs_try {cl : Value} {sub : String → Option Bool} {tb : WX → TS} {ts : Addr → Value → Option Addr → TS} {mb : Env → Sta → Flow} {ms : String → List PV → Env → Sta → Flow} (hb : ∀ Wx, RS M W0 Wx (tb Wx) mb) (hsub : ∀ c b, sub c = some b → PySem.W.exmOne M.K (.ref (M.AD c)) cl = some b)
    (hs : ∀ (a : Addr) (d : Option Addr) (c : String) (xs : List PV), RS M W0 X (ts a (.ref (M.AD c)) d) (ms c xs)) :
    RS M W0 X (fun D σ H => tb (wOnly M.K cl ts X D) D σ H) (TryS sub mb ms) := fun W H S σ ε le r er D q => by
  refine hb _ W H S σ ε le r er D ?_
  unfold TryS at q
  cases e : mb ε S with
  | nx ε' S' => rw [e] at q; exact q
  | rt p S' => rw [e] at q; exact q
  | bk ε' S' => rw [e] at q; exact q
  | ct ε' S' => rw [e] at q; exact q
  | stuck => rw [e] at q; exact q
  | ex c xs ε' S' =>
    rw [e] at q
    dsimp only at q
    intro d σ' W' H' g' r' er' xd
    cases e2 : sub c with
    | none => rw [e2] at q; exact q.elim
    | some b =>
      rw [e2] at q
      refine ⟨b, hsub c b e2, fun hb => ?_, fun hb => ?_⟩
      · subst hb
        exact fun a ha => hs a d c xs W' H' S' σ' ε' (le.trans g'.le) r' er' D (FPost.up q g')
      · subst hb
        exact q d σ' W' H' g' r' er' xd
/-- a field of the error that was caught: the class it must be of, the number of the field -/
def XfE (c0 : String) (k : Nat) (c : String) (xs : List PV) (n i : Nat) : Env → Sta → Out PV := fun ε S => match ε[i]? with
  | some (some (.xv n')) => if n' = n ∧ c = c0 then (match xs[k]? with
    | some p => .ok p S
    | none => .stuck) else .stuck
  | _ => .stuck
theorem lookup_zip_rev {ns : List Str} {vs : List V} (hl : vs.length = ns.length) (hd : ns.Nodup) {k : Nat} {f : Str} {v : V} (h1 : ns[k]? = some f) (h2 : vs[k]? = some v) : (ns.zip vs).reverse.lookup f = some v := by
  have key : ∀ (l : List (Str × V)), (l.map Prod.fst).Nodup → (f, v) ∈ l → l.lookup f = some v := by
    intro l
    induction l with
    | nil => intro _ h; cases h
    | cons x l ih =>
      intro nd hm
      obtain ⟨y, w⟩ := x
      rw [List.map_cons, List.nodup_cons] at nd
      rcases List.mem_cons.mp hm with e | hm2
      · cases e; simp [List.lookup]
      · have ne : f ≠ y := by intro z; subst z; have hq := List.mem_map_of_mem (f := Prod.fst) hm2; exact nd.1 hq
        have nb : (f == y) = false := by simpa using ne
        rw [List.lookup_cons, nb]
        exact ih nd.2 hm2
  refine key _ ?_ ?_
  · rw [List.map_reverse, List.map_fst_zip (by omega)]
    exact List.pairwise_reverse.mpr (hd.imp Ne.symm)
  · rw [List.mem_reverse]
    refine List.mem_of_getElem? (i := k) ?_
    rw [List.getElem?_zip_eq_some]
    exact ⟨h1, h2⟩
theorem re_xf {a : Addr} {d : Option Addr} {c c0 : String} {xs : List PV} {W1 : Wd} {n i k : Nat} {f : Str} (hn : W1.ρ[n]? = some (.exc a)) (hx : Xd M W1 c xs d) (hf : (M.fl c0)[k]? = some f) (hd : (M.fl c0).Nodup) : RE M W1 X (tXf a (.ref (M.AD c)) d (M.AD c0) f (tVar i)) (XfE c0 k c xs n i) := fun W H S σ ε le r er Q q => by
  unfold XfE at q
  split at q
  · rename_i n' e
    obtain ⟨⟨rfl, rfl⟩, q2⟩ := ite_post q
    clear q
    obtain ⟨v, h1, h2⟩ := er.get i _ e
    cases h2 with
    | xv hv =>
      rw [pre_get le.ρ hn] at hv
      cases hv
      refine ⟨_, h1, rfl, rfl, ?_⟩
      cases d with
      | none =>
        obtain ⟨_, h0⟩ := hx
        rw [h0] at hf; cases hf
      | some dx =>
        obtain ⟨_, vs, b1, b2, b3⟩ := hx
        cases ep : xs[k]? with
        | none => rw [ep] at q2; exact q2.elim
        | some p =>
          rw [ep] at q2
          obtain ⟨w, c1, c2⟩ := rpa_get b3 ep
          exact ⟨dx, _, w, rfl, r.i _ _ (le.b _ _ b1), lookup_zip_rev b2 hd hf c1, okG_end r (rp_up le _ _ c2) q2⟩
  · exact q.elim
end
end Fx
namespace Fx
open PySem PySem.Spec PyProof.Rows L2 Co
/-! ### equal values -/
mutual
def beq : PV → PV → Bool
  | .non, .non => true
  | .bl a, .bl b => a == b
  | .int a, .int b => decide (a = b)
  | .str a, .str b => decide (a = b)
  | .tup xs, .tup ys => beqs xs ys
  | .lst xs, .lst ys => beqs xs ys
  | .kls xs, .kls ys => beqs xs ys
  | .obj c ns xs, .obj c' ns' xs' => decide (c = c') && decide (ns = ns') && beqs xs xs'
  | .mu n, .mu m => decide (n = m)
  | .xv n, .xv m => decide (n = m)
  | _, _ => false
def beqs : List PV → List PV → Bool
  | [], [] => true
  | p :: ps, q :: qs => beq p q && beqs ps qs
  | _, _ => false
end
mutual
theorem beq_eq : ∀ (p q : PV), beq p q = true → p = q
  | .non, q, h => by cases q <;> first | rfl | (simp [beq] at h; done)
  | .bl a, q, h => by cases q <;> first | (simp [beq] at h; done) | (simp [beq] at h; rw [h])
  | .int a, q, h => by cases q <;> first | (simp [beq] at h; done) | (simp [beq] at h; rw [h])
  | .str a, q, h => by cases q <;> first | (simp [beq] at h; done) | (simp [beq] at h; rw [h])
  | .tup xs, q, h => by cases q <;> first | (simp [beq] at h; done) | (simp only [beq] at h; rw [beqs_eq xs _ h])
  | .lst xs, q, h => by cases q <;> first | (simp [beq] at h; done) | (simp only [beq] at h; rw [beqs_eq xs _ h])
  | .kls xs, q, h => by cases q <;> first | (simp [beq] at h; done) | (simp only [beq] at h; rw [beqs_eq xs _ h])
  | .obj c ns xs, q, h => by
    cases q <;> first | (simp [beq] at h; done) | skip
    simp only [beq, Bool.and_eq_true, decide_eq_true_eq] at h
    rw [h.1.1, h.1.2, beqs_eq xs _ h.2]
  | .mu n, q, h => by cases q <;> first | (simp [beq] at h; done) | (simp [beq] at h; rw [h])
  | .xv n, q, h => by cases q <;> first | (simp [beq] at h; done) | (simp [beq] at h; rw [h])
theorem beqs_eq : ∀ (ps qs : List PV), beqs ps qs = true → ps = qs
  | [], qs, h => by cases qs <;> first | rfl | (simp [beqs] at h; done)
  | p :: ps, qs, h => by
    cases qs with
    | nil => simp [beqs] at h
    | cons q qs =>
      simp only [beqs, Bool.and_eq_true] at h
      rw [beq_eq p q h.1, beqs_eq ps qs h.2]
end
mutual
theorem beq_rfl : ∀ (p : PV), beq p p = true
  | .non => by simp [beq]
  | .bl a => by simp [beq]
  | .int a => by simp [beq]
  | .str a => by simp [beq]
  | .tup xs => by simp only [beq]; exact beqs_rfl xs
  | .lst xs => by simp only [beq]; exact beqs_rfl xs
  | .kls xs => by simp only [beq]; exact beqs_rfl xs
  | .obj c ns xs => by simp only [beq, beqs_rfl xs]; simp
  | .mu n => by simp [beq]
  | .xv n => by simp [beq]
theorem beqs_rfl : ∀ (ps : List PV), beqs ps ps = true
  | [] => by simp [beqs]
  | p :: ps => by simp only [beqs, beq_rfl p, beqs_rfl ps, Bool.and_self]
end
/-! ### what a loop walks over: the items, and the lists that must stay as they are meanwhile -/
structure IT where
  xs : List PV
  pins : List (Nat × List PV)
def Pinned (S : Sta) (pins : List (Nat × List PV)) : Prop := ∀ q, q ∈ pins → S[q.1]? = some (.lst q.2)
def pinsOk (S : Sta) (pins : List (Nat × List PV)) : Bool := pins.all fun q => match S[q.1]? with
  | some (.lst xs) => beqs xs q.2
  | _ => false
theorem pinned_of {S : Sta} {pins : List (Nat × List PV)} (h : pinsOk S pins = true) : Pinned S pins := fun q hq => by
  have := List.all_eq_true.mp h q hq
  split at this
  · rename_i xs e
    rw [e, beqs_eq _ _ this]
  · cases this
theorem pinsOk_nil {S : Sta} : pinsOk S [] = true := rfl
section
variable {M : Md} {W W' Wa W0 W1 : Wd} {H H' Ha H1 : Hp} {S S' : Sta} {σ : L2.St} {ε : Env} {X : WX}
variable {ta tb tc te : TE} {ma mb mc me : Env → Sta → Out PV} {tt uu : TT} {mt mu : Env → Sta → Out Bool} {ts tr : TA} {ms mr : Env → Sta → Out (List PV)}
def Walk (M : Md) (W : Wd) (J : L2.It) (it : IT) : Prop := ∀ (W' : Wd) (H' : Hp) (S' : Sta) (i : Nat), Le W W' → Rel M W' H' S' → Pinned S' it.pins →
  (∀ p, it.xs[i]? = some p → J.go i H' ∧ ∀ x H'', J.yld i H' x H'' → ∃ W'', Go W' H' W'' H'' ∧ Rel M W'' H'' S' ∧ Rp M W'' x p) ∧ (i = it.xs.length → J.stop i H')
theorem Walk.up {J : L2.It} {it : IT} (h : Walk M W J it) (e : Le W W') : Walk M W' J it := fun W2 H2 S2 i l r p => h W2 H2 S2 i (e.trans l) r p
abbrev RI (M : Md) (W0 : Wd) (X : WX) (wi : TI) (mi : Env → Sta → Out IT) : Prop := RG (fun M W J it => Walk M W J it) M W0 X wi mi
def Holds (M : Md) (k : Bool) (a : Addr) (it : IT) (W : Wd) : Prop := ∀ (W' : Wd) (H' : Hp) (S' : Sta), Le W W' → Rel M W' H' S' → Pinned S' it.pins → ∃ vs, SqB M.K k H' a vs ∧ RpA M W' vs it.xs
theorem Holds.up {k : Bool} {a : Addr} {it : IT} (h : Holds M k a it W) (e : Le W W') : Holds M k a it W' := fun W2 H2 S2 l r p => h W2 H2 S2 (e.trans l) r p
def seqIt (S : Sta) : PV → Option (Bool × IT)
  | .lst xs => some (true, ⟨xs, []⟩)
  | .kls xs => some (true, ⟨xs, []⟩)
  | .tup xs => some (false, ⟨xs, []⟩)
  | .mu n => match S[n]? with
    | some (.lst xs) => some (true, ⟨xs, [(n, xs)]⟩)
    | _ => none
  | _ => none
theorem holds_of {v : V} {p : PV} {k : Bool} {it : IT} (r : Rel M W H S) (h : Rp M W v p) (e : seqIt S p = some (k, it)) : ∃ a, v = .ref a ∧ Holds M k a it W := by
  cases h with
  | lst hs ha => cases e; exact ⟨_, rfl, fun W2 H2 S2 l r2 _ => ⟨_, .inl (.inl (r2.i _ _ (l.b _ _ hs))), rpa_up l _ _ ha⟩⟩
  | kls hs ha => cases e; exact ⟨_, rfl, fun W2 H2 S2 l r2 _ => ⟨_, r2.i.seq (l.b.seq hs), rpa_up l _ _ ha⟩⟩
  | tup hs ha => cases e; exact ⟨_, rfl, fun W2 H2 S2 l r2 _ => ⟨_, seqT_up (l.b.trans r2.i) hs, rpa_up l _ _ ha⟩⟩
  | @mu n a hm =>
    simp only [seqIt] at e
    split at e
    · rename_i xs q
      cases e
      refine ⟨a, rfl, fun W2 H2 S2 l r2 pn => ?_⟩
      have h1 := pn (n, xs) (by simp)
      obtain ⟨_, vs, h2, h3⟩ := r2.c n a _ (pre_get l.ρ hm) h1
      exact ⟨vs, .inl (.inl h2), h3⟩
    · cases e
  | _ => cases e
theorem walk_seq {a : Addr} {it : IT} : ∀ {k : Bool}, Holds M k a it W → Walk M W (if k = true then Itl M.K a else Itt M.K a) it
  | true, h => fun W2 H2 S2 i l r pn => by
    obtain ⟨vs, h1, h2⟩ := h W2 H2 S2 l r pn
    refine ⟨fun p hp => ?_, fun hi => ⟨vs, h1, by rw [rpa_len h2, hi]; exact Nat.le_refl _⟩⟩
    obtain ⟨w, c1, c2⟩ := rpa_get h2 hp
    refine ⟨⟨vs, w, h1, c1⟩, ?_⟩
    rintro x H3 ⟨rfl, hx⟩
    have := hx vs h1
    rw [c1] at this
    cases this
    exact ⟨W2, .refl _ _, r, c2⟩
  | false, h => fun W2 H2 S2 i l r pn => by
    obtain ⟨vs, h1, h2⟩ := h W2 H2 S2 l r pn
    refine ⟨fun p hp => ?_, fun hi => ⟨vs, h1, by rw [rpa_len h2, hi]; exact Nat.le_refl _⟩⟩
    obtain ⟨w, c1, c2⟩ := rpa_get h2 hp
    refine ⟨⟨vs, w, h1, c1⟩, ?_⟩
    rintro x H3 ⟨rfl, hx⟩
    have := hx vs h1
    rw [c1] at this
    cases this
    exact ⟨W2, .refl _ _, r, c2⟩
theorem nopin (r : Rel M W H S) {v : V} {p : PV} {k : Bool} {it : IT} (e : seqIt S p = some (k, it)) : Pinned S it.pins := by
  cases p <;> first | (cases e; done) | (cases e; exact fun q h => by cases h) | skip
  simp only [seqIt] at e
  split at e
  · rename_i xs q
    cases e
    intro q2 h
    cases List.mem_singleton.mp h
    exact q
  · cases e
def SeqI (me : Env → Sta → Out PV) : Env → Sta → Out IT := fun ε S => (me ε S).bind fun p S1 => (lift (seqIt S1 p) S1).bind fun x S1 => .ok x.2 S1
theorem ri_seq (h : RE M W0 X te me) : RI M W0 X (iSeq M.K te) (SeqI me) := fun W H S σ ε le r0 er Q q =>
  h.thn (.refl W H) le r0 er q fun v p S1 W1 H1 g1 r1 p1 q1 => by
    rw [opost_bind] at q1
    obtain ⟨⟨k, it⟩, e, q2⟩ := opost_lift q1
    obtain ⟨a, rfl, hh⟩ := holds_of r1 p1 e
    obtain ⟨vs, h1, h2⟩ := hh W1 H1 S1 (Le.refl _) r1 (nopin (v := .non) r1 e)
    have wk := walk_seq hh
    cases k with
    | true => exact ⟨a, vs, rfl, .inl ⟨h1, q2 _ W1 H1 g1 r1 wk⟩⟩
    | false => exact ⟨a, vs, rfl, .inr ⟨h1, q2 _ W1 H1 g1 r1 wk⟩⟩
/-- range -/
def intsP (lo : Int) (n : Nat) : List PV := (List.range n).map fun (i : Nat) => .int (lo + (i : Int))
theorem walk_rng {lo : Int} {n : Nat} : Walk M W (Itr lo n) ⟨intsP lo n, []⟩ := fun W2 H2 S2 i l r pn => by
  refine ⟨fun p hp => ?_, fun hi => ?_⟩
  · simp only [intsP, List.getElem?_map] at hp
    obtain ⟨j, h1, rfl⟩ := Option.map_eq_some_iff.mp hp
    obtain ⟨hl, h2⟩ := List.getElem?_eq_some_iff.mp h1
    simp at hl h2
    subst h2
    refine ⟨hl, ?_⟩
    rintro x H3 ⟨rfl, rfl⟩
    exact ⟨W2, .refl _ _, r, .int _⟩
  · simp [intsP] at hi
    show n ≤ i
    omega
def Rng1I (ms : Env → Sta → Out (List PV)) : Env → Sta → Out IT := fun ε S => (ms ε S).bind fun xs S1 => match xs with
  | [.int n] => if -4611686018427387904 ≤ n ∧ n < 4611686018427387904 then .ok ⟨intsP 0 n.toNat, []⟩ S1 else .stuck
  | _ => .stuck
theorem ri_rng1 (h : RA M W0 X ts ms) : RI M W0 X (iRng1 ts) (Rng1I ms) := fun W H S σ ε le r0 er Q q =>
  h.thn (.refl W H) le r0 er q fun vs xs S1 W1 H1 g1 r1 p1 q1 => by
    split at q1
    · rename_i n
      obtain ⟨z, q2⟩ := ite_post q1
      obtain ⟨v, rfl, hv⟩ := rpa1 p1
      cases hv
      have e : (2 : Int) ^ 62 = 4611686018427387904 := by decide
      exact ⟨n, rfl, by rw [e]; exact z.1, by rw [e]; exact z.2, q2 _ W1 H1 g1 r1 walk_rng⟩
    · exact q1.elim
theorem rpa2 {vs : List V} {a b : PV} (h : RpA M W vs [a, b]) : ∃ x y, vs = [x, y] ∧ Rp M W x a ∧ Rp M W y b := by
  cases h with | cons h1 h => cases h with | cons h2 h => cases h; exact ⟨_, _, rfl, h1, h2⟩
def Rng2I (ms : Env → Sta → Out (List PV)) : Env → Sta → Out IT := fun ε S => (ms ε S).bind fun xs S1 => match xs with
  | [.int i, .int j] => if -4611686018427387904 ≤ i ∧ i < 4611686018427387904 ∧ -4611686018427387904 ≤ j ∧ j < 4611686018427387904 then .ok ⟨intsP i (j - i).toNat, []⟩ S1 else .stuck
  | _ => .stuck
theorem ri_rng2 (h : RA M W0 X ts ms) : RI M W0 X (iRng2 ts) (Rng2I ms) := fun W H S σ ε le r0 er Q q =>
  h.thn (.refl W H) le r0 er q fun vs xs S1 W1 H1 g1 r1 p1 q1 => by
    split at q1
    · rename_i n m
      obtain ⟨z, q2⟩ := ite_post q1
      obtain ⟨v, w, rfl, hv, hw⟩ := rpa2 p1
      cases hv
      cases hw
      have e : (2 : Int) ^ 62 = 4611686018427387904 := by decide
      exact ⟨n, m, rfl, by rw [e]; exact z, q2 _ W1 H1 g1 r1 walk_rng⟩
    · exact q1.elim
/-- a text -/
def StrI (me : Env → Sta → Out PV) : Env → Sta → Out IT := fun ε S => (me ε S).bind fun p S1 => match p with
  | .str z => .ok ⟨z.cps.toList.map fun c => .str ⟨#[c]⟩, []⟩ S1
  | _ => .stuck
theorem ri_str (h : RE M W0 X te me) : RI M W0 X (iStr te) (StrI me) := fun W H S σ ε le r0 er Q q =>
  h.thn (.refl W H) le r0 er q fun v p S1 W1 H1 g1 r1 p1 q1 => by
    split at q1
    · rename_i z
      cases p1
      refine ⟨z, rfl, q1 _ W1 H1 g1 r1 fun W2 H2 S2 i l r pn => ⟨fun p hp => ?_, fun hi => ?_⟩⟩
      · simp only [List.getElem?_map] at hp
        obtain ⟨c, h1, rfl⟩ := Option.map_eq_some_iff.mp hp
        have h2 : z.cps[i]? = some c := by simpa using h1
        have hl : i < z.cps.size := (Array.getElem?_eq_some_iff.mp h2).1
        refine ⟨hl, ?_⟩
        rintro x H3 ⟨rfl, c', hc, rfl⟩
        rw [h2] at hc
        cases hc
        exact ⟨W2, .refl _ _, r, .str _⟩
      · simp at hi
        show z.cps.size ≤ i
        omega
    · exact q1.elim
/-- zip -/
def zipIt (a b : IT) : IT := ⟨(a.xs.zip b.xs).map fun q => .tup [q.1, q.2], a.pins ++ b.pins⟩
theorem walk_zip {k m : Bool} {a b : Addr} {i1 i2 : IT} (h1 : Holds M k a i1 W) (h2 : Holds M m b i2 W) : Walk M W (ItzG M.K k m a b) (zipIt i1 i2) := fun W2 H2 S2 i l r pn => by
  obtain ⟨us, a1, a2⟩ := h1 W2 H2 S2 l r fun q hq => pn q (List.mem_append_left _ hq)
  obtain ⟨ws, b1, b2⟩ := h2 W2 H2 S2 l r fun q hq => pn q (List.mem_append_right _ hq)
  have la := rpa_len a2
  have lb := rpa_len b2
  refine ⟨fun p hp => ?_, fun hi => ?_⟩
  · simp only [zipIt, List.getElem?_map] at hp
    obtain ⟨⟨x, y⟩, e1, rfl⟩ := Option.map_eq_some_iff.mp hp
    rw [List.getElem?_zip_eq_some] at e1
    obtain ⟨u, c1, c2⟩ := rpa_get a2 e1.1
    obtain ⟨w, d1, d2⟩ := rpa_get b2 e1.2
    refine ⟨⟨us, ws, u, w, a1, b1, c1, d1⟩, ?_⟩
    rintro v H3 ⟨T, x', y', rfl, hT, rfl, f1, f2⟩
    have z1 := f1 us a1
    have z2 := f2 ws b1
    rw [c1] at z1
    rw [d1] at z2
    cases z1
    cases z2
    obtain ⟨r3, g3⟩ := r.new (o := .tup [u, w]) hT
    exact ⟨_, g3, r3, .tup (.inl (.inl upd_same)) (.cons (rp_up g3.le _ _ c2) (.cons (rp_up g3.le _ _ d2) .nil))⟩
  · simp [zipIt] at hi
    exact ⟨us, ws, a1, b1, by omega, by omega, by omega⟩
def ZipI (ms : Env → Sta → Out (List PV)) : Env → Sta → Out IT := fun ε S => (ms ε S).bind fun xs S1 => match xs with
  | [x, y] => match seqIt S1 x, seqIt S1 y with
    | some (_, i1), some (_, i2) => .ok (zipIt i1 i2) S1
    | _, _ => .stuck
  | _ => .stuck
theorem ri_zip (h : RA M W0 X ts ms) : RI M W0 X (iZipG M.K ts) (ZipI ms) := fun W H S σ ε le r0 er Q q =>
  h.thn (.refl W H) le r0 er q fun vs xs S1 W1 H1 g1 r1 p1 q1 => by
    split at q1
    · rename_i x y
      obtain ⟨v, w, rfl, hv, hw⟩ := rpa2 p1
      split at q1
      · rename_i k i1 m i2 e1 e2
        obtain ⟨a, rfl, ha⟩ := holds_of r1 hv e1
        obtain ⟨b, rfl, hb⟩ := holds_of r1 hw e2
        obtain ⟨us, a1, a2⟩ := ha W1 H1 S1 (Le.refl _) r1 (nopin (v := .non) r1 e1)
        obtain ⟨ws, b1, b2⟩ := hb W1 H1 S1 (Le.refl _) r1 (nopin (v := .non) r1 e2)
        exact ⟨a, b, us, ws, k, m, rfl, a1, b1, q1 _ W1 H1 g1 r1 (walk_zip ha hb)⟩
      · exact q1.elim
    · exact q1.elim
/-- reversed -/
def RevI (me : Env → Sta → Out PV) : Env → Sta → Out IT := fun ε S => (me ε S).bind fun p S1 => (lift (seqIt S1 p) S1).bind fun x S1 => .ok ⟨x.2.xs.reverse, x.2.pins⟩ S1
theorem ri_rev (h : RE M W0 X te me) : RI M W0 X (RT.iRevA M.K te) (RevI me) := fun W H S σ ε le r0 er Q q =>
  h.thn (.refl W H) le r0 er q fun v p S1 W1 H1 g1 r1 p1 q1 => by
    rw [opost_bind] at q1
    obtain ⟨⟨k, it⟩, e, q2⟩ := opost_lift q1
    obtain ⟨a, rfl, hh⟩ := holds_of r1 p1 e
    obtain ⟨vs, h1, h2⟩ := hh W1 H1 S1 (Le.refl _) r1 (nopin (v := .non) r1 e)
    have lv := rpa_len h2
    have get : ∀ {n i : Nat} {p : PV} {us : List V} {W2 : Wd}, n = it.xs.length → RpA M W2 us it.xs → it.xs.reverse[i]? = some p → i < n ∧ ∃ w, us[n - 1 - i]? = some w ∧ Rp M W2 w p := fun {n i p us W2} hn ha hp => by
      have hi := (List.getElem?_eq_some_iff.mp hp).1
      rw [List.length_reverse] at hi
      rw [List.getElem?_reverse hi] at hp
      subst hn
      exact ⟨hi, rpa_get ha hp⟩
    cases k with
    | true =>
      refine ⟨a, vs, rfl, .inl ⟨h1, q2 _ W1 H1 g1 r1 fun W2 H2 S2 i l r pn => ?_⟩⟩
      obtain ⟨us, a1, a2⟩ := hh W2 H2 S2 l r pn
      refine ⟨fun p hp => ?_, fun hi => by show vs.length ≤ i; rw [hi, List.length_reverse, lv]; exact Nat.le_refl _⟩
      obtain ⟨hi, w, c1, c2⟩ := get lv a2 hp
      refine ⟨⟨hi, us, w, a1, c1⟩, ?_⟩
      rintro x H3 ⟨rfl, hx⟩
      have := hx us a1
      rw [c1] at this
      cases this
      exact ⟨W2, .refl _ _, r, c2⟩
    | false =>
      refine ⟨a, vs, rfl, .inr ⟨h1, q2 _ W1 H1 g1 r1 fun W2 H2 S2 i l r pn => ?_⟩⟩
      obtain ⟨us, a1, a2⟩ := hh W2 H2 S2 l r pn
      refine ⟨fun p hp => ?_, fun hi => by show vs.length ≤ i; rw [hi, List.length_reverse, lv]; exact Nat.le_refl _⟩
      obtain ⟨hi, w, c1, c2⟩ := get lv a2 hp
      refine ⟨⟨hi, us, w, a1, c1⟩, ?_⟩
      rintro x H3 ⟨rfl, hx⟩
      have := hx us a1
      rw [c1] at this
      cases this
      exact ⟨W2, .refl _ _, r, c2⟩
/-! ### for -/
def loop (g : MG) (mb : Env → Sta → Flow) (pins : List (Nat × List PV)) : List PV → Env → Sta → Flow
  | [], ε, S => if pinsOk S pins = true then .nx ε S else .stuck
  | x :: xs, ε, S => if pinsOk S pins = true then (match g x ε S with
      | .ok ε1 S1 => (match mb ε1 S1 with
        | .nx ε2 S2 => loop g mb pins xs ε2 S2
        | .ct ε2 S2 => loop g mb pins xs ε2 S2
        | .bk ε2 S2 => .nx ε2 S2
        | f => f)
      | _ => .stuck) else .stuck
def ForS (mi : Env → Sta → Out IT) (g : MG) (mb : Env → Sta → Flow) : Env → Sta → Flow := fun ε S => (mi ε S).flow ε fun it S1 => loop g mb it.pins it.xs ε S1
theorem rs_for {wi : TI} {mi : Env → Sta → Out IT} {tg : TG} {g : MG} {tb : TS} {mb : Env → Sta → Flow} (hi : RI M W0 X wi mi) (hg : RTg M W0 X tg g) (hb : RS M W0 X tb mb) : RS M W0 X (tFor wi tg tb) (ForS mi g mb) := fun W H S σ ε le r er D q =>
  hi.thnS (.refl W H) le r er q fun J it S1 W1 H1 g1 r1 wk q1 => by
    refine ⟨fun i m σ' H' => m = it.xs.length - i ∧ i ≤ it.xs.length ∧ ∃ W' S' ε', Go W H W' H' ∧ Le W1 W' ∧ Rel M W' H' S' ∧ Er M W' σ' ε' ∧ FPost (loop g mb it.pins (it.xs.drop i) ε' S') (wsh M W H D X), ⟨_, rfl, Nat.zero_le _, W1, S1, ε, g1, Le.refl _, r1, er.up g1.le, q1⟩, ?_⟩
    rintro i m σ' H' ⟨rfl, hil, W', S', ε', g', le', r', er', q'⟩
    by_cases hlt : i < it.xs.length
    · have hx : it.xs[i]? = some it.xs[i] := List.getElem?_eq_getElem hlt
      rw [List.drop_eq_getElem_cons hlt] at q'
      simp only [loop] at q'
      obtain ⟨pk, q2⟩ := fite_post q'
      obtain ⟨wgo, _⟩ := wk W' H' S' i le' r' (pinned_of pk)
      obtain ⟨hgo, hyl⟩ := wgo _ hx
      refine .inr ⟨hgo, fun σ2 H2 => i + 1 ≤ it.xs.length ∧ ∃ W' S' ε', Go W H W' H2 ∧ Le W1 W' ∧ Rel M W' H2 S' ∧ Er M W' σ2 ε' ∧ FPost (loop g mb it.pins (it.xs.drop (i + 1)) ε' S') (wsh M W H D X), fun σ2 H2 p => ⟨it.xs.length - (i + 1), by omega, rfl, p⟩, fun v H2 hy => ?_⟩
      obtain ⟨W2, g2, r2, p2⟩ := hyl v H2 hy
      have g02 := g'.trans g2
      refine hg W2 H2 S' σ' ε' v _ (le.trans g02.le) r2 (er'.up g2.le) p2 _ ?_
      cases e : g it.xs[i] ε' S' with
      | ok ε1 S3 =>
        rw [e] at q2
        intro σ3 W3 H3 g3 r3 er3
        have g03 := g02.trans g3
        refine hb W3 H3 S3 σ3 ε1 (le.trans g03.le) r3 er3 _ ?_
        dsimp only at q2
        have lew : ∀ {W4 : Wd} {H4 : Hp}, Go W3 H3 W4 H4 → Le W1 W4 := fun g4 => le'.trans ((g2.trans g3).trans g4).le
        cases e2 : mb ε1 S3 with
        | nx ε2 S4 => rw [e2] at q2; exact fun σ4 W4 H4 g4 r4 er4 => ⟨hlt, W4, S4, ε2, g03.trans g4, lew g4, r4, er4, q2⟩
        | ct ε2 S4 => rw [e2] at q2; exact fun σ4 W4 H4 g4 r4 er4 => ⟨hlt, W4, S4, ε2, g03.trans g4, lew g4, r4, er4, q2⟩
        | bk ε2 S4 => rw [e2] at q2; exact enG.up q2 g03
        | rt p S4 => rw [e2] at q2; exact okG.up q2 g03
        | ex c xs ε2 S4 => rw [e2] at q2; exact exS.up q2 g03
        | stuck => rw [e2] at q2; exact q2
      | ex c xs S3 => rw [e] at q2; exact q2.elim
      | stuck => rw [e] at q2; exact q2.elim
    · have hie : i = it.xs.length := by omega
      rw [hie, List.drop_length] at q'
      simp only [loop] at q'
      obtain ⟨pk, q2⟩ := fite_post q'
      obtain ⟨_, wst⟩ := wk W' H' S' i le' r' (pinned_of pk)
      exact .inl ⟨wst hie, q2 σ' W' H' g' r' er'⟩
/-! ### while -/
def iterW (mc : Env → Sta → Out Bool) (mb : Env → Sta → Flow) : Nat → Env → Sta → Flow
  | 0, _, _ => .stuck
  | n + 1, ε, S => (mc ε S).flow ε fun b S1 => if b = true then (match mb ε S1 with
      | .nx ε2 S2 => iterW mc mb n ε2 S2
      | .ct ε2 S2 => iterW mc mb n ε2 S2
      | .bk ε2 S2 => .nx ε2 S2
      | f => f) else .nx ε S1
theorem rs_while {tb : TS} {mb : Env → Sta → Flow} (n : Nat) (hc : RT M W0 X tt mt) (hb : RS M W0 X tb mb) : RS M W0 X (tWhile tt tb) (iterW mt mb n) := fun W H S σ ε le r er D q => by
  refine ⟨fun m σ' H' => ∃ W' S' ε', Le W W' ∧ Rel M W' H' S' ∧ Er M W' σ' ε' ∧ FPost (iterW mt mb m ε' S') (wsh M W' H' D X), ⟨n, W, S, ε, .refl W, r, er, q⟩, ?_⟩
  rintro m σ' H' ⟨W', S', ε', l', r', er', q'⟩
  cases m with
  | zero => exact q'.elim
  | succ m =>
    simp only [iterW] at q'
    refine hc.thnS (Wa := W') (Ha := H') (.refl W' H') (le.trans l') r' er' q' fun b b' S1 W1 H1 g1 r1 p1 q1 => ?_
    cases p1
    cases b with
    | true =>
      refine iteT ⟨fun σ2 H2 => ∃ W' S' ε', Le W W' ∧ Rel M W' H2 S' ∧ Er M W' σ2 ε' ∧ FPost (iterW mt mb m ε' S') (wsh M W' H2 D X), fun σ2 H2 p => ⟨m, Nat.lt_succ_self m, p⟩, ?_⟩
      refine hb W1 H1 S1 σ' ε' (le.trans (l'.trans g1.le)) r1 (er'.up g1.le) _ ?_
      rw [if_pos rfl] at q1
      have q2 := q1
      cases e2 : mb ε' S1 with
      | nx ε2 S4 => rw [e2] at q2; exact fun σ4 W4 H4 g4 r4 er4 => ⟨W4, S4, ε2, l'.trans (g1.trans g4).le, r4, er4, FPost.up q2 (g1.trans g4)⟩
      | ct ε2 S4 => rw [e2] at q2; exact fun σ4 W4 H4 g4 r4 er4 => ⟨W4, S4, ε2, l'.trans (g1.trans g4).le, r4, er4, FPost.up q2 (g1.trans g4)⟩
      | bk ε2 S4 => rw [e2] at q2; exact enG.up q2 g1
      | rt p S4 => rw [e2] at q2; exact okG.up q2 g1
      | ex c xs ε2 S4 => rw [e2] at q2; exact exS.up q2 g1
      | stuck => rw [e2] at q2; exact q2
    | false => exact iteF (q1 σ' W1 H1 g1 r1 (er'.up g1.le))
theorem iterW_mono {mb : Env → Sta → Flow} : ∀ (n k : Nat) (ε : Env) (S : Sta), iterW mt mb n ε S ≠ .stuck → iterW mt mb (n + k) ε S = iterW mt mb n ε S
  | 0, _, _, _, h => absurd rfl h
  | n + 1, k, ε, S, h => by
    rw [Nat.add_right_comm]
    simp only [iterW] at h ⊢
    cases e : mt ε S with
    | ok b S1 =>
      rw [e] at h
      simp only [Out.flow] at h ⊢
      cases b with
      | true =>
        simp only [if_true] at h ⊢
        cases e2 : mb ε S1 with
        | nx ε2 S2 => rw [e2] at h; exact iterW_mono n k ε2 S2 h
        | ct ε2 S2 => rw [e2] at h; exact iterW_mono n k ε2 S2 h
        | bk ε2 S2 => rfl
        | rt p S2 => rfl
        | ex c xs ε2 S2 => rfl
        | stuck => rfl
      | false => rfl
    | ex c xs S1 => rfl
    | stuck => rfl
/-! ### comprehensions -/
def wipeP (ε : Env) : List Nat → Env
  | [] => ε
  | i :: vs => (wipeP ε vs).set i none
theorem Er.wipe (h : Er M W σ ε) : ∀ vs : List Nat, Er M W (wipe σ vs) (wipeP ε vs)
  | [] => h
  | i :: vs => (Er.wipe h vs).unset
theorem wipe_get (σ : L2.St) (j : Nat) : ∀ vs : List Nat, (wipe σ vs)[j]? = if j ∈ vs then (σ[j]?).map (fun _ => none) else σ[j]?
  | [] => rfl
  | i :: vs => by
    show ((wipe σ vs).set i none)[j]? = _
    by_cases z : i = j
    · subst z
      have hl : (wipe σ vs).length = σ.length := by
        clear i
        induction vs with
        | nil => rfl
        | cons k vs ih => show ((wipe σ vs).set k none).length = _; rw [List.length_set, ih]
      rw [List.getElem?_set, if_pos rfl, hl]
      have hm : i ∈ i :: vs := by simp
      rw [if_pos hm]
      by_cases q : i < σ.length
      · rw [if_pos q, List.getElem?_eq_getElem q]; rfl
      · rw [if_neg q, List.getElem?_eq_none (by omega)]; rfl
    · rw [List.getElem?_set_ne z, wipe_get σ j vs]
      by_cases q : j ∈ vs
      · rw [if_pos q, if_pos (List.mem_cons_of_mem _ q)]
      · rw [if_neg q, if_neg (fun hq => by rcases List.mem_cons.mp hq with e | e; exact z e.symm; exact q e)]
theorem wipe_set {σ' : L2.St} {vs : List Nat} {j : Nat} {x : Option V} (hj : j ∈ vs) (h : wipe σ' vs = wipe σ vs) : wipe (σ'.set j x) vs = wipe σ vs := by
  rw [← h]
  apply List.ext_getElem?
  intro i
  rw [wipe_get, wipe_get]
  by_cases z : i ∈ vs
  · rw [if_pos z, if_pos z]
    by_cases e : j = i
    · subst e
      rw [List.getElem?_set, if_pos rfl]
      by_cases q : j < σ'.length
      · rw [if_pos q, List.getElem?_eq_getElem q]; rfl
      · rw [if_neg q, List.getElem?_eq_none (by omega)]
    · rw [List.getElem?_set_ne e]
  · have e : j ≠ i := fun e => z (e ▸ hj)
    rw [if_neg z, if_neg z, List.getElem?_set_ne e]
theorem wipe_wipe {vs : List Nat} : wipe (wipe σ vs) vs = wipe σ vs := by
  apply List.ext_getElem?
  intro i
  rw [wipe_get, wipe_get]
  by_cases z : i ∈ vs
  · rw [if_pos z, if_pos z]; cases σ[i]? <;> rfl
  · rw [if_neg z, if_neg z]
def RTn (M : Md) (W0 : Wd) (vs : List Nat) (t : TG) (g : MG) : Prop := ∀ (W : Wd) (H : Hp) (S : Sta) (σ0 σ : L2.St) (ε : Env) (v : V) (p : PV), Le W0 W → Rel M W H S → Er M W σ ε → Rp M W v p → wipe σ vs = wipe σ0 vs → ∀ N : L2.St → Hp → Prop, OPost (g p ε S) (enG M W H fun σ' H' => wipe σ' vs = wipe σ0 vs → N σ' H') noX → t v σ H N
def RTns (M : Md) (W0 : Wd) (ix : List Nat) (t : TGs) (g : List PV → Env → Sta → Out Env) : Prop := ∀ (W : Wd) (H : Hp) (S : Sta) (σ0 σ : L2.St) (ε : Env) (vs : List V) (ps : List PV), Le W0 W → Rel M W H S → Er M W σ ε → RpA M W vs ps → wipe σ ix = wipe σ0 ix → ∀ N : L2.St → Hp → Prop, OPost (g ps ε S) (enG M W H fun σ' H' => wipe σ' ix = wipe σ0 ix → N σ' H') noX → t vs σ H N
theorem rn_name {vs : List Nat} {i : Nat} (hi : i ∈ vs) : RTn M W0 vs (gName i) (NameG i) := fun W H S σ0 σ ε v p le r er rp hw N q => q _ W H (.refl W H) r (er.set rp) (wipe_set hi hw)
theorem rns_nil {ix : List Nat} : RTns M W0 ix gNil NilG := fun W H S σ0 σ ε vs ps le r er rp hw N q => by
  cases rp with
  | nil => exact ⟨rfl, q σ W H (.refl W H) r er hw⟩
  | cons => exact q.elim
theorem rns_cons {ix : List Nat} {t : TG} {u : TGs} {g : MG} {gs : List PV → Env → Sta → Out Env} (h : RTn M W0 ix t g) (k : RTns M W0 ix u gs) : RTns M W0 ix (gCons t u) (ConsG g gs) := fun W H S σ0 σ ε vs ps le r er rp hw N q => by
  cases rp with
  | nil => exact q.elim
  | cons h1 h2 =>
    refine ⟨_, _, rfl, h W H S σ0 σ ε _ _ le r er h1 hw _ ?_⟩
    unfold ConsG at q
    dsimp only at q
    rw [opost_bind] at q
    exact q.mono (fun ε1 S1 q σ1 W1 H1 g1 r1 er1 hw1 => k W1 H1 S1 σ0 σ1 ε1 _ _ (le.trans g1.le) r1 er1 (rpa_up g1.le _ _ h2) hw1 N (q.mono (fun ε2 S2 q => enG.up q g1) fun _ _ _ z => z)) fun _ _ _ z => z
theorem rn_tup {ix : List Nat} {n : Nat} {u : TGs} {gs : List PV → Env → Sta → Out Env} (k : RTns M W0 ix u gs) : RTn M W0 ix (gTup M.K n u) (TupG n gs) := fun W H S σ0 σ ε v p le r er rp hw N q => by
  unfold TupG at q
  split at q
  · rename_i ps
    obtain ⟨z, q⟩ := ite_post q
    cases rp with
    | tup hs ha => exact ⟨_, _, rfl, seqT_up r.i hs, by rw [rpa_len ha]; exact z, k W H S σ0 σ ε _ _ le r er ha hw N q⟩
  · exact q.elim
def YesT : Env → Sta → Out Bool := fun _ S => .ok true S
theorem rt_yes : RT M W0 X tYes YesT := fun W H S σ ε le r er Q q => q true W H (.refl W H) r rfl
def lcLoop (g : MG) (mc : Env → Sta → Out Bool) (me : Env → Sta → Out PV) (pins : List (Nat × List PV)) (ε : Env) : List PV → List PV → Sta → Out (List PV)
  | [], acc, S => if pinsOk S pins = true then .ok acc S else .stuck
  | x :: xs, acc, S => if pinsOk S pins = true then (quiet (g x ε S)).bind fun ε1 S1 => (mc ε1 S1).bind fun b S2 => if b = true then (me ε1 S2).bind fun y S3 => (if acc.length < 100000 then lcLoop g mc me pins ε xs (acc ++ [y]) S3 else .stuck) else lcLoop g mc me pins ε xs acc S2 else .stuck
def LcA (mi : Env → Sta → Out IT) (g : MG) (mc : Env → Sta → Out Bool) (me : Env → Sta → Out PV) (vs : List Nat) : Env → Sta → Out (List PV) := fun ε S => (mi ε S).bind fun it S1 => lcLoop g mc me it.pins (wipeP ε vs) it.xs [] S1
def LcE (mi : Env → Sta → Out IT) (g : MG) (mc : Env → Sta → Out Bool) (me : Env → Sta → Out PV) (vs : List Nat) : Env → Sta → Out PV := fun ε S => (LcA mi g mc me vs ε S).bind fun acc S2 => .ok (.lst acc) S2
def LcM (mi : Env → Sta → Out IT) (g : MG) (mc : Env → Sta → Out Bool) (me : Env → Sta → Out PV) (vs : List Nat) : Env → Sta → Out PV := fun ε S => (LcA mi g mc me vs ε S).bind fun acc S2 => newL acc S2
structure LcI (M : Md) (W : Wd) (H : Hp) (W1 : Wd) (D : Addr) (S' : Sta) (acc : List PV) (W' : Wd) (H' : Hp) : Prop where
  g : Go W H W' H'
  l : Le W1 W'
  r : Rel M W' H' S'
  nb : W'.B D = none
  nr : Slot.own D ∉ W'.ρ
  at' : ∃ vs, H' D = some (.lst vs) ∧ RpA M W' vs acc
theorem LcI.step {D : Addr} {acc : List PV} {W2 : Wd} {H2 : Hp} (i : LcI M W H W1 D S acc W' H') (g : Go W' H' W2 H2) (r : Rel M W2 H2 S') : LcI M W H W1 D S' acc W2 H2 := by
  obtain ⟨vs, h1, h2⟩ := i.at'
  obtain ⟨x1, x2, x3⟩ := g.p D i.nb i.nr (by rw [h1]; intro z; cases z)
  exact ⟨i.g.trans g, i.l.trans g.le, r, x1, x2, vs, x3.trans h1, rpa_up g.le _ _ h2⟩
theorem re_lcA {wi : TI} {mi : Env → Sta → Out IT} {tg : TG} {g : MG} {vs : List Nat} {Xi : WX} {Q : VK} (hi : RI M W0 X wi mi) (hg : RTn M W0 vs tg g) (hc : RT M W0 Xi tt mt) (he : RE M W0 Xi te me) (hX : ∀ cls d σ σ' H, X cls d σ H → Xi cls d σ' H) (le : Le W0 W) (r : Rel M W H S) (er : Er M W σ ε)
    (q : OPost (LcA mi g mt me vs ε S) (fun acc S2 => ∀ (D : Addr) (W1 W' : Wd) (H' : Hp), H D = none → LcI M W H W1 D S2 acc W' H' → Q (.ref D) H') (exE M W H (atσ X σ))) : tLc wi tg tt te vs σ H Q := by
  unfold LcA at q
  refine hi.thn (.refl W H) le r er q fun J it S1 W1 H1 g1 r1 wk q1 => ?_
  intro D hD
  have hHD : H D = none ∨ H D ≠ none := by cases H D <;> simp
  have nbD := r1.none_b hD
  have nrD := r1.none_ρ hD
  have hD0 : H D = none := by
    cases e : H D with
    | none => rfl
    | some o =>
      exfalso
      by_cases hb : W.B D = none
      · by_cases hr : Slot.own D ∈ W.ρ
        · exact nrD (g1.ρ.subset hr)
        · have := (g1.p D hb hr (by rw [e]; intro z; cases z)).2.2
          rw [hD, e] at this; cases this
      · cases eb : W.B D with
        | none => exact hb eb
        | some o' => have := g1.b D o' eb; rw [nbD] at this; cases this
  obtain ⟨r1', gg⟩ := r1.priv (p := D) (o := .lst []) nbD nrD
  have i0 : LcI M W H W1 D S1 [] W1 (upd H1 D (.lst [])) := ⟨gg W H hD0 g1, Le.refl _, r1', nbD, nrD, [], upd_same, .nil⟩
  refine ⟨fun i m H' => m = it.xs.length - i ∧ i ≤ it.xs.length ∧ ∃ W' S' acc, LcI M W H W1 D S' acc W' H' ∧ OPost (lcLoop g mt me it.pins (wipeP ε vs) (it.xs.drop i) acc S') (fun acc S2 => ∀ (D : Addr) (W1 W' : Wd) (H' : Hp), H D = none → LcI M W H W1 D S2 acc W' H' → Q (.ref D) H') (exE M W H (atσ X σ)), ⟨_, rfl, Nat.zero_le _, W1, S1, [], i0, q1⟩, ?_⟩
  rintro i m H' ⟨rfl, hil, W', S', acc, hI, q'⟩
  by_cases hlt : i < it.xs.length
  · have hx : it.xs[i]? = some it.xs[i] := List.getElem?_eq_getElem hlt
    rw [List.drop_eq_getElem_cons hlt] at q'
    simp only [lcLoop] at q'
    obtain ⟨pk, q2⟩ := ite_post q'
    obtain ⟨wgo, _⟩ := wk W' H' S' i hI.l hI.r (pinned_of pk)
    obtain ⟨hgo, hyl⟩ := wgo _ hx
    refine .inr ⟨hgo, fun H2 => i + 1 ≤ it.xs.length ∧ ∃ W' S' acc, LcI M W H W1 D S' acc W' H2 ∧ OPost (lcLoop g mt me it.pins (wipeP ε vs) (it.xs.drop (i + 1)) acc S') (fun acc S2 => ∀ (D : Addr) (W1 W' : Wd) (H' : Hp), H D = none → LcI M W H W1 D S2 acc W' H' → Q (.ref D) H') (exE M W H (atσ X σ)), fun H2 p => ⟨it.xs.length - (i + 1), by omega, rfl, p⟩, fun v H2 hy => ?_⟩
    obtain ⟨W2, g2, r2, p2⟩ := hyl v H2 hy
    have I2 := hI.step g2 r2
    rw [opost_bind] at q2
    obtain ⟨ε1, S3, e, q3⟩ := quiet_post q2
    refine hg W2 H2 S' σ (wipe σ vs) (wipeP ε vs) v _ (le.trans I2.g.le) r2 ((er.up I2.g.le).wipe vs) p2 wipe_wipe _ ?_
    rw [e]
    intro σ3 W3 H3 g3 r3 er3 hw3
    have I3 := I2.step g3 r3
    refine ⟨hw3, ?_⟩
    rw [opost_bind] at q3
    refine hc W3 H3 S3 σ3 ε1 (le.trans I3.g.le) r3 er3 _ (q3.mono (fun b S4 q4 b' W4 H4 g4 r4 p4 => ?_) fun c xs S4 z d W4 H4 g4 r4 xd => hX _ _ _ _ _ (z d W4 H4 (I3.g.trans g4) r4 xd))
    cases p4
    have I4 := I3.step g4 r4
    cases b with
    | true =>
      refine iteT ?_
      rw [if_pos rfl] at q4
      have q5 := q4
      rw [opost_bind] at q5
      refine he W4 H4 S4 σ3 ε1 (le.trans I4.g.le) r4 (er3.up g4.le) _ (q5.mono (fun y S5 q6 w W5 H5 g5 r5 p5 => ?_) fun c xs S5 z d W5 H5 g5 r5 xd => hX _ _ _ _ _ (z d W5 H5 (I4.g.trans g5) r5 xd))
      have I5 := I4.step g5 r5
      obtain ⟨hz, q7⟩ := ite_post q6
      obtain ⟨us, b1, b2⟩ := I5.at'
      obtain ⟨r6, gp⟩ := r5.priv (p := D) (o := .lst (us ++ [w])) I5.nb I5.nr
      exact ⟨us, b1, Nat.lt_of_lt_of_le (by rw [rpa_len b2]; exact hz) (by decide), hlt, W5, S5, acc ++ [y], ⟨gp W H hD0 I5.g, I5.l, r6, I5.nb, I5.nr, _, upd_same, rpa_app b2 (.cons p5 .nil)⟩, q7⟩
    | false => exact iteF ⟨hlt, W4, S4, acc, I4, q4⟩
  · have hie : i = it.xs.length := by omega
    rw [hie, List.drop_length] at q'
    simp only [lcLoop] at q'
    obtain ⟨pk, q2⟩ := ite_post q'
    obtain ⟨_, wst⟩ := wk W' H' S' i hI.l hI.r (pinned_of pk)
    exact .inl ⟨wst hie, q2 D W1 W' H' hD0 hI⟩
theorem re_lc {wi : TI} {mi : Env → Sta → Out IT} {tg : TG} {g : MG} {vs : List Nat} {Xi : WX} (hi : RI M W0 X wi mi) (hg : RTn M W0 vs tg g) (hc : RT M W0 Xi tt mt) (he : RE M W0 Xi te me) (hX : ∀ cls d σ σ' H, X cls d σ H → Xi cls d σ' H) : RE M W0 X (tLc wi tg tt te vs) (LcE mi g mt me vs) := fun W H S σ ε le r er Q q => by
  unfold LcE at q
  rw [opost_bind] at q
  refine re_lcA hi hg hc he hX le r er (q.mono (fun acc S2 q D W1 W' H' hD I => ?_) fun _ _ _ z => z)
  obtain ⟨us, b1, b2⟩ := I.at'
  obtain ⟨r2, g2⟩ := I.r.adopt b1 I.nb I.nr
  have gg := g2 W H hD I.g
  have lw : Le W' ⟨upd W'.B D (.lst us), W'.ρ⟩ := ⟨fun a u z => by show upd W'.B D (.lst us) a = some u; rw [upd_ne (ne_of_none z I.nb)]; exact z, List.prefix_refl _⟩
  exact q _ _ H' gg r2 (.lst upd_same (rpa_up lw _ _ b2))
theorem re_lcM {wi : TI} {mi : Env → Sta → Out IT} {tg : TG} {g : MG} {vs : List Nat} {Xi : WX} (hi : RI M W0 X wi mi) (hg : RTn M W0 vs tg g) (hc : RT M W0 Xi tt mt) (he : RE M W0 Xi te me) (hX : ∀ cls d σ σ' H, X cls d σ H → Xi cls d σ' H) : RE M W0 X (tLc wi tg tt te vs) (LcM mi g mt me vs) := fun W H S σ ε le r er Q q => by
  unfold LcM at q
  rw [opost_bind] at q
  refine re_lcA hi hg hc he hX le r er (q.mono (fun acc S2 q D W1 W' H' hD I => ?_) fun _ _ _ z => z)
  obtain ⟨us, b1, b2⟩ := I.at'
  have lw : Le W' ⟨W'.B, W'.ρ ++ [.own D]⟩ := ⟨Same.refl _, List.prefix_append _ _⟩
  obtain ⟨r2, g2⟩ := I.r.adoptC (c := .lst acc) b1 I.nr ⟨I.nb, us, b1, rpa_up lw _ _ b2⟩
  refine q _ _ H' (g2 W H hD I.g) r2 (.mu ?_)
  rw [← I.r.len]
  simp
end
end Fx
namespace Fx
open PySem PySem.Spec PyProof.Rows L2 Co
section
variable {M : Md} {W W' Wa W0 W1 : Wd} {H H' Ha H1 : Hp} {S S' : Sta} {σ : L2.St} {ε : Env} {X : WX}
variable {ta tb tc te : TE} {ma mb mc me : Env → Sta → Out PV} {tt uu : TT} {mt mu : Env → Sta → Out Bool} {ts tr : TA} {ms mr : Env → Sta → Out (List PV)}
/-! ### more operators -/
def scalP : PV → PV → Option Bool
  | .int i, .int j => some (decide (i = j))
  | .str i, .str j => some (decide (i = j))
  | .bl i, .bl j => some (decide (i = j))
  | _, _ => none
def fEqA : F2 := fun S x y => match scalP x y with
  | some b => some (.bl b)
  | none => fEq S x y
def fNeA : F2 := fun S x y => match scalP x y with
  | some b => some (.bl (!b))
  | none => fNe S x y
theorem scalP_ok {u v : V} {x y : PV} {b : Bool} (hx : Rp M W u x) (hy : Rp M W v y) (e : scalP x y = some b) : ∀ H : Hp, scal u v = true ∧ decide (u = v) = b := by
  cases hx <;> first | (cases e; done) | skip
  · cases hy <;> first | (cases e; done) | skip
    simp only [scalP, Option.some.injEq] at e
    subst e
    exact fun _ => ⟨rfl, by simp⟩
  · cases hy <;> first | (cases e; done) | skip
    simp only [scalP, Option.some.injEq] at e
    subst e
    exact fun _ => ⟨rfl, by simp⟩
  · cases hy <;> first | (cases e; done) | skip
    simp only [scalP, Option.some.injEq] at e
    subst e
    exact fun _ => ⟨rfl, by simp⟩
theorem k_eqA : K2 M (rEqA M.K) fEqA := fun W H S u v x y p r hx hy e Q q => by
  unfold fEqA at e
  split at e
  · rename_i b eb
    cases e
    obtain ⟨h1, h2⟩ := scalP_ok hx hy eb H
    exact .inr ⟨h1, by rw [h2]; exact okG_end r (.bl _) q⟩
  · exact .inl (k_eqD W H S u v x y p r hx hy e Q q)
theorem k_neA : K2 M (rNeA M.K) fNeA := fun W H S u v x y p r hx hy e Q q => by
  unfold fNeA at e
  split at e
  · rename_i b eb
    cases e
    obtain ⟨h1, h2⟩ := scalP_ok hx hy eb H
    exact .inr ⟨h1, by rw [h2]; exact okG_end r (.bl _) q⟩
  · exact .inl (k_neD W H S u v x y p r hx hy e Q q)
abbrev fPow : F2 := fI (fun i j => 0 ≤ j ∧ j ≤ 1000000 ∧ i.natAbs < 18446744073709551616) fun i j => .int (i ^ j.toNat)
theorem k_pow : K2 M (rI CPow fun i j => .int (i ^ j.toNat)) fPow := k_I (fun _ _ h => by
  have e : (2 : Nat) ^ 64 = 18446744073709551616 := by decide
  unfold CPow
  rw [e]
  exact h) fun _ _ _ => .int _
def fInS : F2 := fun S x y => match x, y with
  | .str c, .str z => match c.cps.toList with
    | [n] => some (.bl (decide (n ∈ z.cps.toList)))
    | _ => none
  | _, _ => none
theorem k_inS : K2 M rInS fInS := fun W H S u v x y p r hx hy e Q q => by
  unfold fInS at e
  split at e
  · rename_i c z
    cases hx; cases hy
    split at e
    · rename_i n en
      cases e
      have : c = ⟨#[n]⟩ := by
        cases c with
        | mk cps =>
          congr 1
          apply Array.ext'
          simpa using en
      subst this
      exact ⟨n, z, rfl, rfl, okG_end r (.bl _) q⟩
    · cases e
  · cases e
def fIsB : F2 := fun S x y => match x, y with
  | .bl a, .bl b => some (.bl (decide (a = b)))
  | _, _ => none
theorem k_isB : K2 M rIsB fIsB := fun W H S u v x y p r hx hy e Q q => by
  unfold fIsB at e
  split at e
  · cases e
    cases hx; cases hy
    exact ⟨_, _, rfl, rfl, okG_end r (.bl _) q⟩
  · cases e
def NegE (me : Env → Sta → Out PV) : Env → Sta → Out PV := fun ε S => (me ε S).bind fun x S1 => match x with
  | .int i => .ok (.int (-i)) S1
  | _ => .stuck
theorem re_neg (h : RE M W0 X te me) : RE M W0 X (tUn (rU fun i => V.int (-i)) te) (NegE me) := fun W H S σ ε le r0 er Q q =>
  h.thn (.refl W H) le r0 er q fun v p S1 W1 H1 g1 r1 p1 q1 => by
    split at q1
    · cases p1
      exact ⟨_, rfl, q1 _ W1 H1 g1 r1 (.int _)⟩
    · exact q1.elim
theorem rpa_intsP {ns : List Int} : RpA M W (ns.map V.int) (ns.map .int) := by
  induction ns with
  | nil => exact .nil
  | cons n ns ih => exact .cons (.int n) ih
/-- list(range(n)) -/
def LrgE (me : Env → Sta → Out PV) : Env → Sta → Out PV := fun ε S => (me ε S).bind fun x S1 => match x with
  | .int n => if -1000 ≤ n ∧ n ≤ 90000 then .ok (.lst (intsP 0 n.toNat)) S1 else .stuck
  | _ => .stuck
theorem re_lrg (h : RE M W0 X te me) : RE M W0 X (tLstRg (tRg1 te)) (LrgE me) := fun W H S σ ε le r0 er Q q =>
  h.thn (.refl W H) le r0 er q fun v p S1 W1 H1 g1 r1 p1 q1 => by
    split at q1
    · rename_i n
      obtain ⟨z, q2⟩ := ite_post q1
      cases p1
      refine ⟨n, rfl, ⟨by omega, by omega, by omega, by omega, by omega⟩, new_lst g1 r1 (xs := intsP 0 n.toNat) ?_ q2⟩
      have hv : rgV 0 n = ((List.range n.toNat).map fun (i : Nat) => (i : Int)).map V.int := by simp [rgV]
      have hd : intsP 0 n.toNat = ((List.range n.toNat).map fun (i : Nat) => (i : Int)).map PV.int := by simp [intsP]
      rw [hv, hd]
      exact rpa_intsP
    · exact q1.elim
/-- tuple(reversed(l)) -/
def TrvE (me : Env → Sta → Out PV) : Env → Sta → Out PV := fun ε S => (me ε S).bind fun x S1 => match look S1 x with
  | .lst xs => .ok (.tup xs.reverse) S1
  | _ => .stuck
theorem rpa_rev {vs : List V} {ps : List PV} (h : RpA M W vs ps) : RpA M W vs.reverse ps.reverse := by
  induction vs generalizing ps with
  | nil => cases h; exact .nil
  | cons v vs ih => cases h with | cons h1 h2 => rw [List.reverse_cons, List.reverse_cons]; exact rpa_app (ih h2) (.cons h1 .nil)
theorem re_trv (h : RE M W0 X te me) : RE M W0 X (RT.tTupRev M.K te) (TrvE me) := fun W H S σ ε le r0 er Q q =>
  h.thn (.refl W H) le r0 er q fun v p S1 W1 H1 g1 r1 p1 q1 => by
    split at q1
    · rename_i xs e
      obtain ⟨a, vs, rfl, h1, h2⟩ := look_lst r1 p1 e
      exact ⟨a, vs, rfl, h1, new_tup g1 r1 (rpa_rev h2) q1⟩
    · exact q1.elim
/-- p.append(e), p a list that may change -/
def AppE (mo me : Env → Sta → Out PV) : Env → Sta → Out PV := fun ε S => (mo ε S).bind fun o S1 => match o with
  | .mu n => match S1[n]? with
    | some (.lst _) => (me ε S1).bind fun p S2 => match S2[n]? with
      | some (.lst xs) => if xs.length < 100000 then .ok .non (S2.set n (.lst (xs ++ [p]))) else .stuck
      | _ => .stuck
    | _ => .stuck
  | _ => .stuck
theorem re_app (ho : RE M W0 X ta ma) (h : RE M W0 X te me) : RE M W0 X (tBM M.K "list" rAppend ta (tCons te tNil)) (AppE ma me) := fun W H S σ ε le r0 er Q q =>
  ho.thn (.refl W H) le r0 er q fun v o S1 W1 H1 g1 r1 p1 q1 => by
    split at q1
    · rename_i n
      cases p1 with
      | @mu _ a hm =>
        split at q1
        · rename_i ys ey
          obtain ⟨_, us, b1, _⟩ := r1.c n a _ hm ey
          refine ⟨.inl ⟨rfl, us, SqL.of b1⟩, ?_⟩
          refine h.thn g1 le r1 er q1 fun w p S2 W2 H2 g2 r2 p2 q2 => ?_
          split at q2
          · rename_i xs ex
            obtain ⟨z, q3⟩ := ite_post q2
            have hm2 := pre_get g2.ρ hm
            obtain ⟨nb, vs, c1, c2⟩ := r2.c n a _ hm2 ex
            obtain ⟨r3, g3⟩ := r2.put (o := .lst (vs ++ [w])) (c := .lst (xs ++ [p])) hm2 nb ⟨nb, _, upd_same, rpa_app c2 (.cons p2 .nil)⟩
            exact ⟨a, vs, w, rfl, rfl, c1, Nat.lt_of_lt_of_le (by rw [rpa_len c2]; exact z) (by decide), q3 _ W2 _ ((g1.trans g2).trans g3) r3 .non⟩
          · exact q2.elim
        · exact q1.elim
    · exact q1.elim
/-! ### leaving a scope: what was made within it never changes again, and its cells go -/
mutual
def clean (k : Nat) : PV → Bool
  | .tup xs => cleans k xs
  | .lst xs => cleans k xs
  | .kls xs => cleans k xs
  | .obj _ _ xs => cleans k xs
  | .mu n => decide (n < k)
  | .xv n => decide (n < k)
  | _ => true
def cleans (k : Nat) : List PV → Bool
  | [] => true
  | p :: ps => clean k p && cleans k ps
end
mutual
def frz (k : Nat) (S : Sta) : PV → Option PV
  | .tup xs => (frzs k S xs).map .tup
  | .lst xs => (frzs k S xs).map .lst
  | .kls xs => (frzs k S xs).map .kls
  | .obj c ns xs => (frzs k S xs).map (.obj c ns)
  | .mu n => if n < k then some (.mu n) else match S[n]? with
    | some (.lst xs) => if cleans k xs = true then some (.lst xs) else none
    | some (.obj c ns xs) => if cleans k xs = true then some (.obj c ns xs) else none
    | _ => none
  | .xv n => if n < k then some (.xv n) else none
  | p => some p
def frzs (k : Nat) (S : Sta) : List PV → Option (List PV)
  | [] => some []
  | p :: ps => match frz k S p, frzs k S ps with
    | some q, some qs => some (q :: qs)
    | _, _ => none
end
def frzC (k : Nat) (S : Sta) : Cell → Option Cell
  | .lst xs => (frzs k S xs).map .lst
  | .obj c ns xs => (frzs k S xs).map (.obj c ns)
  | .dead => some .dead
def frzCs (k : Nat) (S : Sta) : List Cell → Option (List Cell)
  | [] => some []
  | c :: cs => match frzC k S c, frzCs k S cs with
    | some q, some qs => some (q :: qs)
    | _, _ => none
/-- values and state, when the cells from k on go -/
def leave (k : Nat) (ps : List PV) (S : Sta) : Option (List PV × Sta) := if S.length ≤ k then some (ps, S) else match frzs k S ps, frzCs k S (S.take k) with
  | some qs, some T => some (qs, T)
  | _, _ => none
/-- the cells that stay as they are -/
def still (k : Nat) (S : Sta) (n : Nat) : Prop := k ≤ n ∧ match S[n]? with
  | some (.lst xs) => cleans k xs = true
  | some (.obj _ _ xs) => cleans k xs = true
  | _ => False
open Classical in
noncomputable def shut (W : Wd) (H : Hp) (S : Sta) (k : Nat) : Wd := ⟨fun a => if ∃ n, W.ρ[n]? = some (.own a) ∧ still k S n then H a else W.B a, W.ρ.take k⟩
theorem shut_b (r : Rel M W H S) (k : Nat) : Same W.B (shut W H S k).B := fun a o q => by
  unfold shut
  dsimp only
  split
  · exact r.i a o q
  · exact q
theorem take_get {α : Type} {xs : List α} {k n : Nat} {a : α} (h : xs[n]? = some a) (hk : n < k) : (xs.take k)[n]? = some a := by
  rw [List.getElem?_take, if_pos hk]; exact h
theorem get_take {α : Type} {xs : List α} {k n : Nat} {a : α} (h : (xs.take k)[n]? = some a) : n < k ∧ xs[n]? = some a := by
  rw [List.getElem?_take] at h
  by_cases z : n < k
  · rw [if_pos z] at h; exact ⟨z, h⟩
  · rw [if_neg z] at h; cases h
mutual
theorem clean_rp (r : Rel M W H S) (k : Nat) : ∀ (p : PV) (v : V), Rp M W v p → clean k p = true → Rp M (shut W H S k) v p
  | .non, _, h, _ => by cases h; exact .non
  | .bl b, _, h, _ => by cases h; exact .bl b
  | .int i, _, h, _ => by cases h; exact .int i
  | .str z, _, h, _ => by cases h; exact .str z
  | .tup xs, _, h, c => by
    cases h with
    | tup hs ha => exact .tup (seqT_up (shut_b r k) hs) (cleans_rp r k xs _ ha (by simpa only [clean] using c))
  | .lst xs, _, h, c => by
    cases h with
    | lst hs ha => exact .lst (shut_b r k _ _ hs) (cleans_rp r k xs _ ha (by simpa only [clean] using c))
  | .kls xs, _, h, c => by
    cases h with
    | kls hs ha => exact .kls ((shut_b r k).seq hs) (cleans_rp r k xs _ ha (by simpa only [clean] using c))
  | .obj _ _ xs, _, h, c => by
    cases h with
    | obj h1 h2 h3 ha => exact .obj (shut_b r k _ _ h1) (shut_b r k _ _ h2) h3 (cleans_rp r k xs _ ha (by simpa only [clean] using c))
  | .mu n, _, h, c => by
    cases h with
    | mu h => exact .mu (take_get h (by simpa only [clean, decide_eq_true_eq] using c))
  | .xv n, _, h, c => by
    cases h with
    | xv h => exact .xv (take_get h (by simpa only [clean, decide_eq_true_eq] using c))
theorem cleans_rp (r : Rel M W H S) (k : Nat) : ∀ (ps : List PV) (vs : List V), RpA M W vs ps → cleans k ps = true → RpA M (shut W H S k) vs ps
  | [], _, h, _ => by cases h; exact .nil
  | p :: ps, _, h, c => by
    cases h with
    | cons h1 h2 =>
      simp only [cleans, Bool.and_eq_true] at c
      exact .cons (clean_rp r k p _ h1 c.1) (cleans_rp r k ps _ h2 c.2)
end
theorem shut_at (r : Rel M W H S) {k n : Nat} {a : Addr} (h : W.ρ[n]? = some (.own a)) (st : still k S n) : (shut W H S k).B a = H a := by
  unfold shut
  dsimp only
  rw [if_pos ⟨n, h, st⟩]
mutual
theorem frz_rp (r : Rel M W H S) (k : Nat) : ∀ (p q : PV) (v : V), Rp M W v p → frz k S p = some q → Rp M (shut W H S k) v q
  | .non, _, _, h, e => by simp only [frz, Option.some.injEq] at e; subst e; cases h; exact .non
  | .bl b, _, _, h, e => by simp only [frz, Option.some.injEq] at e; subst e; cases h; exact .bl b
  | .int i, _, _, h, e => by simp only [frz, Option.some.injEq] at e; subst e; cases h; exact .int i
  | .str z, _, _, h, e => by simp only [frz, Option.some.injEq] at e; subst e; cases h; exact .str z
  | .tup xs, _, _, h, e => by
    simp only [frz] at e
    obtain ⟨ys, e1, rfl⟩ := Option.map_eq_some_iff.mp e
    cases h with
    | tup hs ha => exact .tup (seqT_up (shut_b r k) hs) (frzs_rp r k xs ys _ ha e1)
  | .lst xs, _, _, h, e => by
    simp only [frz] at e
    obtain ⟨ys, e1, rfl⟩ := Option.map_eq_some_iff.mp e
    cases h with
    | lst hs ha => exact .lst (shut_b r k _ _ hs) (frzs_rp r k xs ys _ ha e1)
  | .kls xs, _, _, h, e => by
    simp only [frz] at e
    obtain ⟨ys, e1, rfl⟩ := Option.map_eq_some_iff.mp e
    cases h with
    | kls hs ha => exact .kls ((shut_b r k).seq hs) (frzs_rp r k xs ys _ ha e1)
  | .obj c ns xs, _, _, h, e => by
    simp only [frz] at e
    obtain ⟨ys, e1, rfl⟩ := Option.map_eq_some_iff.mp e
    cases h with
    | obj h1 h2 h3 ha =>
      have hr := frzs_rp r k xs ys _ ha e1
      exact .obj (shut_b r k _ _ h1) (shut_b r k _ _ h2) (by rw [h3, ← rpa_len ha, rpa_len hr]) hr
  | .mu n, q, v, h, e => by
    simp only [frz] at e
    cases h with
    | @mu _ a h =>
      by_cases z : n < k
      · rw [if_pos z] at e
        cases e
        exact .mu (take_get h z)
      · rw [if_neg z] at e
        split at e
        · rename_i xs es
          obtain ⟨hc, rfl⟩ := ite_some e
          obtain ⟨nb, vs, h1, h2⟩ := r.c n a _ h es
          have st : still k S n := ⟨by omega, by rw [es]; exact hc⟩
          exact .lst ((shut_at r h st).trans h1) (cleans_rp r k xs vs h2 hc)
        · rename_i c ns xs es
          obtain ⟨hc, rfl⟩ := ite_some e
          obtain ⟨nb, l, dx, vs, h1, h2, h3⟩ := r.c n a _ h es
          have st : still k S n := ⟨by omega, by rw [es]; exact hc⟩
          exact .obj ((shut_at r h st).trans h1) (shut_b r k _ _ h2) l (cleans_rp r k xs vs h3 hc)
        · cases e
  | .xv n, q, v, h, e => by
    simp only [frz] at e
    obtain ⟨z, rfl⟩ := ite_some e
    cases h with
    | xv h => exact .xv (take_get h z)
theorem frzs_rp (r : Rel M W H S) (k : Nat) : ∀ (ps qs : List PV) (vs : List V), RpA M W vs ps → frzs k S ps = some qs → RpA M (shut W H S k) vs qs
  | [], _, _, h, e => by simp only [frzs, Option.some.injEq] at e; subst e; cases h; exact .nil
  | p :: ps, qs, _, h, e => by
    cases h with
    | cons h1 h2 =>
      simp only [frzs] at e
      split at e
      · rename_i q qs' e1 e2
        cases e
        exact .cons (frz_rp r k p q _ h1 e1) (frzs_rp r k ps qs' _ h2 e2)
      · cases e
end
theorem frzCs_get {k : Nat} : ∀ {cs T : List Cell} {n : Nat} {c : Cell}, frzCs k S cs = some T → T[n]? = some c → ∃ c0, cs[n]? = some c0 ∧ frzC k S c0 = some c
  | [], T, n, c, e, h => by simp only [frzCs, Option.some.injEq] at e; subst e; simp at h
  | c1 :: cs, T, n, c, e, h => by
    simp only [frzCs] at e
    split at e
    · rename_i q qs e1 e2
      cases e
      cases n with
      | zero => simp at h; subst h; exact ⟨c1, by simp, e1⟩
      | succ n => simp at h; obtain ⟨c0, a, b⟩ := frzCs_get e2 h; exact ⟨c0, by simpa using a, b⟩
    · cases e
theorem frzCs_len {k : Nat} : ∀ {cs T : List Cell}, frzCs k S cs = some T → T.length = cs.length
  | [], T, e => by simp only [frzCs, Option.some.injEq] at e; subst e; rfl
  | c1 :: cs, T, e => by
    simp only [frzCs] at e
    split at e
    · rename_i q qs e1 e2
      cases e
      simp [frzCs_len e2]
    · cases e
theorem shut_rel (r : Rel M W H S) {k : Nat} {T : Sta} (hk : k ≤ S.length) (e : frzCs k S (S.take k) = some T) : Rel M (shut W H S k) H T := by
  have notstill : ∀ {n : Nat} {a : Addr}, n < k → W.ρ[n]? = some (.own a) → (shut W H S k).B a = W.B a := fun {n a} hn h => by
    unfold shut
    dsimp only
    rw [if_neg]
    rintro ⟨m, h1, h2⟩
    have := r.nd n m a h h1
    have := h2.1
    omega
  refine ⟨fun a o q => ?_, ?_, fun n m a h1 h2 => ?_, fun a h => ?_, fun n a c h1 h2 => ?_⟩
  · unfold shut at q
    dsimp only at q
    split at q
    · exact q
    · exact r.i a o q
  · rw [frzCs_len e, List.length_take]
    show (W.ρ.take k).length = _
    rw [List.length_take, r.len]
  · exact r.nd n m a (get_take h1).2 (get_take h2).2
  · exact r.al a (List.mem_of_mem_take h)
  · obtain ⟨hn, h1'⟩ := get_take h1
    obtain ⟨c0, f1, f2⟩ := frzCs_get e h2
    obtain ⟨_, f1'⟩ := get_take f1
    have base := r.c n a c0 h1' f1'
    cases c0 with
    | lst xs =>
      simp only [frzC] at f2
      obtain ⟨ys, e1, rfl⟩ := Option.map_eq_some_iff.mp f2
      obtain ⟨nb, vs, b1, b2⟩ := base
      exact ⟨(notstill hn h1').trans nb, vs, b1, frzs_rp r k xs ys vs b2 e1⟩
    | obj c1 ns xs =>
      simp only [frzC] at f2
      obtain ⟨ys, e1, rfl⟩ := Option.map_eq_some_iff.mp f2
      obtain ⟨nb, l, dx, vs, b1, b2, b3⟩ := base
      have hr := frzs_rp r k xs ys vs b3 e1
      exact ⟨(notstill hn h1').trans nb, by rw [l, ← rpa_len b3, rpa_len hr], dx, vs, b1, shut_b r k _ _ b2, hr⟩
    | dead =>
      simp only [frzC, Option.some.injEq] at f2
      subst f2
      exact trivial
theorem shut_go (r : Rel M W H S) {k : Nat} (hk : Wa.ρ.length = k) (g : Go Wa Ha W H) : Go Wa Ha (shut W H S k) H := by
  refine ⟨g.b.trans (shut_b r k), ?_, fun a q1 q2 q3 => ?_⟩
  · obtain ⟨t, ht⟩ := g.ρ
    show Wa.ρ <+: W.ρ.take k
    rw [← ht, ← hk, List.take_left']
    · exact List.prefix_refl _
    · rfl
  · obtain ⟨x1, x2, x3⟩ := g.p a q1 q2 q3
    refine ⟨?_, fun h => x2 (List.mem_of_mem_take h), x3⟩
    unfold shut
    dsimp only
    rw [if_neg]
    · exact x1
    · rintro ⟨n, h1, _⟩
      exact x2 (List.mem_of_getElem? h1)
theorem leave_rp {k : Nat} {ps qs : List PV} {T : Sta} {vs : List V} (r : Rel M W H S) (hk : Wa.ρ.length = k) (g : Go Wa Ha W H) (h : RpA M W vs ps) (e : leave k ps S = some (qs, T)) : ∃ W', Go Wa Ha W' H ∧ Rel M W' H T ∧ RpA M W' vs qs ∧ Le W ⟨W'.B, W.ρ⟩ ∧ (∀ (n : Nat) (x : Slot), n < k → W.ρ[n]? = some x → W'.ρ[n]? = some x) := by
  unfold leave at e
  by_cases z : S.length ≤ k
  · rw [if_pos z] at e
    cases e
    exact ⟨W, g, r, h, Le.refl _, fun _ _ _ q => q⟩
  · rw [if_neg z] at e
    split at e
    · rename_i q' T' e1 e2
      cases e
      exact ⟨shut W H S k, shut_go r hk g, shut_rel r (by omega) e2, frzs_rp r k ps _ vs h e1, ⟨shut_b r k, List.prefix_refl _⟩, fun n x hn q => take_get q hn⟩
    · cases e
end
end Fx
namespace Fx
open PySem PySem.Spec PyProof.Rows L2 Co
section
variable {M : Md} {W W' Wa W0 W1 : Wd} {H H' Ha H1 : Hp} {S S' : Sta} {σ : L2.St} {ε : Env} {X : WX}
variable {ta tb tc te : TE} {ma mb mc me : Env → Sta → Out PV} {tt uu : TT} {mt mu : Env → Sta → Out Bool} {ts tr : TA} {ms mr : Env → Sta → Out (List PV)}
/-! ### a scope within a def: a loop's turn -/
def frzO (k : Nat) (S : Sta) : Option PV → Option PV
  | some p => frz k S p
  | none => none
def leaveE (k : Nat) (ε : Env) (S : Sta) : Option (Env × Sta) := if S.length ≤ k then some (ε, S) else match frzCs k S (S.take k) with
  | some T => some (ε.map (frzO k S), T)
  | none => none
theorem Er.shut (r : Rel M W H S) (k : Nat) (h : Er M W σ ε) : Er M (shut W H S k) σ (ε.map (frzO k S)) := ⟨by rw [h.len, List.length_map], fun i p q => by
  rw [List.getElem?_map] at q
  obtain ⟨x, h1, h2⟩ := Option.map_eq_some_iff.mp q
  cases x with
  | none => cases h2
  | some p0 =>
    obtain ⟨v, a, b⟩ := h.get i p0 h1
    exact ⟨v, a, frz_rp r k p0 p v b h2⟩⟩
theorem leaveE_ok {k : Nat} {ε' : Env} {T : Sta} (r : Rel M W H S) (hk : Wa.ρ.length = k) (g : Go Wa Ha W H) (er : Er M W σ ε) (e : leaveE k ε S = some (ε', T)) : ∃ W', Go Wa Ha W' H ∧ Rel M W' H T ∧ Er M W' σ ε' := by
  unfold leaveE at e
  by_cases z : S.length ≤ k
  · rw [if_pos z] at e
    cases e
    exact ⟨W, g, r, er⟩
  · rw [if_neg z] at e
    split at e
    · rename_i T' e2
      cases e
      exact ⟨Fx.shut W H S k, shut_go r hk g, shut_rel r (by omega) e2, er.shut r k⟩
    · cases e
def scopeS (m : Env → Sta → Flow) : Env → Sta → Flow := fun ε S => match m ε S with
  | .nx ε' S' => match leaveE S.length ε' S' with
    | some x => .nx x.1 x.2
    | none => .stuck
  | .ct ε' S' => match leaveE S.length ε' S' with
    | some x => .ct x.1 x.2
    | none => .stuck
  | .bk ε' S' => match leaveE S.length ε' S' with
    | some x => .bk x.1 x.2
    | none => .stuck
  | f => f
theorem RS.scope {t : TS} {m : Env → Sta → Flow} (h : RS M W0 X t m) : RS M W0 X t (scopeS m) := fun W H S σ ε le r er D q => by
  refine h W H S σ ε le r er D ?_
  unfold scopeS at q
  have key : ∀ {N : L2.St → Hp → Prop} {ε' : Env} {S' : Sta} {x : Env × Sta}, leaveE S.length ε' S' = some x → enG M W H N x.1 x.2 → enG M W H N ε' S' := fun {N ε' S' x} e q σ' W' H' g' r' er' => by
    obtain ⟨W2, g2, r2, er2⟩ := leaveE_ok r' r.len g' er' e
    exact q σ' W2 H' g2 r2 er2
  cases e : m ε S with
  | nx ε' S' =>
    rw [e] at q
    dsimp only at q
    split at q
    · rename_i x ex; exact key ex q
    · exact q.elim
  | ct ε' S' =>
    rw [e] at q
    dsimp only at q
    split at q
    · rename_i x ex; exact key ex q
    · exact q.elim
  | bk ε' S' =>
    rw [e] at q
    dsimp only at q
    split at q
    · rename_i x ex; exact key ex q
    · exact q.elim
  | rt p S' => rw [e] at q; exact q
  | ex c xs ε' S' => rw [e] at q; exact q
  | stuck => rw [e] at q; exact q
/-! ### defs -/
def envOf (len : Nat) (ps : List PV) : Env := ps.map some ++ List.replicate (len - ps.length) none
def give (k : Nat) (p : PV) (S : Sta) : Out PV := match leave k [p] S with
  | some ([q], T) => .ok q T
  | _ => .stuck
def giveX (k : Nat) (c : String) (xs : List PV) (S : Sta) : Out PV := match leave k xs S with
  | some (ys, T) => .ex c ys T
  | none => .stuck
/-- a def of n parameters and len slots: what it makes never changes any more (keep: it may) -/
def defM (keep : Bool) (n len : Nat) (body : Env → Sta → Flow) : FC := fun ps S => if ps.length = n then match body (envOf len ps) S with
  | .rt p S' => if keep = true then .ok p S' else give S.length p S'
  | .nx _ S' => if keep = true then .ok .non S' else give S.length .non S'
  | .ex c xs _ S' => giveX S.length c xs S'
  | _ => .stuck
  else .stuck
def calmF (f : FC) : FC := fun ps S => calm (f ps S)
theorem le_bot (W : Wd) : Le ⟨fun _ => none, []⟩ W := ⟨(fun _ _ h => nomatch h), List.nil_prefix⟩
theorem spM_len {f : FC} {n : Nat} (hf : ∀ xs S, f xs S ≠ .stuck → xs.length = n) {vs : List V} {H : Hp} {Q : VK} {E : XK} (h : spM M f vs H Q E) : vs.length = n := by
  obtain ⟨W, S, xs, r, ra, q⟩ := h
  rw [rpa_len ra]
  refine hf xs S fun z => ?_
  rw [z] at q
  exact q
theorem defM_len {keep : Bool} {n len : Nat} {body : Env → Sta → Flow} : ∀ xs S, defM keep n len body xs S ≠ .stuck → xs.length = n := fun xs S h => by
  unfold defM at h
  by_cases z : xs.length = n
  · exact z
  · rw [if_neg z] at h; exact absurd rfl h
theorem calmF_len {f : FC} {n : Nat} (hf : ∀ xs S, f xs S ≠ .stuck → xs.length = n) : ∀ xs S, calmF f xs S ≠ .stuck → xs.length = n := fun xs S h => hf xs S fun z => h (by unfold calmF; rw [z]; rfl)
theorem rpa_one {v : V} {p : PV} (h : Rp M W v p) : RpA M W [v] [p] := .cons h .nil
theorem give_ok {p : PV} {Q : VK} {E : String → List PV → Sta → Prop} (r0 : Rel M W H S) (q : OPost (give S.length p S') (okG Rp M W H Q) E) : okG Rp M W H Q p S' := fun v W' H' g r' rp => by
  unfold give at q
  split at q
  · rename_i q' T e
    obtain ⟨W2, g2, r2, ra, _, _⟩ := leave_rp r' r0.len g (rpa_one rp) e
    cases ra with
    | cons h _ => exact q v W2 H' g2 r2 h
  · exact q.elim
theorem def_ok {N : List Str} {keep : Bool} {n len : Nat} {body : Env → Sta → Flow} {t : TS} {vs : List V} {Q : VK} {E : XK} (hlen : N.length = len) (h : RS M ⟨fun _ => none, []⟩ (fun cls d _ H => E cls d H) t body) (sp : spM M (defM keep n len body) vs H Q E) : t { nx := fun _ H' => Q .non H', rt := Q } (L2.start N vs) H := by
  obtain ⟨W, S, xs, r, ra, q⟩ := sp
  have er : Er M W (L2.start N vs) (envOf len xs) := by
    unfold L2.start envOf
    rw [rpa_len ra, hlen]
    exact er_start M W _ ra
  refine h W H S _ _ (le_bot W) r er _ ?_
  unfold defM at q
  obtain ⟨_, q⟩ := ite_post q
  cases e : body (envOf len xs) S with
  | rt p S' =>
    rw [e] at q
    dsimp only at q
    cases keep with
    | true => exact q
    | false => exact give_ok r q
  | nx ε' S' =>
    rw [e] at q
    dsimp only at q
    refine fun σ' W' H' g r' er' => ?_
    cases keep with
    | true => exact q .non W' H' g r' .non
    | false => exact give_ok r q .non W' H' g r' .non
  | ex c ys ε' S' =>
    rw [e] at q
    dsimp only at q
    refine fun d σ' W' H' g r' er' xd => ?_
    unfold giveX at q
    split at q
    · rename_i zs T ez
      cases d with
      | none =>
        obtain ⟨rfl, h0⟩ := xd
        obtain ⟨W2, g2, r2, ra2, le2, _⟩ := leave_rp r' r.len g .nil ez
        cases ra2
        exact q none W2 H' g2 r2 ⟨rfl, h0⟩
      | some dx =>
        obtain ⟨h0, us, b1, b2, b3⟩ := xd
        obtain ⟨W2, g2, r2, ra2, le2, _⟩ := leave_rp r' r.len g b3 ez
        exact q (some dx) W2 H' g2 r2 ⟨h0, us, le2.b _ _ b1, b2, ra2⟩
    · exact q.elim
  | bk => rw [e] at q; exact q.elim
  | ct => rw [e] at q; exact q.elim
  | stuck => rw [e] at q; exact q.elim
/-- a def that lets no error out -/
theorem def_ok0 {N : List Str} {keep : Bool} {n len : Nat} {body : Env → Sta → Flow} {t : TS} {vs : List V} {Q : VK} {E : XK} (hlen : N.length = len) (h : RS M ⟨fun _ => none, []⟩ (fun _ _ _ _ => False) t body) (sp : spM M (calmF (defM keep n len body)) vs H Q E) : t { nx := fun _ H' => Q .non H', rt := Q } (L2.start N vs) H := by
  obtain ⟨W, S, xs, r, ra, q⟩ := sp
  refine def_ok (keep := keep) (n := n) (E := fun _ _ _ => False) hlen h ⟨W, S, xs, r, ra, ?_⟩
  exact (calm_post q).mono (fun _ _ z => z) fun _ _ _ z => z.elim
theorem calm_any {o : Out PV} {A : PV → Sta → Prop} {E E' : String → List PV → Sta → Prop} (h : OPost (calm o) A E) : OPost (calm o) A E' := by
  cases o with
  | ok a S => exact h
  | ex => exact h.elim
  | stuck => exact h.elim
theorem re_call0 {f : FC} {dvs : List V} {dps : List PV} {E : XK} (h : RA M W0 X ts ms) (hd : ∀ W, RpA M W dvs dps) : RE M W0 X (tCall (spM M (calmF f)) dvs E ts) (CallE (calmF f) dps ms) := fun W H S σ ε le r0 er Q q =>
  h.thn (.refl W H) le r0 er q fun vs xs S1 W1 H1 g1 r1 p1 q1 => ⟨W1, S1, xs ++ dps, r1, rpa_app p1 (hd _), OPost.mono (calm_any (E' := exE M W1 H1 E) q1) (fun a S' q => okG.up q g1) fun c ys S' z => z⟩
theorem sub_one {K : PySem.W.Frag} {AD : String → Addr} {C : String} {cl : Value} (h : PySem.W.exmOne K (.ref (AD C)) cl = some true) : ∀ c b, (if c = C then some true else none) = some b → PySem.W.exmOne K (.ref (AD c)) cl = some b := fun c b e => by
  obtain ⟨rfl, rfl⟩ := ite_some e
  exact h
def isC (C : String) : String → Option Bool := fun c => if c = C then some true else none
end
end Fx
namespace Fx
open PySem PySem.Spec PyProof.Rows L2 Co
/-! ### a mirror, step by step -/
@[simp ↓] theorem VarE_ap {i : Nat} {ε : Env} {S : Sta} : VarE i ε S = (match ε[i]? with
  | some (some p) => .ok p S
  | _ => .stuck) := id rfl
@[simp ↓] theorem CE_ap {p : PV} {ε : Env} {S : Sta} : CE p ε S = (.ok p S) := id rfl
@[simp ↓] theorem OpE_ap {f : F2} {ma mb : Env → Sta → Out PV} {ε : Env} {S : Sta} : OpE f ma mb ε S = ((ma ε S).bind fun x S1 => (mb ε S1).bind fun y S2 => lift (f S2 x y) S2) := id rfl
@[simp ↓] theorem AndE_ap {ma mb : Env → Sta → Out PV} {ε : Env} {S : Sta} : AndE ma mb ε S = ((ma ε S).bind fun x S1 => (lift (truth x) S1).bind fun b S1 => if b = true then mb ε S1 else .ok (.bl false) S1) := id rfl
@[simp ↓] theorem OrE_ap {ma mb : Env → Sta → Out PV} {ε : Env} {S : Sta} : OrE ma mb ε S = ((ma ε S).bind fun x S1 => (lift (truth x) S1).bind fun b S1 => if b = true then .ok (.bl true) S1 else mb ε S1) := id rfl
@[simp ↓] theorem NotE_ap {ma : Env → Sta → Out PV} {ε : Env} {S : Sta} : NotE ma ε S = ((ma ε S).bind fun x S1 => (lift (truth x) S1).bind fun b S1 => .ok (.bl (!b)) S1) := id rfl
@[simp ↓] theorem TestE_ap {ma : Env → Sta → Out PV} {ε : Env} {S : Sta} : TestE ma ε S = ((ma ε S).bind fun x S1 => lift (truth x) S1) := id rfl
@[simp ↓] theorem TAnd_ap {ma mb : Env → Sta → Out Bool} {ε : Env} {S : Sta} : TAnd ma mb ε S = ((ma ε S).bind fun b S1 => if b = true then mb ε S1 else .ok false S1) := id rfl
@[simp ↓] theorem TOr_ap {ma mb : Env → Sta → Out Bool} {ε : Env} {S : Sta} : TOr ma mb ε S = ((ma ε S).bind fun b S1 => if b = true then .ok true S1 else mb ε S1) := id rfl
@[simp ↓] theorem TNot_ap {ma : Env → Sta → Out Bool} {ε : Env} {S : Sta} : TNot ma ε S = ((ma ε S).bind fun b S1 => .ok (!b) S1) := id rfl
@[simp ↓] theorem IfE_ap {mt : Env → Sta → Out Bool} {ma mb : Env → Sta → Out PV} {ε : Env} {S : Sta} : IfE mt ma mb ε S = ((mt ε S).bind fun b S1 => if b = true then ma ε S1 else mb ε S1) := id rfl
@[simp ↓] theorem ChainE_ap {f f' : F2} {ma mb mc : Env → Sta → Out PV} {ε : Env} {S : Sta} : ChainE f f' ma mb mc ε S = ((ma ε S).bind fun x S1 => (mb ε S1).bind fun y S2 => (lift (f S2 x y) S2).bind fun w S2 => (lift (truth w) S2).bind fun b S2 => if b = true then (mc ε S2).bind fun z S3 => lift (f' S3 y z) S3 else .ok (.bl false) S2) := id rfl
@[simp ↓] theorem NilA_ap  {ε : Env} {S : Sta} : NilA  ε S = (.ok [] S) := id rfl
@[simp ↓] theorem ConsA_ap {me : Env → Sta → Out PV} {mr : Env → Sta → Out (List PV)} {ε : Env} {S : Sta} : ConsA me mr ε S = ((me ε S).bind fun x S1 => (mr ε S1).bind fun xs S2 => .ok (x :: xs) S2) := id rfl
@[simp ↓] theorem TupE_ap {ms : Env → Sta → Out (List PV)} {ε : Env} {S : Sta} : TupE ms ε S = ((ms ε S).bind fun xs S1 => if xs.length ≤ 100000 then .ok (.tup xs) S1 else .stuck) := id rfl
@[simp ↓] theorem LstE_ap {ms : Env → Sta → Out (List PV)} {ε : Env} {S : Sta} : LstE ms ε S = ((ms ε S).bind fun xs S1 => if xs.length ≤ 100000 then .ok (.lst xs) S1 else .stuck) := id rfl
@[simp ↓] theorem LmuE_ap {ms : Env → Sta → Out (List PV)} {ε : Env} {S : Sta} : LmuE ms ε S = ((ms ε S).bind fun xs S1 => if xs.length ≤ 100000 then newL xs S1 else .stuck) := id rfl
@[simp ↓] theorem CbE_ap {f : FC} {ms : Env → Sta → Out (List PV)} {ε : Env} {S : Sta} : CbE f ms ε S = ((ms ε S).bind fun xs S1 => calm (f xs S1)) := id rfl
@[simp ↓] theorem CallE_ap {f : FC} {dps : List PV} {ms : Env → Sta → Out (List PV)} {ε : Env} {S : Sta} : CallE f dps ms ε S = ((ms ε S).bind fun xs S1 => f (xs ++ dps) S1) := id rfl
@[simp ↓] theorem IsiE_ap {k : Ty} {ma : Env → Sta → Out PV} {ε : Env} {S : Sta} : IsiE k ma ε S = ((ma ε S).bind fun x S1 => (lift (tyP S1 x) S1).bind fun t S1 => .ok (.bl (isT t k)) S1) := id rfl
@[simp ↓] theorem IsiTE_ap {k l : Ty} {ma : Env → Sta → Out PV} {ε : Env} {S : Sta} : IsiTE k l ma ε S = ((ma ε S).bind fun x S1 => (lift (tyP S1 x) S1).bind fun t S1 => .ok (.bl (isT t k || isT t l)) S1) := id rfl
@[simp ↓] theorem NoO_ap  {ε : Env} {S : Sta} : NoO  ε S = (.ok none S) := id rfl
@[simp ↓] theorem PartO_ap {me : Env → Sta → Out PV} {ε : Env} {S : Sta} : PartO me ε S = ((me ε S).bind fun x S1 => match x with
  | .int i => .ok (some i) S1
  | _ => .stuck) := id rfl
@[simp ↓] theorem SlE_ap {ma : Env → Sta → Out PV} {ml mh : Env → Sta → Out (Option Int)} {ε : Env} {S : Sta} : SlE ma ml mh ε S = ((ma ε S).bind fun x S1 => (ml ε S1).bind fun l S2 => (mh ε S2).bind fun u S3 => lift (fSl S3 x l u) S3) := id rfl
@[simp ↓] theorem JoinE_ap {ma mb : Env → Sta → Out PV} {ε : Env} {S : Sta} : JoinE ma mb ε S = ((ma ε S).bind fun x S1 => match x with
  | .str a => (mb ε S1).bind fun y S2 => match items S2 y with
    | some (_, ys) => match strsP ys with
      | some zs => if (zs.map (·.length)).sum + zs.length * a.length ≤ 100000 then .ok (.str (Txt.join a zs)) S2 else .stuck
      | none => .stuck
    | none => .stuck
  | _ => .stuck) := id rfl
@[simp ↓] theorem NextS_ap  {ε : Env} {S : Sta} : NextS  ε S = (.nx ε S) := id rfl
@[simp ↓] theorem BreakS_ap  {ε : Env} {S : Sta} : BreakS  ε S = (.bk ε S) := id rfl
@[simp ↓] theorem ContS_ap  {ε : Env} {S : Sta} : ContS  ε S = (.ct ε S) := id rfl
@[simp ↓] theorem RetNS_ap  {ε : Env} {S : Sta} : RetNS  ε S = (.rt .non S) := id rfl
@[simp ↓] theorem RetS_ap {me : Env → Sta → Out PV} {ε : Env} {S : Sta} : RetS me ε S = ((me ε S).flow ε fun p S1 => .rt p S1) := id rfl
@[simp ↓] theorem DropS_ap {me : Env → Sta → Out PV} {ε : Env} {S : Sta} : DropS me ε S = ((me ε S).flow ε fun _ S1 => .nx ε S1) := id rfl
@[simp ↓] theorem AsgS_ap {me : Env → Sta → Out PV} {g : MG} {ε : Env} {S : Sta} : AsgS me g ε S = ((me ε S).flow ε fun p S1 => match g p ε S1 with
  | .ok ε' S2 => .nx ε' S2
  | _ => .stuck) := id rfl
@[simp ↓] theorem SetS_ap {i : Nat} {me : Env → Sta → Out PV} {ε : Env} {S : Sta} : SetS i me ε S = ((me ε S).flow ε fun p S1 => .nx (ε.set i (some p)) S1) := id rfl
@[simp ↓] theorem IfS_ap {mc : Env → Sta → Out Bool} {m m' : Env → Sta → Flow} {ε : Env} {S : Sta} : IfS mc m m' ε S = ((mc ε S).flow ε fun b S1 => if b = true then m ε S1 else m' ε S1) := id rfl
@[simp ↓] theorem SeqS_ap {m m' : Env → Sta → Flow} {ε : Env} {S : Sta} : SeqS m m' ε S = ((m ε S).then m') := id rfl
@[simp ↓] theorem AugS_ap {i : Nat} {me : Env → Sta → Out PV} {f : F2} {ε : Env} {S : Sta} : AugS i me f ε S = (match ε[i]? with
  | some (some x) => (me ε S).flow ε fun y S1 => match f S1 x y with
    | some z => .nx (ε.set i (some z)) S1
    | none => .stuck
  | _ => .stuck) := id rfl
@[simp ↓] theorem RaiseS_ap {c : String} {names : List Str} {ms : Env → Sta → Out (List PV)} {ε : Env} {S : Sta} : RaiseS c names ms ε S = ((ms ε S).flow ε fun xs S1 => if xs.length = names.length then .ex c xs ε S1 else .stuck) := id rfl
@[simp ↓] theorem Raise0S_ap {c : String} {ε : Env} {S : Sta} : Raise0S c ε S = (.ex c [] ε S) := id rfl
@[simp ↓] theorem TryAsS_ap {i : Nat} {sub : String → Option Bool} {mb : Env → Sta → Flow} {ms : String → List PV → Nat → Env → Sta → Flow} {ε : Env} {S : Sta} : TryAsS i sub mb ms ε S = (match mb ε S with
  | .ex c xs ε' S' => match sub c with
    | some true => unslot i (ms c xs S'.length (ε'.set i (some (.xv S'.length))) (S' ++ [.dead]))
    | some false => .ex c xs ε' S'
    | none => .stuck
  | f => f) := id rfl
@[simp ↓] theorem TryS_ap {sub : String → Option Bool} {mb : Env → Sta → Flow} {ms : String → List PV → Env → Sta → Flow} {ε : Env} {S : Sta} : TryS sub mb ms ε S = (match mb ε S with
  | .ex c xs ε' S' => match sub c with
    | some true => ms c xs ε' S'
    | some false => .ex c xs ε' S'
    | none => .stuck
  | f => f) := id rfl
@[simp ↓] theorem XfE_ap {c0 : String} {k : Nat} {c : String} {xs : List PV} {n i : Nat} {ε : Env} {S : Sta} : XfE c0 k c xs n i ε S = (match ε[i]? with
  | some (some (.xv n')) => if n' = n ∧ c = c0 then (match xs[k]? with
    | some p => .ok p S
    | none => .stuck) else .stuck
  | _ => .stuck) := id rfl
@[simp ↓] theorem SeqI_ap {me : Env → Sta → Out PV} {ε : Env} {S : Sta} : SeqI me ε S = ((me ε S).bind fun p S1 => (lift (seqIt S1 p) S1).bind fun x S1 => .ok x.2 S1) := id rfl
@[simp ↓] theorem Rng1I_ap {ms : Env → Sta → Out (List PV)} {ε : Env} {S : Sta} : Rng1I ms ε S = ((ms ε S).bind fun xs S1 => match xs with
  | [.int n] => if -4611686018427387904 ≤ n ∧ n < 4611686018427387904 then .ok ⟨intsP 0 n.toNat, []⟩ S1 else .stuck
  | _ => .stuck) := id rfl
@[simp ↓] theorem Rng2I_ap {ms : Env → Sta → Out (List PV)} {ε : Env} {S : Sta} : Rng2I ms ε S = ((ms ε S).bind fun xs S1 => match xs with
  | [.int i, .int j] => if -4611686018427387904 ≤ i ∧ i < 4611686018427387904 ∧ -4611686018427387904 ≤ j ∧ j < 4611686018427387904 then .ok ⟨intsP i (j - i).toNat, []⟩ S1 else .stuck
  | _ => .stuck) := id rfl
@[simp ↓] theorem StrI_ap {me : Env → Sta → Out PV} {ε : Env} {S : Sta} : StrI me ε S = ((me ε S).bind fun p S1 => match p with
  | .str z => .ok ⟨z.cps.toList.map fun c => .str ⟨#[c]⟩, []⟩ S1
  | _ => .stuck) := id rfl
@[simp ↓] theorem ZipI_ap {ms : Env → Sta → Out (List PV)} {ε : Env} {S : Sta} : ZipI ms ε S = ((ms ε S).bind fun xs S1 => match xs with
  | [x, y] => match seqIt S1 x, seqIt S1 y with
    | some (_, i1), some (_, i2) => .ok (zipIt i1 i2) S1
    | _, _ => .stuck
  | _ => .stuck) := id rfl
@[simp ↓] theorem RevI_ap {me : Env → Sta → Out PV} {ε : Env} {S : Sta} : RevI me ε S = ((me ε S).bind fun p S1 => (lift (seqIt S1 p) S1).bind fun x S1 => .ok ⟨x.2.xs.reverse, x.2.pins⟩ S1) := id rfl
@[simp ↓] theorem ForS_ap {mi : Env → Sta → Out IT} {g : MG} {mb : Env → Sta → Flow} {ε : Env} {S : Sta} : ForS mi g mb ε S = ((mi ε S).flow ε fun it S1 => loop g mb it.pins it.xs ε S1) := id rfl
@[simp ↓] theorem YesT_ap  {ε : Env} {S : Sta} : YesT  ε S = (.ok true S) := id rfl
@[simp ↓] theorem LcA_ap {mi : Env → Sta → Out IT} {g : MG} {mc : Env → Sta → Out Bool} {me : Env → Sta → Out PV} {vs : List Nat} {ε : Env} {S : Sta} : LcA mi g mc me vs ε S = ((mi ε S).bind fun it S1 => lcLoop g mc me it.pins (wipeP ε vs) it.xs [] S1) := id rfl
@[simp ↓] theorem LcE_ap {mi : Env → Sta → Out IT} {g : MG} {mc : Env → Sta → Out Bool} {me : Env → Sta → Out PV} {vs : List Nat} {ε : Env} {S : Sta} : LcE mi g mc me vs ε S = ((LcA mi g mc me vs ε S).bind fun acc S2 => .ok (.lst acc) S2) := id rfl
@[simp ↓] theorem LcM_ap {mi : Env → Sta → Out IT} {g : MG} {mc : Env → Sta → Out Bool} {me : Env → Sta → Out PV} {vs : List Nat} {ε : Env} {S : Sta} : LcM mi g mc me vs ε S = ((LcA mi g mc me vs ε S).bind fun acc S2 => newL acc S2) := id rfl
@[simp ↓] theorem NegE_ap {me : Env → Sta → Out PV} {ε : Env} {S : Sta} : NegE me ε S = ((me ε S).bind fun x S1 => match x with
  | .int i => .ok (.int (-i)) S1
  | _ => .stuck) := id rfl
@[simp ↓] theorem LrgE_ap {me : Env → Sta → Out PV} {ε : Env} {S : Sta} : LrgE me ε S = ((me ε S).bind fun x S1 => match x with
  | .int n => if -1000 ≤ n ∧ n ≤ 90000 then .ok (.lst (intsP 0 n.toNat)) S1 else .stuck
  | _ => .stuck) := id rfl
@[simp ↓] theorem TrvE_ap {me : Env → Sta → Out PV} {ε : Env} {S : Sta} : TrvE me ε S = ((me ε S).bind fun x S1 => match look S1 x with
  | .lst xs => .ok (.tup xs.reverse) S1
  | _ => .stuck) := id rfl
@[simp ↓] theorem AppE_ap {mo me : Env → Sta → Out PV} {ε : Env} {S : Sta} : AppE mo me ε S = ((mo ε S).bind fun o S1 => match o with
  | .mu n => match S1[n]? with
    | some (.lst _) => (me ε S1).bind fun p S2 => match S2[n]? with
      | some (.lst xs) => if xs.length < 100000 then .ok .non (S2.set n (.lst (xs ++ [p]))) else .stuck
      | _ => .stuck
    | _ => .stuck
  | _ => .stuck) := id rfl
section
variable {α β : Type} {a : α} {o o' : Out α} {S S' : Sta} {ε ε' : Env} {c : String} {xs : List PV}
@[simp] theorem bind_ok {f : α → Sta → Out β} : (Out.ok a S).bind f = f a S := id rfl
@[simp] theorem bind_ex {f : α → Sta → Out β} : (Out.ex c xs S).bind f = .ex c xs S := id rfl
@[simp] theorem bind_stuck {f : α → Sta → Out β} : (Out.stuck : Out α).bind f = .stuck := id rfl
@[simp] theorem flow_ok {f : α → Sta → Flow} : (Out.ok a S).flow ε f = f a S := id rfl
@[simp] theorem flow_ex {f : α → Sta → Flow} : (Out.ex c xs S : Out α).flow ε f = .ex c xs ε S := id rfl
@[simp] theorem flow_stuck {f : α → Sta → Flow} : (Out.stuck : Out α).flow ε f = .stuck := id rfl
@[simp] theorem then_nx {k : Env → Sta → Flow} : (Flow.nx ε S).then k = k ε S := id rfl
@[simp] theorem then_rt {k : Env → Sta → Flow} {p : PV} : (Flow.rt p S).then k = .rt p S := id rfl
@[simp] theorem then_bk {k : Env → Sta → Flow} : (Flow.bk ε S).then k = .bk ε S := id rfl
@[simp] theorem then_ct {k : Env → Sta → Flow} : (Flow.ct ε S).then k = .ct ε S := id rfl
@[simp] theorem then_ex {k : Env → Sta → Flow} : (Flow.ex c xs ε S).then k = .ex c xs ε S := id rfl
@[simp] theorem then_stuck {k : Env → Sta → Flow} : (Flow.stuck).then k = .stuck := id rfl
@[simp] theorem lift_some : lift (some a) S = .ok a S := id rfl
@[simp] theorem lift_none : lift (none : Option α) S = .stuck := id rfl
@[simp] theorem quiet_ok : quiet (Out.ok a S) = .ok a S := id rfl
@[simp] theorem calm_ok {p : PV} : calm (Out.ok p S) = .ok p S := id rfl
@[simp] theorem truth_bl {b : Bool} : truth (.bl b) = some b := id rfl
@[simp] theorem nameG_ap {i : Nat} {p : PV} : NameG i p ε S = .ok (ε.set i (some p)) S := id rfl
@[simp] theorem nilG_ap : NilG [] ε S = .ok ε S := id rfl
@[simp] theorem consG_ap {g : MG} {gs : List PV → Env → Sta → Out Env} {p : PV} {ps : List PV} : ConsG g gs (p :: ps) ε S = (g p ε S).bind fun ε1 S1 => gs ps ε1 S1 := id rfl
@[simp] theorem tupG_ap {n : Nat} {gs : List PV → Env → Sta → Out Env} {ps : List PV} : TupG n gs (.tup ps) ε S = if ps.length = n then gs ps ε S else .stuck := id rfl
@[simp] theorem subG_ap {mo mi : Env → Sta → Out PV} {p : PV} : SubG mo mi p ε S = ((quiet (mo ε S)).bind fun o S1 => (quiet (mi ε S1)).bind fun i S2 => match putL S2 o i p with
  | some S3 => .ok ε S3
  | none => .stuck) := id rfl
@[simp] theorem look_lst' : look S (.lst xs) = .lst xs := id rfl
@[simp] theorem look_kls' : look S (.kls xs) = .lst xs := id rfl
@[simp] theorem look_tup' : look S (.tup xs) = .tup xs := id rfl
@[simp] theorem look_int' {i : Int} : look S (.int i) = .int i := id rfl
@[simp] theorem look_str' {z : Str} : look S (.str z) = .str z := id rfl
@[simp] theorem look_bl' {z : Bool} : look S (.bl z) = .bl z := id rfl
@[simp] theorem look_non' : look S .non = .non := id rfl
@[simp] theorem look_mu' {n : Nat} : look S (.mu n) = (match S[n]? with
    | some (.lst xs) => .lst xs
    | _ => .mu n) := id rfl
@[simp] theorem items_lst : items S (.lst xs) = some (true, xs) := id rfl
@[simp] theorem items_kls : items S (.kls xs) = some (true, xs) := id rfl
@[simp] theorem items_tup : items S (.tup xs) = some (false, xs) := id rfl
@[simp] theorem items_mu {n : Nat} : items S (.mu n) = (match look S (.mu n) with
  | .lst xs => some (true, xs)
  | .tup xs => some (false, xs)
  | _ => none) := id rfl
@[simp] theorem seqIt_lst : seqIt S (.lst xs) = some (true, ⟨xs, []⟩) := id rfl
@[simp] theorem seqIt_kls : seqIt S (.kls xs) = some (true, ⟨xs, []⟩) := id rfl
@[simp] theorem seqIt_tup : seqIt S (.tup xs) = some (false, ⟨xs, []⟩) := id rfl
@[simp] theorem seqIt_mu {n : Nat} : seqIt S (.mu n) = (match S[n]? with
    | some (.lst xs) => some (true, ⟨xs, [(n, xs)]⟩)
    | _ => none) := id rfl
@[simp] theorem fI_ap {C : Int → Int → Prop} [∀ i j, Decidable (C i j)] {g : Int → Int → PV} {i j : Int} : fI C g S (.int i) (.int j) = if C i j then some (g i j) else none := id rfl
@[simp] theorem fAdd_int {i j : Int} : fAdd S (.int i) (.int j) = some (.int (i + j)) := id rfl
@[simp] theorem fAdd_str {i j : Str} : fAdd S (.str i) (.str j) = if i.length + j.length ≤ 100000 then some (.str (i ++ j)) else none := id rfl
@[simp] theorem fAdd_tup {ys : List PV} : fAdd S (.tup xs) (.tup ys) = if xs.length + ys.length ≤ 100000 then some (.tup (xs ++ ys)) else none := id rfl
@[simp] theorem fAdd_lst {ys : List PV} : fAdd S (.lst xs) (.lst ys) = if xs.length + ys.length ≤ 100000 then some (.lst (xs ++ ys)) else none := id rfl
@[simp] theorem fIsN_ap {p : PV} : fIsN S p .non = some (.bl (isNonP p)) := id rfl
@[simp] theorem fNotN_ap {p : PV} : fNotN S p .non = some (.bl (!isNonP p)) := id rfl
@[simp] theorem isNon_non : isNonP .non = true := id rfl
@[simp] theorem isNon_int {i : Int} : isNonP (.int i) = false := id rfl
@[simp] theorem isNon_str {i : Str} : isNonP (.str i) = false := id rfl
@[simp] theorem isNon_bl {i : Bool} : isNonP (.bl i) = false := id rfl
@[simp] theorem isNon_lst : isNonP (.lst xs) = false := id rfl
@[simp] theorem isNon_tup : isNonP (.tup xs) = false := id rfl
@[simp] theorem isNon_mu {n : Nat} : isNonP (.mu n) = false := id rfl
@[simp] theorem isNon_obj {n : List Str} : isNonP (.obj c n xs) = false := id rfl
@[simp] theorem fIsB_ap {a b : Bool} : fIsB S (.bl a) (.bl b) = some (.bl (decide (a = b))) := id rfl
@[simp] theorem fIx_lst {i : Int} : fIx S (.lst xs) (.int i) = atI xs i := id rfl
@[simp] theorem fIx_tup {i : Int} : fIx S (.tup xs) (.int i) = atI xs i := id rfl
@[simp] theorem fIx_str {z : Str} {i : Int} : fIx S (.str z) (.int i) = if z.length ≤ 100000 then (atI z.cps.toList i).map fun c => .str ⟨#[c]⟩ else none := id rfl
@[simp] theorem fIx_mu {n : Nat} {i : Int} : fIx S (.mu n) (.int i) = (match S[n]? with
  | some (.lst xs) => atI xs i
  | _ => none) := by
  unfold fIx look
  dsimp only
  cases S[n]? with
  | none => rfl
  | some c => cases c <;> rfl
@[simp] theorem fLen_ap {p : PV} : fLen [p] S = (match look S p with
    | .lst ys => .ok (.int (ys.length : Int)) S
    | .tup ys => .ok (.int (ys.length : Int)) S
    | .str z => if z.length ≤ 100000 then .ok (.int (z.length : Int)) S else .stuck
    | _ => .stuck) := id rfl
@[simp] theorem fTuple_ap {p : PV} : fTuple [p] S = (match look S p with
    | .lst ys => .ok (.tup ys) S
    | .tup ys => .ok (.tup ys) S
    | _ => .stuck) := id rfl
@[simp] theorem fList_ap {p : PV} : fList [p] S = (match items S p with
    | some (_, ys) => .ok (.lst ys) S
    | none => .stuck) := id rfl
@[simp] theorem fListM_ap {p : PV} : fListM [p] S = (match items S p with
    | some (_, ys) => .ok (.mu S.length) (S ++ [.lst ys])
    | none => .stuck) := id rfl
@[simp] theorem fAll_ap {ys : List PV} : fAll [.lst ys] S = (match bools ys with
      | some bs => .ok (.bl (bs.all id)) S
      | none => .stuck) := id rfl
@[simp] theorem fAbs_ap {i : Int} : fAbs [.int i] S = .ok (.int (if i < 0 then -i else i)) S := id rfl
@[simp] theorem fInt_ap {i : Int} : fInt [.int i] S = .ok (.int i) S := id rfl
@[simp] theorem fRepr_ap {p : PV} : fRepr [p] S = (match dat S p with
    | some d => if d.showable = true ∧ d.depth ≤ 60 ∧ d.shown.length ≤ 1000000 then .ok (.str d.shown) S else .stuck
    | none => .stuck) := id rfl
@[simp] theorem tyP_non : tyP S .non = some "NoneType" := id rfl
@[simp] theorem tyP_bl {b : Bool} : tyP S (.bl b) = some "bool" := id rfl
@[simp] theorem tyP_int {b : Int} : tyP S (.int b) = some "int" := id rfl
@[simp] theorem tyP_str {b : Str} : tyP S (.str b) = some "str" := id rfl
@[simp] theorem tyP_tup : tyP S (.tup xs) = some "tuple" := id rfl
@[simp] theorem tyP_lst : tyP S (.lst xs) = some "list" := id rfl
@[simp] theorem tyP_kls : tyP S (.kls xs) = some "list" := id rfl
@[simp] theorem tyP_mu {n : Nat} : tyP S (.mu n) = (match S[n]? with
  | some (.lst _) => some "list"
  | _ => none) := by
  unfold tyP look
  dsimp only
  cases S[n]? with
  | none => rfl
  | some c => cases c <;> rfl
@[simp] theorem isT_1 : isT "NoneType" .int = false := id rfl
@[simp] theorem isT_2 : isT "NoneType" .bool = false := id rfl
@[simp] theorem isT_3 : isT "NoneType" .str = false := id rfl
@[simp] theorem isT_4 : isT "NoneType" .list = false := id rfl
@[simp] theorem isT_5 : isT "NoneType" .tuple = false := id rfl
@[simp] theorem isT_6 : isT "bool" .int = true := id rfl
@[simp] theorem isT_7 : isT "bool" .bool = true := id rfl
@[simp] theorem isT_8 : isT "bool" .str = false := id rfl
@[simp] theorem isT_9 : isT "bool" .list = false := id rfl
@[simp] theorem isT_10 : isT "bool" .tuple = false := id rfl
@[simp] theorem isT_11 : isT "int" .int = true := id rfl
@[simp] theorem isT_12 : isT "int" .bool = false := id rfl
@[simp] theorem isT_13 : isT "int" .str = false := id rfl
@[simp] theorem isT_14 : isT "int" .list = false := id rfl
@[simp] theorem isT_15 : isT "int" .tuple = false := id rfl
@[simp] theorem isT_16 : isT "str" .int = false := id rfl
@[simp] theorem isT_17 : isT "str" .bool = false := id rfl
@[simp] theorem isT_18 : isT "str" .str = true := id rfl
@[simp] theorem isT_19 : isT "str" .list = false := id rfl
@[simp] theorem isT_20 : isT "str" .tuple = false := id rfl
@[simp] theorem isT_21 : isT "list" .int = false := id rfl
@[simp] theorem isT_22 : isT "list" .bool = false := id rfl
@[simp] theorem isT_23 : isT "list" .str = false := id rfl
@[simp] theorem isT_24 : isT "list" .list = true := id rfl
@[simp] theorem isT_25 : isT "list" .tuple = false := id rfl
@[simp] theorem isT_26 : isT "tuple" .int = false := id rfl
@[simp] theorem isT_27 : isT "tuple" .bool = false := id rfl
@[simp] theorem isT_28 : isT "tuple" .str = false := id rfl
@[simp] theorem isT_29 : isT "tuple" .list = false := id rfl
@[simp] theorem isT_30 : isT "tuple" .tuple = true := id rfl
@[simp] theorem fEqA_int {i j : Int} : fEqA S (.int i) (.int j) = some (.bl (decide (i = j))) := id rfl
@[simp] theorem fNeA_int {i j : Int} : fNeA S (.int i) (.int j) = some (.bl (!decide (i = j))) := id rfl
@[simp] theorem fEqA_str {i j : Str} : fEqA S (.str i) (.str j) = some (.bl (decide (i = j))) := id rfl
@[simp] theorem fNeA_str {i j : Str} : fNeA S (.str i) (.str j) = some (.bl (!decide (i = j))) := id rfl
@[simp] theorem fEqA_bl {i j : Bool} : fEqA S (.bl i) (.bl j) = some (.bl (decide (i = j))) := id rfl
@[simp] theorem fNeA_bl {i j : Bool} : fNeA S (.bl i) (.bl j) = some (.bl (!decide (i = j))) := id rfl
@[simp] theorem putL_mu {n : Nat} {k : Int} {p : PV} : putL S (.mu n) (.int k) p = (match S[n]? with
    | some (.lst xs) => match ixN xs.length k with
      | some j => some (S.set n (.lst (xs.set j p)))
      | none => none
    | _ => none) := id rfl
@[simp] theorem pinsOk_n : pinsOk S [] = true := id rfl
@[simp] theorem pinsOk_1 {n : Nat} {ys : List PV} (h : S[n]? = some (.lst ys)) : pinsOk S [(n, ys)] = true := by
  simp [pinsOk, h, beqs_rfl]
@[simp] theorem leaveE_self {k : Nat} (h : S.length ≤ k) : leaveE k ε S = some (ε, S) := if_pos h
@[simp] theorem give_self {k : Nat} {p : PV} (h : S.length ≤ k) : give k p S = .ok p S := by
  unfold give leave; rw [if_pos h]
@[simp] theorem giveX_self {k : Nat} (h : S.length ≤ k) : giveX k c xs S = .ex c xs S := by
  unfold giveX leave; rw [if_pos h]
/-- the end of a def -/
def fin (keep : Bool) (k : Nat) : Flow → Out PV
  | .rt p S' => if keep = true then .ok p S' else give k p S'
  | .nx _ S' => if keep = true then .ok .non S' else give k .non S'
  | .ex c xs _ S' => giveX k c xs S'
  | _ => .stuck
@[simp ↓] theorem defM_run {keep : Bool} {n len : Nat} {body : Env → Sta → Flow} {ps : List PV} (h : ps.length = n) : defM keep n len body ps S = fin keep S.length (body (envOf len ps) S) := by
  unfold defM
  rw [if_pos h]
  cases body (envOf len ps) S <;> rfl
@[simp ↓] theorem calmF_ap {f : FC} {ps : List PV} : calmF f ps S = calm (f ps S) := id rfl
@[simp] theorem fin_rt {k : Nat} {p : PV} : fin false k (.rt p S) = give k p S := id rfl
@[simp] theorem fin_nx {k : Nat} : fin false k (.nx ε S) = give k .non S := id rfl
@[simp] theorem fin_rtK {k : Nat} {p : PV} : fin true k (.rt p S) = .ok p S := id rfl
@[simp] theorem fin_nxK {k : Nat} : fin true k (.nx ε S) = .ok .non S := id rfl
@[simp] theorem fin_ex {keep : Bool} {k : Nat} : fin keep k (.ex c xs ε S) = giveX k c xs S := id rfl
/-- the end of a loop's turn -/
def shutS (k : Nat) : Flow → Flow
  | .nx ε' S' => match leaveE k ε' S' with
    | some x => .nx x.1 x.2
    | none => .stuck
  | .ct ε' S' => match leaveE k ε' S' with
    | some x => .ct x.1 x.2
    | none => .stuck
  | .bk ε' S' => match leaveE k ε' S' with
    | some x => .bk x.1 x.2
    | none => .stuck
  | f => f
@[simp ↓] theorem scopeS_ap {m : Env → Sta → Flow} : scopeS m ε S = shutS S.length (m ε S) := by
  unfold scopeS shutS
  cases m ε S <;> rfl
@[simp] theorem shutS_nx {k : Nat} : shutS k (.nx ε S) = (match leaveE k ε S with
    | some x => .nx x.1 x.2
    | none => .stuck) := id rfl
@[simp] theorem shutS_ct {k : Nat} : shutS k (.ct ε S) = (match leaveE k ε S with
    | some x => .ct x.1 x.2
    | none => .stuck) := id rfl
@[simp] theorem shutS_bk {k : Nat} : shutS k (.bk ε S) = (match leaveE k ε S with
    | some x => .bk x.1 x.2
    | none => .stuck) := id rfl
@[simp] theorem shutS_rt {k : Nat} {p : PV} : shutS k (.rt p S) = .rt p S := id rfl
@[simp] theorem shutS_ex {k : Nat} : shutS k (.ex c xs ε S) = .ex c xs ε S := id rfl
@[simp] theorem unslot_rt {i : Nat} {p : PV} : unslot i (.rt p S) = .rt p S := id rfl
@[simp] theorem unslot_ex {i : Nat} : unslot i (.ex c xs ε S) = .ex c xs ε S := id rfl
@[simp] theorem unslot_nx {i : Nat} : unslot i (.nx ε S) = .nx (ε.set i none) S := id rfl
@[simp] theorem unslot_bk {i : Nat} : unslot i (.bk ε S) = .bk (ε.set i none) S := id rfl
@[simp] theorem unslot_ct {i : Nat} : unslot i (.ct ε S) = .ct (ε.set i none) S := id rfl
@[simp] theorem isC_self : isC c c = some true := if_pos rfl
@[simp] theorem atI_0 {β : Type} {x0 : β} {xs : List β} : atI (x0 :: xs) 0 = some x0 := by
  have h : (0 : Int) ≤ 0 := by decide
  exact atI_get h rfl
@[simp] theorem atI_1 {β : Type} {x0 : β} {x1 : β} {xs : List β} : atI (x0 :: x1 :: xs) 1 = some x1 := by
  have h : (0 : Int) ≤ 1 := by decide
  exact atI_get h rfl
@[simp] theorem atI_2 {β : Type} {x0 : β} {x1 : β} {x2 : β} {xs : List β} : atI (x0 :: x1 :: x2 :: xs) 2 = some x2 := by
  have h : (0 : Int) ≤ 2 := by decide
  exact atI_get h rfl
@[simp] theorem atI_3 {β : Type} {x0 : β} {x1 : β} {x2 : β} {x3 : β} {xs : List β} : atI (x0 :: x1 :: x2 :: x3 :: xs) 3 = some x3 := by
  have h : (0 : Int) ≤ 3 := by decide
  exact atI_get h rfl
@[simp] theorem atI_4 {β : Type} {x0 : β} {x1 : β} {x2 : β} {x3 : β} {x4 : β} {xs : List β} : atI (x0 :: x1 :: x2 :: x3 :: x4 :: xs) 4 = some x4 := by
  have h : (0 : Int) ≤ 4 := by decide
  exact atI_get h rfl
@[simp] theorem atI_5 {β : Type} {x0 : β} {x1 : β} {x2 : β} {x3 : β} {x4 : β} {x5 : β} {xs : List β} : atI (x0 :: x1 :: x2 :: x3 :: x4 :: x5 :: xs) 5 = some x5 := by
  have h : (0 : Int) ≤ 5 := by decide
  exact atI_get h rfl
@[simp] theorem atI_6 {β : Type} {x0 : β} {x1 : β} {x2 : β} {x3 : β} {x4 : β} {x5 : β} {x6 : β} {xs : List β} : atI (x0 :: x1 :: x2 :: x3 :: x4 :: x5 :: x6 :: xs) 6 = some x6 := by
  have h : (0 : Int) ≤ 6 := by decide
  exact atI_get h rfl
@[simp] theorem atI_7 {β : Type} {x0 : β} {x1 : β} {x2 : β} {x3 : β} {x4 : β} {x5 : β} {x6 : β} {x7 : β} {xs : List β} : atI (x0 :: x1 :: x2 :: x3 :: x4 :: x5 :: x6 :: x7 :: xs) 7 = some x7 := by
  have h : (0 : Int) ≤ 7 := by decide
  exact atI_get h rfl
@[simp] theorem atI_8 {β : Type} {x0 : β} {x1 : β} {x2 : β} {x3 : β} {x4 : β} {x5 : β} {x6 : β} {x7 : β} {x8 : β} {xs : List β} : atI (x0 :: x1 :: x2 :: x3 :: x4 :: x5 :: x6 :: x7 :: x8 :: xs) 8 = some x8 := by
  have h : (0 : Int) ≤ 8 := by decide
  exact atI_get h rfl
@[simp] theorem atI_9 {β : Type} {x0 : β} {x1 : β} {x2 : β} {x3 : β} {x4 : β} {x5 : β} {x6 : β} {x7 : β} {x8 : β} {x9 : β} {xs : List β} : atI (x0 :: x1 :: x2 :: x3 :: x4 :: x5 :: x6 :: x7 :: x8 :: x9 :: xs) 9 = some x9 := by
  have h : (0 : Int) ≤ 9 := by decide
  exact atI_get h rfl
@[simp] theorem atI_10 {β : Type} {x0 : β} {x1 : β} {x2 : β} {x3 : β} {x4 : β} {x5 : β} {x6 : β} {x7 : β} {x8 : β} {x9 : β} {x10 : β} {xs : List β} : atI (x0 :: x1 :: x2 :: x3 :: x4 :: x5 :: x6 :: x7 :: x8 :: x9 :: x10 :: xs) 10 = some x10 := by
  have h : (0 : Int) ≤ 10 := by decide
  exact atI_get h rfl
@[simp] theorem atI_11 {β : Type} {x0 : β} {x1 : β} {x2 : β} {x3 : β} {x4 : β} {x5 : β} {x6 : β} {x7 : β} {x8 : β} {x9 : β} {x10 : β} {x11 : β} {xs : List β} : atI (x0 :: x1 :: x2 :: x3 :: x4 :: x5 :: x6 :: x7 :: x8 :: x9 :: x10 :: x11 :: xs) 11 = some x11 := by
  have h : (0 : Int) ≤ 11 := by decide
  exact atI_get h rfl
@[simp] theorem atI_12 {β : Type} {x0 : β} {x1 : β} {x2 : β} {x3 : β} {x4 : β} {x5 : β} {x6 : β} {x7 : β} {x8 : β} {x9 : β} {x10 : β} {x11 : β} {x12 : β} {xs : List β} : atI (x0 :: x1 :: x2 :: x3 :: x4 :: x5 :: x6 :: x7 :: x8 :: x9 :: x10 :: x11 :: x12 :: xs) 12 = some x12 := by
  have h : (0 : Int) ≤ 12 := by decide
  exact atI_get h rfl
end
end Fx
namespace Fx
open PySem PySem.Spec PyProof.Rows L2 Co
inductive All2 {α β : Type} (R : α → β → Prop) : List α → List β → Prop
  | nil : All2 R [] []
  | cons {x : α} {y : β} {xs : List α} {ys : List β} : R x y → All2 R xs ys → All2 R (x :: xs) (y :: ys)
theorem All2.len {α β : Type} {R : α → β → Prop} : ∀ {xs : List α} {ys : List β}, All2 R xs ys → xs.length = ys.length
  | _, _, .nil => rfl
  | _, _, .cons _ h => by rw [List.length_cons, List.length_cons, h.len]
section
variable {α β : Type} {a b : α} {S S' : Sta} {ε ε' : Env} {c : Prop} [Decidable c]
@[simp] theorem ite_ok : (if c then Out.ok a S else Out.ok b S) = Out.ok (if c then a else b) S := by split <;> rfl
@[simp] theorem ite_bl {x y : Bool} : (if c then PV.bl x else PV.bl y) = .bl (if c then x else y) := by split <;> rfl
@[simp] theorem ite_int {x y : Int} : (if c then PV.int x else PV.int y) = .int (if c then x else y) := by split <;> rfl
@[simp] theorem envOf_ap {len : Nat} {ps : List PV} : envOf len ps = ps.map some ++ List.replicate (len - ps.length) none := id rfl
@[simp] theorem wipeP_nil : wipeP ε [] = ε := id rfl
@[simp] theorem wipeP_cons {i : Nat} {vs : List Nat} : wipeP ε (i :: vs) = (wipeP ε vs).set i none := id rfl
theorem bools_map (xs : List β) (f : β → Bool) : bools (xs.map fun x => .bl (f x)) = some (xs.map f) := by
  induction xs with
  | nil => rfl
  | cons x xs ih => simp only [List.map_cons, bools, ih]; rfl
theorem all_id_map (xs : List β) (f : β → Bool) : (xs.map f).all id = xs.all f := by rw [List.all_map]; rfl
/-- a comprehension whose parts change nothing -/
theorem lcLoop_map {g : MG} {mc : Env → Sta → Out Bool} {me : Env → Sta → Out PV} {pins : List (Nat × List PV)} (f : PV → PV) (hp : pinsOk S pins = true) : ∀ (xs acc : List PV), (∀ x, x ∈ xs → ∃ ε1, g x ε S = .ok ε1 S ∧ mc ε1 S = .ok true S ∧ me ε1 S = .ok (f x) S) → acc.length + xs.length ≤ 100000 → lcLoop g mc me pins ε xs acc S = .ok (acc ++ xs.map f) S
  | [], acc, _, _ => by simp [lcLoop, hp]
  | x :: xs, acc, h, hl => by
    obtain ⟨ε1, h1, h2, h3⟩ := h x (by simp)
    have hl' : acc.length < 100000 := by simp at hl; omega
    have ih := lcLoop_map (mc := mc) (me := me) f hp xs (acc ++ [f x]) (fun y hy => h y (List.mem_cons_of_mem _ hy)) (by simp at hl ⊢; omega)
    simp [lcLoop, hp, h1, h2, h3, hl', ih]
/-- a loop of which each turn goes on -/
theorem loop_nx {g : MG} {mb : Env → Sta → Flow} {pins : List (Nat × List PV)} (I : List PV → Env → Sta → Prop) (hs : ∀ x xs ε S, I (x :: xs) ε S → pinsOk S pins = true ∧ ∃ ε1 S1, g x ε S = .ok ε1 S1 ∧ ∃ ε2 S2, mb ε1 S1 = .nx ε2 S2 ∧ I xs ε2 S2) (he : ∀ ε S, I [] ε S → pinsOk S pins = true) : ∀ (xs : List PV) (ε : Env) (S : Sta), I xs ε S → ∃ ε' S', loop g mb pins xs ε S = .nx ε' S' ∧ I [] ε' S'
  | [], ε, S, h => ⟨ε, S, by simp [loop, he ε S h], h⟩
  | x :: xs, ε, S, h => by
    obtain ⟨hp, ε1, S1, h1, ε2, S2, h2, h3⟩ := hs x xs ε S h
    obtain ⟨ε', S', h4, h5⟩ := loop_nx I hs he xs ε2 S2 h3
    refine ⟨ε', S', ?_, h5⟩
    simp [loop, hp, h1, h2, h4]
theorem items_look {x : PV} {k : Bool} {xs : List PV} (h : items S x = some (k, xs)) : look S x = if k = true then .lst xs else .tup xs := by
  unfold items at h
  split at h
  · rename_i ys e; cases h; exact e
  · rename_i ys e; cases h; exact e
  · cases h
theorem fTuple_it {x : PV} {k : Bool} {xs : List PV} (h : items S x = some (k, xs)) : fTuple [x] S = .ok (.tup xs) S := by
  rw [fTuple_ap, items_look h]
  cases k <;> rfl
theorem fLen_it {x : PV} {k : Bool} {xs : List PV} (h : items S x = some (k, xs)) : fLen [x] S = .ok (.int (xs.length : Int)) S := by
  rw [fLen_ap, items_look h]
  cases k <;> rfl
theorem items_ty {x : PV} {k : Bool} {xs : List PV} (h : items S x = some (k, xs)) : (tyP S x).isSome = true := by
  have := items_look h
  unfold tyP
  rw [this]
  cases k <;> rfl
theorem seqIt_pin {p : PV} {k : Bool} {it : IT} (e : seqIt S p = some (k, it)) : pinsOk S it.pins = true := by
  cases p <;> first | (cases e; done) | (cases e; rfl) | skip
  simp only [seqIt] at e
  split at e
  · rename_i xs q
    cases e
    exact pinsOk_1 q
  · cases e
theorem items_it {p : PV} {k : Bool} {xs : List PV} (e : items S p = some (k, xs)) : ∃ pins, seqIt S p = some (k, ⟨xs, pins⟩) := by
  cases p <;> first | (cases e; done) | (cases e; exact ⟨[], rfl⟩) | skip
  rename_i n
  simp only [items_mu, look_mu'] at e
  simp only [seqIt]
  cases h : S[n]? with
  | none => rw [h] at e; cases e
  | some c =>
    rw [h] at e
    cases c <;> first | (cases e; done) | skip
    cases e
    exact ⟨_, rfl⟩
/-! ### what holds no cell -/
mutual
theorem frz_flat (k : Nat) (S : Sta) : ∀ p : PV, clean 0 p = true → frz k S p = some p
  | .non, _ => by simp only [frz]
  | .bl _, _ => by simp only [frz]
  | .int _, _ => by simp only [frz]
  | .str _, _ => by simp only [frz]
  | .tup xs, h => by simp only [clean] at h; simp only [frz, frzs_flat k S xs h, Option.map_some]
  | .lst xs, h => by simp only [clean] at h; simp only [frz, frzs_flat k S xs h, Option.map_some]
  | .kls xs, h => by simp only [clean] at h; simp only [frz, frzs_flat k S xs h, Option.map_some]
  | .obj _ _ xs, h => by simp only [clean] at h; simp only [frz, frzs_flat k S xs h, Option.map_some]
  | .mu n, h => by simp [clean] at h
  | .xv n, h => by simp [clean] at h
theorem frzs_flat (k : Nat) (S : Sta) : ∀ ps : List PV, cleans 0 ps = true → frzs k S ps = some ps
  | [], _ => by simp only [frzs]
  | p :: ps, h => by
    simp only [cleans, Bool.and_eq_true] at h
    simp only [frzs, frz_flat k S p h.1, frzs_flat k S ps h.2]
end
def flatC : Cell → Bool
  | .lst xs => cleans 0 xs
  | .obj _ _ xs => cleans 0 xs
  | .dead => true
def flatS (S : Sta) : Bool := S.all flatC
theorem frzCs_flat (k : Nat) (S : Sta) : ∀ cs : List Cell, cs.all flatC = true → frzCs k S cs = some cs
  | [], _ => by simp only [frzCs]
  | c :: cs, h => by
    rw [List.all_cons, Bool.and_eq_true] at h
    have hc : frzC k S c = some c := by
      cases c with
      | lst xs => simp only [frzC, frzs_flat k S xs h.1, Option.map_some]
      | obj _ _ xs => simp only [frzC, frzs_flat k S xs h.1, Option.map_some]
      | dead => simp only [frzC]
    simp only [frzCs, hc, frzCs_flat k S cs h.2]
theorem leave_flat {T : Sta} {ps : List PV} (hS : flatS S = true) (hp : cleans 0 ps = true) : leave S.length ps (S ++ T) = some (ps, S) := by
  unfold leave
  split
  · rename_i h
    have : T = [] := by
      rw [List.length_append] at h
      exact List.length_eq_zero_iff.mp (by omega)
    rw [this, List.append_nil]
  · rw [frzs_flat _ _ _ hp, List.take_left', frzCs_flat _ _ _ hS]
    rfl
theorem give_flat {T : Sta} {p : PV} (hS : flatS S = true) (hp : clean 0 p = true) : give S.length p (S ++ T) = .ok p S := by
  unfold give
  rw [leave_flat hS (by simp only [cleans, hp, Bool.and_self])]
theorem flat_map {γ : Type} (f : γ → PV) (h : ∀ x, clean 0 (f x) = true) : ∀ xs : List γ, cleans 0 (xs.map f) = true
  | [] => rfl
  | x :: xs => by simp only [List.map_cons, cleans, h x, flat_map f h xs, Bool.and_self]
theorem flat_ints (ns : List Int) : cleans 0 (ns.map PV.int) = true := flat_map _ (fun _ => rfl) ns
theorem flat_app : ∀ xs ys : List PV, cleans 0 (xs ++ ys) = (cleans 0 xs && cleans 0 ys)
  | [], ys => by simp [cleans]
  | x :: xs, ys => by simp only [List.cons_append, cleans, flat_app xs ys, Bool.and_assoc]
theorem leaveE_flat {T : Sta} {ε : Env} (hS : flatS S = true) : leaveE S.length ε (S ++ T) = some (if S.length + T.length ≤ S.length then ε else ε.map (frzO S.length (S ++ T)), S) := by
  unfold leaveE
  rw [List.length_append]
  split
  · rename_i h
    have : T = [] := List.length_eq_zero_iff.mp (by omega)
    rw [this, List.append_nil]
  · rw [List.take_left', frzCs_flat _ _ _ hS]
    rfl
/-- a law's body that ends with True -/
def Done (f : Flow) : Prop := ∃ T, calm (fin false 0 f) = .ok (.bl true) T
theorem done_rt : Done (.rt (.bl true) S) := ⟨[], by
  have := give_flat (S := []) (T := S) (p := .bl true) rfl rfl
  rw [List.nil_append] at this
  show calm (give 0 (.bl true) S) = _
  rw [show (0 : Nat) = ([] : Sta).length from rfl, this]
  rfl⟩
theorem done_law {n len : Nat} {body : Env → Sta → Flow} {ps : List PV} (h : ps.length = n) (k : Done (body (envOf len ps) [])) : ∃ T, calmF (defM false n len body) ps [] = .ok (.bl true) T := by
  obtain ⟨T, e⟩ := k
  exact ⟨T, by rw [calmF_ap, defM_run h]; exact e⟩
theorem done_seq {A B : Env → Sta → Flow} (h : A ε S = .nx ε' S') (k : Done (B ε' S')) : Done (SeqS A B ε S) := by
  unfold SeqS
  rw [h]
  exact k
theorem done_end {A : Env → Sta → Flow} (h : A ε S = .rt (.bl true) S') : Done (A ε S) := h ▸ done_rt
/-- a for statement of which each turn goes on -/
theorem done_for {mi : Env → Sta → Out IT} {g : MG} {mb B : Env → Sta → Flow} {S1 : Sta} {it : IT} (I : List PV → Env → Sta → Prop) (hi : mi ε S = .ok it S1) (h0 : I it.xs ε S1) (hp : ∀ xs ε S, I xs ε S → pinsOk S it.pins = true)
    (hs : ∀ x xs ε S, I (x :: xs) ε S → ∃ ε1 S1, g x ε S = .ok ε1 S1 ∧ ∃ ε2 S2, mb ε1 S1 = .nx ε2 S2 ∧ I xs ε2 S2) (k : ∀ ε' S', I [] ε' S' → Done (B ε' S')) : Done (SeqS (ForS mi g mb) B ε S) := by
  obtain ⟨ε', S', e, hI⟩ := loop_nx (g := g) (mb := mb) I (fun x xs ε S h => ⟨hp _ _ _ h, hs x xs ε S h⟩) (fun ε S h => hp _ _ _ h) it.xs ε S1 h0
  refine done_seq (ε' := ε') (S' := S') ?_ (k ε' S' hI)
  rw [ForS_ap, hi]
  exact e
/-! ### the bag -/
def bagC (b : BS) : Cell := .lst [.lst (b.ns.map .int), .int b.i, .int b.g, .int b.c, .int b.s]
theorem flat_bag (b : BS) : flatC (bagC b) = true := by
  simp only [bagC, flatC, cleans, clean, flat_ints, Bool.and_self]
structure Bi (b : BS) : Prop where
  i0 : 0 ≤ b.i
  g0 : 0 ≤ b.g
  c0 : 0 ≤ b.c
  s0 : 0 ≤ b.s
  s1 : b.s < 2147483647
theorem lim_log {lim : Int} (h1 : 1 ≤ lim) (h2 : lim ≤ 10 ^ 30) : 0 < lim ∧ lim.natAbs.log2 < 9000 := (lim_wide h1 h2).imp id id
theorem log65536 : Nat.log2 65536 < 9000 := by decide
theorem log7 : Nat.log2 7 < 9000 := by decide
theorem mix1_r (s c z : Int) : 0 ≤ mix1 s c z ∧ mix1 s c z < 2147483647 := ⟨Int.emod_nonneg _ (by decide), Int.emod_lt_of_pos _ (by decide)⟩
theorem bi_db {b : BS} {lim : Int} (h : Bi b) (h1 : 1 ≤ lim) : Bi (db b lim) := by
  obtain ⟨p, ns, i, g, c, s⟩ := b
  obtain ⟨h0i, h0g, h0c, h0s, hs⟩ := h
  dsimp only at h0i h0g h0c h0s hs
  have a0 : ∀ z : Int, 0 ≤ absI z := fun z => by unfold absI; split <;> omega
  unfold db drw
  split
  · exact ⟨h0i, Int.ediv_nonneg h0g (by omega), by dsimp only; omega, h0s, hs⟩
  · split
    · split
      · exact ⟨by dsimp only; omega, Int.ediv_nonneg (a0 _) (by omega), by dsimp only; omega, h0s, hs⟩
      · exact ⟨by dsimp only; omega, h0g, by dsimp only; omega, (mix1_r _ _ _).1, (mix1_r _ _ _).2⟩
    · exact ⟨h0i, h0g, by dsimp only; omega, (mix1_r _ _ _).1, (mix1_r _ _ _).2⟩
theorem db_c {b : BS} {lim : Int} : (db b lim).c = b.c + 1 := by
  unfold db drw
  split
  · rfl
  · split
    · split <;> rfl
    · rfl
/-- a bag from which k more draws may be made -/
structure BOk (b : BS) (k : Nat) : Prop where
  i : Bi b
  c : b.c + k ≤ 1000000000
theorem BOk.less {b : BS} {n m : Nat} (h : BOk b n) (k : m ≤ n) : BOk b m := ⟨h.i, by have := h.c; omega⟩
theorem bok_db {b : BS} {n : Nat} {lim : Int} (h : BOk b (n + 1)) (h1 : 1 ≤ lim) : BOk (db b lim) n := ⟨bi_db h.i h1, by rw [db_c]; have := h.c; omega⟩
/-- a comprehension whose items draw: at most k times each -/
theorem lcLoop_bag {g : MG} {mc : Env → Sta → Out Bool} {me : Env → Sta → Out PV} {pins : List (Nat × List PV)} {T : Sta} {k : Nat} (R : PV → PV → Prop) (hp : ∀ b, pinsOk (bagC b :: T) pins = true) : ∀ (xs acc : List PV) (n : Nat) (b : BS), (∀ x b n, x ∈ xs → BOk b (n + k) → ∃ ε1, g x ε (bagC b :: T) = .ok ε1 (bagC b :: T) ∧ mc ε1 (bagC b :: T) = .ok true (bagC b :: T) ∧ ∃ y b', me ε1 (bagC b :: T) = .ok y (bagC b' :: T) ∧ BOk b' n ∧ R x y) → acc.length + xs.length ≤ 100000 → BOk b (n + k * xs.length) →
    ∃ ys b', lcLoop g mc me pins ε xs acc (bagC b :: T) = .ok (acc ++ ys) (bagC b' :: T) ∧ BOk b' n ∧ All2 R xs ys
  | [], acc, n, b, _, _, hb => ⟨[], b, by simp [lcLoop, hp], hb, .nil⟩
  | x :: xs, acc, n, b, h, hl, hb => by
    have hb1 : BOk b ((n + k * xs.length) + k) := hb.less (by rw [List.length_cons, Nat.mul_succ]; omega)
    obtain ⟨ε1, h1, h2, y, b1, h3, h4, h5⟩ := h x b _ (by simp) hb1
    have hl' : acc.length < 100000 := by simp at hl; omega
    obtain ⟨ys, b', h6, h7, h8⟩ := lcLoop_bag (mc := mc) (me := me) R hp xs (acc ++ [y]) n b1 (fun z c m hz => h z c m (List.mem_cons_of_mem _ hz)) (by simp at hl ⊢; omega) h4
    exact ⟨y :: ys, b', by simp [lcLoop, hp, h1, h2, h3, hl', h6], h7, .cons h5 h8⟩
end
end Fx
namespace Fx
open PySem PySem.Spec PyProof.Rows L2 Co
/-! ### data of modest size: their repr, their == -/
theorem int_len {i : Int} (h : i.natAbs < 10 ^ 40) : (PyData.int i).shown.length ≤ 41 := by
  have e := int_text_length_le10 (k := 40) (by decide) h
  rw [PyData.shown.eq_3, PySem.ofString_length]
  exact e
mutual
def modest : D → Bool
  | .none => true
  | .bool _ => true
  | .int i => decide (i.natAbs < 10 ^ 40)
  | .str s => s.cps.toList.all fun c => decide (c < 1114112)
  | .list xs => modests xs
  | .tuple xs => modests xs
  | .dict _ => false
def modests : List D → Bool
  | [] => true
  | d :: ds => modest d && modests ds
end
theorem log_small {n : Nat} (h : n < 10 ^ 40) : n.log2 < 1920 := by
  by_cases z : n = 0
  · subst z; decide
  · rw [Nat.log2_lt z]
    exact Nat.lt_of_lt_of_le h (Nat.le_trans (by decide : (10 : Nat) ^ 40 ≤ 2 ^ 133) (Nat.pow_le_pow_right (by decide) (by decide)))
mutual
theorem modest_ok : ∀ d : D, modest d = true → d.showable = true ∧ PyData.leavesShort 64 d = true ∧ d.canLay0 = true ∧ d.hasDict = false
  | .none, _ => by simp [PyData.showable, PyData.leavesShort, PyData.canLay0, PyData.hasDict]
  | .bool _, _ => by simp [PyData.showable, PyData.leavesShort, PyData.canLay0, PyData.hasDict]
  | .int i, h => by
    simp only [modest, decide_eq_true_eq] at h
    have h1 := int_len h
    have h2 := log_small h
    refine ⟨?_, ?_, ?_, ?_⟩
    · simp only [PyData.showable, decide_eq_true_eq]; exact h2
    · simp only [PyData.leavesShort, decide_eq_true_eq]; omega
    · simp only [PyData.canLay0]
    · simp only [PyData.hasDict]
  | .str s, h => by
    simp only [modest, List.all_eq_true, decide_eq_true_eq] at h
    refine ⟨?_, ?_, ?_, ?_⟩
    · simp only [PyData.showable]
    · simp only [PyData.leavesShort, List.all_eq_true, decide_eq_true_eq]
      intro c hc
      exact Nat.lt_of_lt_of_le (h c hc) (by decide)
    · simp only [PyData.canLay0, PyData.strOk]
      rw [Array.all_eq_true']
      intro c hc
      exact decide_eq_true (h c (by simpa using hc))
    · simp only [PyData.hasDict]
  | .list xs, h => by
    simp only [modest] at h
    obtain ⟨h1, h2, h3, h4⟩ := modests_ok xs h
    exact ⟨by simpa only [PyData.showable] using h1, by simpa only [PyData.leavesShort] using h2, by simpa only [PyData.canLay0] using h3, by simpa only [PyData.hasDict] using h4⟩
  | .tuple xs, h => by
    simp only [modest] at h
    obtain ⟨h1, h2, h3, h4⟩ := modests_ok xs h
    exact ⟨by simpa only [PyData.showable] using h1, by simpa only [PyData.leavesShort] using h2, by simpa only [PyData.canLay0] using h3, by simpa only [PyData.hasDict] using h4⟩
  | .dict _, h => by simp [modest] at h
theorem modests_ok : ∀ ds : List D, modests ds = true → PyData.showableAll ds = true ∧ PyData.leavesShortAll 64 ds = true ∧ PyData.canLayAll0 ds = true ∧ PyData.hasDictAll ds = false
  | [], _ => by simp [PyData.showableAll, PyData.leavesShortAll, PyData.canLayAll0, PyData.hasDictAll]
  | d :: ds, h => by
    simp only [modests, Bool.and_eq_true] at h
    obtain ⟨h1, h2, h3, h4⟩ := modest_ok d h.1
    obtain ⟨g1, g2, g3, g4⟩ := modests_ok ds h.2
    simp [PyData.showableAll, PyData.leavesShortAll, PyData.canLayAll0, PyData.hasDictAll, h1, h2, h3, h4, g1, g2, g3, g4]
end
structure Fit (d : D) : Prop where
  m : modest d = true
  dep : d.depth ≤ 20
  bulk : d.bulk ≤ 10000
theorem Fit.shaped {d : D} (h : Fit d) : SeqAt.shaped d = true := by
  have h1 := (modest_ok d h.m).2.2.1
  have h2 : d.depth ≤ 64 := Nat.le_trans h.dep (by decide)
  simp [SeqAt.shaped, h1, h2]
theorem Fit.repr {d : D} (h : Fit d) : d.showable = true ∧ d.depth ≤ 60 ∧ d.shown.length ≤ 1000000 := by
  obtain ⟨h1, h2, _, _⟩ := modest_ok d h.m
  refine ⟨h1, Nat.le_trans h.dep (by decide), ?_⟩
  have := PyData.shown_le_bulk 64 (by decide) d h2
  have hb := h.bulk
  omega
theorem fEq_refl {S : Sta} {p : PV} {d : D} (e : dat S p = some d) (h : Fit d) : fEq S p p = some (.bl true) := by
  unfold fEq
  rw [e]
  simp only [h.shaped, and_self, if_true, eqv_refl d (modest_ok d h.m).2.2.2]
theorem fNe_refl {S : Sta} {p : PV} {d : D} (e : dat S p = some d) (h : Fit d) : fNe S p p = some (.bl false) := by
  unfold fNe
  rw [e]
  simp only [h.shaped, and_self, if_true, eqv_refl d (modest_ok d h.m).2.2.2, Bool.not_true]
theorem fRepr_fit {S : Sta} {p : PV} {d : D} (e : dat S p = some d) (h : Fit d) : fRepr [p] S = .ok (.str d.shown) S := by
  obtain ⟨h1, h2, h3⟩ := h.repr
  rw [fRepr_ap, e]
  simp only [h1, h2, h3, and_self, if_true]
theorem dats_ints (S : Sta) : ∀ ns : List Int, dats S (ns.map PV.int) = some (ns.map PyData.int)
  | [] => by simp [dats]
  | n :: ns => by simp [dats, dat, dats_ints S ns]
theorem dats_app (S : Sta) : ∀ {xs ys : List PV} {ds es : List D}, dats S xs = some ds → dats S ys = some es → dats S (xs ++ ys) = some (ds ++ es)
  | [], ys, ds, es, h1, h2 => by simp only [dats, Option.some.injEq] at h1; subst h1; exact h2
  | x :: xs, ys, ds, es, h1, h2 => by
    simp only [dats] at h1
    split at h1
    · rename_i d ds' e1 e2
      cases h1
      simp only [List.cons_append, dats, e1, dats_app S e2 h2]
    · cases h1
theorem modests_ints {ns : List Int} (h : ∀ n ∈ ns, n.natAbs < 10 ^ 40) : modests (ns.map PyData.int) = true := by
  induction ns with
  | nil => rfl
  | cons n ns ih => simp only [List.map_cons, modests, modest, h n (by simp), decide_true, ih fun m hm => h m (List.mem_cons_of_mem _ hm), Bool.and_self]
theorem depth_ints : ∀ ns : List Int, PyData.depthAll (ns.map PyData.int) = 0
  | [] => by simp [PyData.depthAll]
  | n :: ns => by simp [PyData.depthAll, PyData.depth, depth_ints ns]
theorem bulk_ints : ∀ ns : List Int, PyData.bulkAll (ns.map PyData.int) = ns.length
  | [] => by simp [PyData.bulkAll]
  | n :: ns => by simp [PyData.bulkAll, PyData.bulk, bulk_ints ns]; omega
theorem fit_intsL {ns : List Int} (h : ∀ n ∈ ns, n.natAbs < 10 ^ 40) (hl : ns.length ≤ 9000) : Fit (.list (ns.map .int)) := ⟨by simp only [modest]; exact modests_ints h, by simp [PyData.depth, depth_ints], by simp [PyData.bulk, bulk_ints]; omega⟩
theorem fit_intsT {ns : List Int} (h : ∀ n ∈ ns, n.natAbs < 10 ^ 40) (hl : ns.length ≤ 9000) : Fit (.tuple (ns.map .int)) := ⟨by simp only [modest]; exact modests_ints h, by simp [PyData.depth, depth_ints], by simp [PyData.bulk, bulk_ints]; omega⟩
mutual
theorem dat_app {S : Sta} (T : Sta) : ∀ (p : PV) (d : D), dat S p = some d → dat (S ++ T) p = some d
  | .non, d, h => by simpa only [dat] using h
  | .bl _, d, h => by simpa only [dat] using h
  | .int _, d, h => by simpa only [dat] using h
  | .str _, d, h => by simpa only [dat] using h
  | .tup xs, d, h => by
    simp only [dat] at h ⊢
    obtain ⟨ds, q1, rfl⟩ := Option.map_eq_some_iff.mp h
    rw [datsS_app T xs ds q1]
    rfl
  | .lst xs, d, h => by
    simp only [dat] at h ⊢
    obtain ⟨ds, q1, rfl⟩ := Option.map_eq_some_iff.mp h
    rw [datsS_app T xs ds q1]
    rfl
  | .kls xs, d, h => by
    simp only [dat] at h ⊢
    obtain ⟨ds, q1, rfl⟩ := Option.map_eq_some_iff.mp h
    rw [datsS_app T xs ds q1]
    rfl
  | .obj _ _ _, d, h => by simp only [dat] at h; cases h
  | .mu n, d, h => by
    simp only [dat] at h ⊢
    cases e : S[n]? with
    | none => rw [e] at h; cases h
    | some c => rw [e] at h; rw [List.getElem?_append_left (List.getElem?_eq_some_iff.mp e).1, e]; exact h
  | .xv n, d, h => by simp only [dat] at h; cases h
theorem datsS_app {S : Sta} (T : Sta) : ∀ (ps : List PV) (ds : List D), dats S ps = some ds → dats (S ++ T) ps = some ds
  | [], ds, h => by simpa only [dats] using h
  | p :: ps, ds, h => by
    simp only [dats] at h ⊢
    split at h
    · rename_i d ds' e1 e2
      cases h
      rw [dat_app T p d e1, datsS_app T ps ds' e2]
    · cases h
end
theorem modests_all {ds : List D} (h : ∀ x ∈ ds, modest x = true) : modests ds = true := by
  induction ds with
  | nil => rfl
  | cons d ds ih => simp only [modests, h d (by simp), ih fun m hm => h m (List.mem_cons_of_mem _ hm), Bool.and_self]
theorem depth_all {ds : List D} {k : Nat} (h : ∀ x ∈ ds, x.depth ≤ k) : PyData.depthAll ds ≤ k := by
  induction ds with
  | nil => simp [PyData.depthAll]
  | cons d ds ih =>
    have h1 := h d (by simp)
    have h2 := ih fun m hm => h m (List.mem_cons_of_mem _ hm)
    simp only [PyData.depthAll]
    omega
theorem bulk_all {ds : List D} {k : Nat} (h : ∀ x ∈ ds, x.bulk ≤ k) : PyData.bulkAll ds ≤ ds.length * (k + 1) := by
  induction ds with
  | nil => simp [PyData.bulkAll]
  | cons d ds ih =>
    have h1 := h d (by simp)
    have h2 := ih fun m hm => h m (List.mem_cons_of_mem _ hm)
    simp only [PyData.bulkAll, List.length_cons, Nat.succ_mul]
    omega
theorem fit_L {ds : List D} {k : Nat} (hm : ∀ x ∈ ds, modest x = true) (hd : ∀ x ∈ ds, x.depth ≤ 10) (hb : ∀ x ∈ ds, x.bulk ≤ k) (hl : ds.length * (k + 1) ≤ 10000) : Fit (.list ds) :=
  ⟨by simp only [modest]; exact modests_all hm, by simp only [PyData.depth]; have := depth_all hd; omega, by simp only [PyData.bulk]; have := bulk_all hb; omega⟩
theorem fit_T {ds : List D} {k : Nat} (hm : ∀ x ∈ ds, modest x = true) (hd : ∀ x ∈ ds, x.depth ≤ 10) (hb : ∀ x ∈ ds, x.bulk ≤ k) (hl : ds.length * (k + 1) ≤ 10000) : Fit (.tuple ds) :=
  ⟨by simp only [modest]; exact modests_all hm, by simp only [PyData.depth]; have := depth_all hd; omega, by simp only [PyData.bulk]; have := bulk_all hb; omega⟩
/-- values that are data whatever the state is -/
structure Dv (p : PV) (d : D) (k : Nat) : Prop where
  t : toD p = some d
  m : modest d = true
  dep : d.depth ≤ 10
  bulk : d.bulk ≤ k
mutual
theorem dat_toD (S : Sta) : ∀ (p : PV) (d : D), toD p = some d → dat S p = some d
  | .non, d, h => by simpa only [toD, dat] using h
  | .bl _, d, h => by simpa only [toD, dat] using h
  | .int _, d, h => by simpa only [toD, dat] using h
  | .str _, d, h => by simpa only [toD, dat] using h
  | .tup xs, d, h => by
    simp only [toD] at h
    obtain ⟨ds, q1, rfl⟩ := Option.map_eq_some_iff.mp h
    simp only [dat, dats_toDs S xs ds q1, Option.map_some]
  | .lst xs, d, h => by
    simp only [toD] at h
    obtain ⟨ds, q1, rfl⟩ := Option.map_eq_some_iff.mp h
    simp only [dat, dats_toDs S xs ds q1, Option.map_some]
  | .kls xs, d, h => by
    simp only [toD] at h
    obtain ⟨ds, q1, rfl⟩ := Option.map_eq_some_iff.mp h
    simp only [dat, dats_toDs S xs ds q1, Option.map_some]
  | .obj _ _ _, d, h => by simp only [toD] at h; cases h
  | .mu _, d, h => by simp only [toD] at h; cases h
  | .xv _, d, h => by simp only [toD] at h; cases h
theorem dats_toDs (S : Sta) : ∀ (ps : List PV) (ds : List D), toDs ps = some ds → dats S ps = some ds
  | [], ds, h => by simpa only [toDs, dats] using h
  | p :: ps, ds, h => by
    simp only [toDs] at h
    split at h
    · rename_i d ds' e1 e2
      cases h
      simp only [dats, dat_toD S p d e1, dats_toDs S ps ds' e2]
    · cases h
end
theorem toDs_all {k : Nat} : ∀ {ps : List PV}, (∀ p ∈ ps, ∃ d, Dv p d k) → ∃ ds, toDs ps = some ds ∧ ds.length = ps.length ∧ (∀ x ∈ ds, modest x = true) ∧ (∀ x ∈ ds, x.depth ≤ 10) ∧ ∀ x ∈ ds, x.bulk ≤ k
  | [], _ => ⟨[], by simp only [toDs], rfl, (fun _ h => by cases h), (fun _ h => by cases h), fun _ h => by cases h⟩
  | p :: ps, h => by
    obtain ⟨d, hd⟩ := h p (by simp)
    obtain ⟨ds, e, l, h1, h2, h3⟩ := toDs_all fun q hq => h q (List.mem_cons_of_mem _ hq)
    refine ⟨d :: ds, by simp only [toDs, hd.t, e], by simp [l], fun x hx => ?_, fun x hx => ?_, fun x hx => ?_⟩
    · rcases List.mem_cons.mp hx with rfl | hx; exact hd.m; exact h1 x hx
    · rcases List.mem_cons.mp hx with rfl | hx; exact hd.dep; exact h2 x hx
    · rcases List.mem_cons.mp hx with rfl | hx; exact hd.bulk; exact h3 x hx
theorem dv_int {i : Int} {k : Nat} (h : i.natAbs < 10 ^ 40) : Dv (.int i) (.int i) k := ⟨by simp only [toD], by simp only [modest, h, decide_true], by simp [PyData.depth], by simp [PyData.bulk]⟩
theorem dv_bl {b : Bool} {k : Nat} : Dv (.bl b) (.bool b) k := ⟨by simp only [toD], by simp only [modest], by simp [PyData.depth], by simp [PyData.bulk]⟩
theorem dv_non {k : Nat} : Dv .non .none k := ⟨by simp only [toD], by simp only [modest], by simp [PyData.depth], by simp [PyData.bulk]⟩
theorem Dv.fit {p : PV} {d : D} {k : Nat} (h : Dv p d k) (hk : k ≤ 10000) : Fit d := ⟨h.m, Nat.le_trans h.dep (by decide), Nat.le_trans h.bulk hk⟩
end Fx
namespace Fx
open PySem PySem.Spec PyProof.Rows L2 Co
/-! ### the end of a law -/
theorem fnG_weak {P : Program} {w : World} {K : PySem.W.Frag} {mg : Str → Option Value} {base : Heap} {CX : CXT} {k : Nat} {f : Addr} {fd : FuncData} {ps : List Str} {sp sp' : Sp} (F : FnG P w K mg base CX k f fd ps sp) (h : ∀ vs H Q E, sp' vs H Q E → sp vs H Q E) : FnG P w K mg base CX k f fd ps sp' :=
  ⟨fun vs H Q E q => F.len vs H Q E (h vs H Q E q), fun A outer s H args us vs Q E ga hr e0 bd va q => F.run A outer s H args us vs Q E ga hr e0 bd va (h vs H Q E q)⟩
theorem fnG_fnOk {P : Program} {w : World} {K : PySem.W.Frag} {mg : Str → Option Value} {base : Heap} {CX : CXT} {k : Nat} {f : Addr} {fd : FuncData} {ps : List Str} {sp : Sp} (F : FnOk P w K mg base CX k f fd ps sp) : FnG P w K mg base CX k f fd ps sp :=
  ⟨F.len, fun A outer s H args us vs Q E _ hr e0 bd va q => F.run A outer s H args us vs Q E hr e0 bd va q⟩
/-- a script in, True out -/
def spScr (K : PySem.W.Frag) : Sp := fun vs H Q _ => ∃ (a : Addr) (ns : List Int), vs = [.ref a] ∧ SqL K H a (ns.map V.int) ∧ ns.length ≤ 63 ∧ ∀ H', Q (.bl true) H'
theorem scr_of {M : Md} {f : FC} (hf : ∀ ns : List Int, ns.length ≤ 63 → ∃ T, f [.kls (ns.map .int)] [] = .ok (.bl true) T) : ∀ vs H Q E, spScr M.K vs H Q E → spM M f vs H Q E := fun vs H Q E ⟨a, ns, hv, hs, hl, q⟩ => by
  obtain ⟨T, e⟩ := hf ns hl
  subst hv
  refine ⟨⟨H, []⟩, [], [.kls (ns.map .int)], ⟨Same.refl _, rfl, fun n m a h => (by simp at h), fun a h => (by cases h), fun n a c h => (by simp at h)⟩, .cons (.kls hs rpa_intsP) .nil, ?_⟩
  rw [e]
  intro v W' H' g r p
  cases p
  exact q H'
theorem exm_same {K : PySem.W.Frag} {S : Addr} (h1 : PySem.W.subIn K (.ref S) (.type "BaseException") = some true) (h2 : PySem.W.isClsIn K S = true) (h3 : PySem.W.typeIn K (.ref S) = some (.type "type")) (h4 : PySem.W.subIn K (.ref S) (.ref S) = some true) : PySem.W.exmOne K (.ref S) (.ref S) = some true := by
  have h5 : (PySem.W.clsIn K S).isSome = true := h2
  have a1 : (PySem.W.subIn K (.ref S) (.type "BaseException") == some true) = true := by rw [h1]; rfl
  have a2 : ((PySem.W.clsIn K S).isSome && PySem.W.typeIn K (.ref S) == some (.type "type")) = true := by rw [h5, h3]; rfl
  unfold PySem.W.exmOne
  simp only [a1, if_true]
  show (if ((PySem.W.clsIn K S).isSome && PySem.W.typeIn K (.ref S) == some (.type "type")) = true then PySem.W.subIn K (.ref S) (.ref S) else none) = some true
  rw [a2]
  exact h4
end Fx
namespace K02
open PySem L2 Co
def topS (i : Nat) : Stmt := PySem.Challenge.pw_fewfetches_k02_rows_by_their_numbers.main.body.getD i (.Pass ⟨0, 0, 0, 0⟩)
abbrev s_BadRow___init__ : Stmt := inClass (topS 3) 0
abbrev s_is_whole : Stmt := topS 10
abbrev s_is_name : Stmt := topS 11
abbrev s_is_sequence : Stmt := topS 12
abbrev s_check_widths : Stmt := topS 13
abbrev s_check_row : Stmt := topS 14
abbrev s_row_count : Stmt := topS 15
abbrev s_row_number : Stmt := topS 16
abbrev s_row_at : Stmt := topS 17
abbrev s__law_bag : Stmt := topS 19
abbrev s__law_draw : Stmt := topS 20
abbrev s__law_good : Stmt := topS 21
abbrev s__law_widths_told : Stmt := topS 22
abbrev s__law_row_right : Stmt := topS 23
abbrev s__law_widths : Stmt := topS 24
abbrev s__law_all : Stmt := topS 25
abbrev s__law_is : Stmt := topS 26
abbrev s__law_words_right : Stmt := topS 27
abbrev s_law : Stmt := topS 28
theorem sc_BadRow___init__ : FnScope ["self", "row"] ["self", "row"] (defScope s_BadRow___init__) := ⟨rfl, rfl, rfl, by decide +kernel, rfl, by decide +kernel, by decide +kernel⟩
theorem sc_is_whole : FnScope ["thing", "low", "high"] ["thing", "low", "high"] (defScope s_is_whole) := ⟨rfl, rfl, rfl, by decide +kernel, rfl, by decide +kernel, by decide +kernel⟩
theorem sc_is_name : FnScope ["thing", "sign"] ["thing"] (defScope s_is_name) := ⟨rfl, rfl, rfl, by decide +kernel, rfl, by decide +kernel, by decide +kernel⟩
theorem sc_is_sequence : FnScope ["thing", "low", "high"] ["thing", "low", "high"] (defScope s_is_sequence) := ⟨rfl, rfl, rfl, by decide +kernel, rfl, by decide +kernel, by decide +kernel⟩
theorem sc_check_widths : FnScope ["widths", "width"] ["widths"] (defScope s_check_widths) := ⟨rfl, rfl, rfl, by decide +kernel, rfl, by decide +kernel, by decide +kernel⟩
theorem sc_check_row : FnScope ["widths", "row", "value", "width"] ["widths", "row"] (defScope s_check_row) := ⟨rfl, rfl, rfl, by decide +kernel, rfl, by decide +kernel, by decide +kernel⟩
theorem sc_row_count : FnScope ["widths", "many", "width"] ["widths"] (defScope s_row_count) := ⟨rfl, rfl, rfl, by decide +kernel, rfl, by decide +kernel, by decide +kernel⟩
theorem sc_row_number : FnScope ["widths", "row", "number", "value", "width"] ["widths", "row"] (defScope s_row_number) := ⟨rfl, rfl, rfl, by decide +kernel, rfl, by decide +kernel, by decide +kernel⟩
theorem sc_row_at : FnScope ["widths", "number", "values", "rest", "width"] ["widths", "number"] (defScope s_row_at) := ⟨rfl, rfl, rfl, by decide +kernel, rfl, by decide +kernel, by decide +kernel⟩
theorem sc__law_bag : FnScope ["script", "cell"] ["script"] (defScope s__law_bag) := ⟨rfl, rfl, rfl, by decide +kernel, rfl, by decide +kernel, by decide +kernel⟩
theorem sc__law_draw : FnScope ["bag", "limit", "digit", "cell", "mixed", "twice"] ["bag", "limit"] (defScope s__law_draw) := ⟨rfl, rfl, rfl, by decide +kernel, rfl, by decide +kernel, by decide +kernel⟩
theorem sc__law_good : FnScope ["widths", "many", "width"] ["widths"] (defScope s__law_good) := ⟨rfl, rfl, rfl, by decide +kernel, rfl, by decide +kernel, by decide +kernel⟩
theorem sc__law_widths_told : FnScope ["widths", "made"] ["widths"] (defScope s__law_widths_told) := ⟨rfl, rfl, rfl, by decide +kernel, rfl, by decide +kernel, by decide +kernel⟩
theorem sc__law_row_right : FnScope ["widths", "row", "due", "made", "e"] ["widths", "row", "due"] (defScope s__law_row_right) := ⟨rfl, rfl, rfl, by decide +kernel, rfl, by decide +kernel, by decide +kernel⟩
theorem sc__law_widths : FnScope ["bag", "way"] ["bag"] (defScope s__law_widths) := ⟨rfl, rfl, rfl, by decide +kernel, rfl, by decide +kernel, by decide +kernel⟩
theorem sc__law_all : FnScope ["widths", "rows", "width", "longer", "row", "value"] ["widths"] (defScope s__law_all) := ⟨rfl, rfl, rfl, by decide +kernel, rfl, by decide +kernel, by decide +kernel⟩
theorem sc__law_is : FnScope ["thing", "due"] ["thing", "due"] (defScope s__law_is) := ⟨rfl, rfl, rfl, by decide +kernel, rfl, by decide +kernel, by decide +kernel⟩
theorem sc__law_words_right : FnScope ["bag", "word", "k", "at", "odd", "number", "low"] ["bag"] (defScope s__law_words_right) := ⟨rfl, rfl, rfl, by decide +kernel, rfl, by decide +kernel, by decide +kernel⟩
theorem sc_law : FnScope ["script", "bag", "widths", "good", "bad", "odd", "made", "many", "width", "rows", "k", "row", "number", "ahead", "wide", "every", "spot", "at", "wrong"] ["script"] (defScope s_law) := ⟨rfl, rfl, rfl, by decide +kernel, rfl, by decide +kernel, by decide +kernel⟩
structure Txt (K : PySem.W.Frag) (mg : Str → Option Value) (AD : String → Addr) (FD : String → FuncData) (TK : String → Tok) : Prop where
  b_abs : mg "abs" = none
  b_all : mg "all" = none
  b_bool : mg "bool" = none
  b_int : mg "int" = none
  b_isinstance : mg "isinstance" = none
  b_len : mg "len" = none
  b_list : mg "list" = none
  b_range : mg "range" = none
  b_repr : mg "repr" = none
  b_reversed : mg "reversed" = none
  b_str : mg "str" = none
  b_tuple : mg "tuple" = none
  b_zip : mg "zip" = none
  g_LETTERS : mg "LETTERS" = some (.str "abcdefghijklmnopqrstuvwxyz" (TK "LETTERS"))
  g_LONGEST_NAME : mg "LONGEST_NAME" = some (.int 12 (TK "LONGEST_NAME"))
  g_MOST_COLUMNS : mg "MOST_COLUMNS" = some (.int 3 (TK "MOST_COLUMNS"))
  g_WIDEST : mg "WIDEST" = some (.int 64 (TK "WIDEST"))
  g_MOST_ROWS : mg "MOST_ROWS" = some (.int 4096 (TK "MOST_ROWS"))
  f_BadRow___init__ : Fun K "__init__" "BadRow.__init__" s_BadRow___init__ (AD "BadRow.__init__") (FD "BadRow.__init__")
  f_is_whole : FunD K "is_whole" "is_whole" (defArgs s_is_whole) (defBody s_is_whole) (defScope s_is_whole) [.non, .non] [] (AD "is_whole") (FD "is_whole")
  g_is_whole : mg "is_whole" = some (.ref (AD "is_whole"))
  f_is_name : Fun K "is_name" "is_name" s_is_name (AD "is_name") (FD "is_name")
  g_is_name : mg "is_name" = some (.ref (AD "is_name"))
  f_is_sequence : FunD K "is_sequence" "is_sequence" (defArgs s_is_sequence) (defBody s_is_sequence) (defScope s_is_sequence) [.int 0, .non] [] (AD "is_sequence") (FD "is_sequence")
  g_is_sequence : mg "is_sequence" = some (.ref (AD "is_sequence"))
  f_check_widths : Fun K "check_widths" "check_widths" s_check_widths (AD "check_widths") (FD "check_widths")
  g_check_widths : mg "check_widths" = some (.ref (AD "check_widths"))
  f_check_row : Fun K "check_row" "check_row" s_check_row (AD "check_row") (FD "check_row")
  g_check_row : mg "check_row" = some (.ref (AD "check_row"))
  f_row_count : Fun K "row_count" "row_count" s_row_count (AD "row_count") (FD "row_count")
  g_row_count : mg "row_count" = some (.ref (AD "row_count"))
  f_row_number : Fun K "row_number" "row_number" s_row_number (AD "row_number") (FD "row_number")
  g_row_number : mg "row_number" = some (.ref (AD "row_number"))
  f_row_at : Fun K "row_at" "row_at" s_row_at (AD "row_at") (FD "row_at")
  g_row_at : mg "row_at" = some (.ref (AD "row_at"))
  f__law_bag : Fun K "_law_bag" "_law_bag" s__law_bag (AD "_law_bag") (FD "_law_bag")
  g__law_bag : mg "_law_bag" = some (.ref (AD "_law_bag"))
  f__law_draw : Fun K "_law_draw" "_law_draw" s__law_draw (AD "_law_draw") (FD "_law_draw")
  g__law_draw : mg "_law_draw" = some (.ref (AD "_law_draw"))
  f__law_good : Fun K "_law_good" "_law_good" s__law_good (AD "_law_good") (FD "_law_good")
  g__law_good : mg "_law_good" = some (.ref (AD "_law_good"))
  f__law_widths_told : Fun K "_law_widths_told" "_law_widths_told" s__law_widths_told (AD "_law_widths_told") (FD "_law_widths_told")
  g__law_widths_told : mg "_law_widths_told" = some (.ref (AD "_law_widths_told"))
  f__law_row_right : Fun K "_law_row_right" "_law_row_right" s__law_row_right (AD "_law_row_right") (FD "_law_row_right")
  g__law_row_right : mg "_law_row_right" = some (.ref (AD "_law_row_right"))
  f__law_widths : Fun K "_law_widths" "_law_widths" s__law_widths (AD "_law_widths") (FD "_law_widths")
  g__law_widths : mg "_law_widths" = some (.ref (AD "_law_widths"))
  f__law_all : Fun K "_law_all" "_law_all" s__law_all (AD "_law_all") (FD "_law_all")
  g__law_all : mg "_law_all" = some (.ref (AD "_law_all"))
  f__law_is : Fun K "_law_is" "_law_is" s__law_is (AD "_law_is") (FD "_law_is")
  g__law_is : mg "_law_is" = some (.ref (AD "_law_is"))
  f__law_words_right : Fun K "_law_words_right" "_law_words_right" s__law_words_right (AD "_law_words_right") (FD "_law_words_right")
  g__law_words_right : mg "_law_words_right" = some (.ref (AD "_law_words_right"))
  f_law : Fun K "law" "law" s_law (AD "law") (FD "law")
  g_law : mg "law" = some (.ref (AD "law"))
  g_FetchError : mg "FetchError" = some (.ref (AD "FetchError"))
  e_FetchError : PySem.W.exmOne K (.ref (AD "FetchError")) (.ref (AD "FetchError")) = some true
  x_FetchError : PySem.W.excIn K (AD "FetchError") [.type "ValueError", .type "Exception", .type "BaseException", .type "object"] "ValueError.__new__" = true
  k_FetchError : PySem.W.keepIn K (.ref (AD "FetchError")) = true
  s_FetchError : PySem.W.subIn K (.ref (AD "FetchError")) (.type "BaseException") = some true
  t_FetchError : PySem.W.typeIn K (.ref (AD "FetchError")) = some (.type "type")
  g_BadWidths : mg "BadWidths" = some (.ref (AD "BadWidths"))
  e_BadWidths : PySem.W.exmOne K (.ref (AD "BadWidths")) (.ref (AD "BadWidths")) = some true
  x_BadWidths : PySem.W.excIn K (AD "BadWidths") [.type "ValueError", .type "Exception", .type "BaseException", .type "object"] "ValueError.__new__" = true
  k_BadWidths : PySem.W.keepIn K (.ref (AD "BadWidths")) = true
  s_BadWidths : PySem.W.subIn K (.ref (AD "BadWidths")) (.type "BaseException") = some true
  t_BadWidths : PySem.W.typeIn K (.ref (AD "BadWidths")) = some (.type "type")
  g_BadRow : mg "BadRow" = some (.ref (AD "BadRow"))
  e_BadRow : PySem.W.exmOne K (.ref (AD "BadRow")) (.ref (AD "BadRow")) = some true
  o_BadRow : OexC K (AD "BadRow")
  i_BadRow : PySem.W.findIn K (.ref (AD "BadRow")) "__init__" = some (some (.ref (AD "BadRow.__init__")))
  ti_BadRow : PySem.W.typeIn K (.ref (AD "BadRow.__init__")) = some (.type "function")
  xf_BadRow : XfC K (AD "BadRow")
  n_BadRow_row : PySem.W.findIn K (.ref (AD "BadRow")) "row" = some none
theorem Txt.bd_BadRow___init__ {K : PySem.W.Frag} {mg : Str → Option Value} {AD : String → Addr} {FD : String → FuncData} {TK : String → Tok} (T : Txt K mg AD FD TK) : Binds K (FD "BadRow.__init__") ["self", "row"] [] := T.f_BadRow___init__.binds fun _ _ _ _ _ _ us hl => match us, hl with | [_, _], _ => rfl
theorem Txt.bd_is_whole {K : PySem.W.Frag} {mg : Str → Option Value} {AD : String → Addr} {FD : String → FuncData} {TK : String → Tok} (T : Txt K mg AD FD TK) : Binds K (FD "is_whole") ["thing", "low", "high"] [] := by
  obtain ⟨ds, hv, hb⟩ : ∃ ds, Vals ([] : List V) ds ∧ Binds K (FD "is_whole") ["thing", "low", "high"] ds := T.f_is_whole.binds1 3 2 (by simp) rfl fun T kV doc pm an cdv ct us its h1 h2 => match us, its, h1, h2 with | [_, _, _], [_, _], _, _ => ⟨_, rfl, rfl⟩
  cases hv
  exact hb
theorem Txt.bd_is_whole_1 {K : PySem.W.Frag} {mg : Str → Option Value} {AD : String → Addr} {FD : String → FuncData} {TK : String → Tok} (T : Txt K mg AD FD TK) : ∃ ds, Vals ([.non] : List V) ds ∧ Binds K (FD "is_whole") ["thing", "low", "high"] ds := T.f_is_whole.binds1 2 1 (by simp) rfl fun T kV doc pm an cdv ct us its h1 h2 => match us, its, h1, h2 with | [_, _], [_, _], _, _ => ⟨_, rfl, rfl⟩
theorem Txt.bd_is_whole_2 {K : PySem.W.Frag} {mg : Str → Option Value} {AD : String → Addr} {FD : String → FuncData} {TK : String → Tok} (T : Txt K mg AD FD TK) : ∃ ds, Vals ([.non, .non] : List V) ds ∧ Binds K (FD "is_whole") ["thing", "low", "high"] ds := T.f_is_whole.binds1 1 0 (by simp) rfl fun T kV doc pm an cdv ct us its h1 h2 => match us, its, h1, h2 with | [_], [_, _], _, _ => ⟨_, rfl, rfl⟩
theorem Txt.bd_is_name {K : PySem.W.Frag} {mg : Str → Option Value} {AD : String → Addr} {FD : String → FuncData} {TK : String → Tok} (T : Txt K mg AD FD TK) : Binds K (FD "is_name") ["thing"] [] := T.f_is_name.binds fun _ _ _ _ _ _ us hl => match us, hl with | [_], _ => rfl
theorem Txt.bd_is_sequence {K : PySem.W.Frag} {mg : Str → Option Value} {AD : String → Addr} {FD : String → FuncData} {TK : String → Tok} (T : Txt K mg AD FD TK) : Binds K (FD "is_sequence") ["thing", "low", "high"] [] := by
  obtain ⟨ds, hv, hb⟩ : ∃ ds, Vals ([] : List V) ds ∧ Binds K (FD "is_sequence") ["thing", "low", "high"] ds := T.f_is_sequence.binds1 3 2 (by simp) rfl fun T kV doc pm an cdv ct us its h1 h2 => match us, its, h1, h2 with | [_, _, _], [_, _], _, _ => ⟨_, rfl, rfl⟩
  cases hv
  exact hb
theorem Txt.bd_is_sequence_1 {K : PySem.W.Frag} {mg : Str → Option Value} {AD : String → Addr} {FD : String → FuncData} {TK : String → Tok} (T : Txt K mg AD FD TK) : ∃ ds, Vals ([.non] : List V) ds ∧ Binds K (FD "is_sequence") ["thing", "low", "high"] ds := T.f_is_sequence.binds1 2 1 (by simp) rfl fun T kV doc pm an cdv ct us its h1 h2 => match us, its, h1, h2 with | [_, _], [_, _], _, _ => ⟨_, rfl, rfl⟩
theorem Txt.bd_is_sequence_2 {K : PySem.W.Frag} {mg : Str → Option Value} {AD : String → Addr} {FD : String → FuncData} {TK : String → Tok} (T : Txt K mg AD FD TK) : ∃ ds, Vals ([.int 0, .non] : List V) ds ∧ Binds K (FD "is_sequence") ["thing", "low", "high"] ds := T.f_is_sequence.binds1 1 0 (by simp) rfl fun T kV doc pm an cdv ct us its h1 h2 => match us, its, h1, h2 with | [_], [_, _], _, _ => ⟨_, rfl, rfl⟩
theorem Txt.bd_check_widths {K : PySem.W.Frag} {mg : Str → Option Value} {AD : String → Addr} {FD : String → FuncData} {TK : String → Tok} (T : Txt K mg AD FD TK) : Binds K (FD "check_widths") ["widths"] [] := T.f_check_widths.binds fun _ _ _ _ _ _ us hl => match us, hl with | [_], _ => rfl
theorem Txt.bd_check_row {K : PySem.W.Frag} {mg : Str → Option Value} {AD : String → Addr} {FD : String → FuncData} {TK : String → Tok} (T : Txt K mg AD FD TK) : Binds K (FD "check_row") ["widths", "row"] [] := T.f_check_row.binds fun _ _ _ _ _ _ us hl => match us, hl with | [_, _], _ => rfl
theorem Txt.bd_row_count {K : PySem.W.Frag} {mg : Str → Option Value} {AD : String → Addr} {FD : String → FuncData} {TK : String → Tok} (T : Txt K mg AD FD TK) : Binds K (FD "row_count") ["widths"] [] := T.f_row_count.binds fun _ _ _ _ _ _ us hl => match us, hl with | [_], _ => rfl
theorem Txt.bd_row_number {K : PySem.W.Frag} {mg : Str → Option Value} {AD : String → Addr} {FD : String → FuncData} {TK : String → Tok} (T : Txt K mg AD FD TK) : Binds K (FD "row_number") ["widths", "row"] [] := T.f_row_number.binds fun _ _ _ _ _ _ us hl => match us, hl with | [_, _], _ => rfl
theorem Txt.bd_row_at {K : PySem.W.Frag} {mg : Str → Option Value} {AD : String → Addr} {FD : String → FuncData} {TK : String → Tok} (T : Txt K mg AD FD TK) : Binds K (FD "row_at") ["widths", "number"] [] := T.f_row_at.binds fun _ _ _ _ _ _ us hl => match us, hl with | [_, _], _ => rfl
theorem Txt.bd__law_bag {K : PySem.W.Frag} {mg : Str → Option Value} {AD : String → Addr} {FD : String → FuncData} {TK : String → Tok} (T : Txt K mg AD FD TK) : Binds K (FD "_law_bag") ["script"] [] := T.f__law_bag.binds fun _ _ _ _ _ _ us hl => match us, hl with | [_], _ => rfl
theorem Txt.bd__law_draw {K : PySem.W.Frag} {mg : Str → Option Value} {AD : String → Addr} {FD : String → FuncData} {TK : String → Tok} (T : Txt K mg AD FD TK) : Binds K (FD "_law_draw") ["bag", "limit"] [] := T.f__law_draw.binds fun _ _ _ _ _ _ us hl => match us, hl with | [_, _], _ => rfl
theorem Txt.bd__law_good {K : PySem.W.Frag} {mg : Str → Option Value} {AD : String → Addr} {FD : String → FuncData} {TK : String → Tok} (T : Txt K mg AD FD TK) : Binds K (FD "_law_good") ["widths"] [] := T.f__law_good.binds fun _ _ _ _ _ _ us hl => match us, hl with | [_], _ => rfl
theorem Txt.bd__law_widths_told {K : PySem.W.Frag} {mg : Str → Option Value} {AD : String → Addr} {FD : String → FuncData} {TK : String → Tok} (T : Txt K mg AD FD TK) : Binds K (FD "_law_widths_told") ["widths"] [] := T.f__law_widths_told.binds fun _ _ _ _ _ _ us hl => match us, hl with | [_], _ => rfl
theorem Txt.bd__law_row_right {K : PySem.W.Frag} {mg : Str → Option Value} {AD : String → Addr} {FD : String → FuncData} {TK : String → Tok} (T : Txt K mg AD FD TK) : Binds K (FD "_law_row_right") ["widths", "row", "due"] [] := T.f__law_row_right.binds fun _ _ _ _ _ _ us hl => match us, hl with | [_, _, _], _ => rfl
theorem Txt.bd__law_widths {K : PySem.W.Frag} {mg : Str → Option Value} {AD : String → Addr} {FD : String → FuncData} {TK : String → Tok} (T : Txt K mg AD FD TK) : Binds K (FD "_law_widths") ["bag"] [] := T.f__law_widths.binds fun _ _ _ _ _ _ us hl => match us, hl with | [_], _ => rfl
theorem Txt.bd__law_all {K : PySem.W.Frag} {mg : Str → Option Value} {AD : String → Addr} {FD : String → FuncData} {TK : String → Tok} (T : Txt K mg AD FD TK) : Binds K (FD "_law_all") ["widths"] [] := T.f__law_all.binds fun _ _ _ _ _ _ us hl => match us, hl with | [_], _ => rfl
theorem Txt.bd__law_is {K : PySem.W.Frag} {mg : Str → Option Value} {AD : String → Addr} {FD : String → FuncData} {TK : String → Tok} (T : Txt K mg AD FD TK) : Binds K (FD "_law_is") ["thing", "due"] [] := T.f__law_is.binds fun _ _ _ _ _ _ us hl => match us, hl with | [_, _], _ => rfl
theorem Txt.bd__law_words_right {K : PySem.W.Frag} {mg : Str → Option Value} {AD : String → Addr} {FD : String → FuncData} {TK : String → Tok} (T : Txt K mg AD FD TK) : Binds K (FD "_law_words_right") ["bag"] [] := T.f__law_words_right.binds fun _ _ _ _ _ _ us hl => match us, hl with | [_], _ => rfl
theorem Txt.bd_law {K : PySem.W.Frag} {mg : Str → Option Value} {AD : String → Addr} {FD : String → FuncData} {TK : String → Tok} (T : Txt K mg AD FD TK) : Binds K (FD "law") ["script"] [] := T.f_law.binds fun _ _ _ _ _ _ us hl => match us, hl with | [_], _ => rfl
end K02
namespace K02
open PySem L2 Co Fx
def FL : String → List Str
  | "BadRow" => ["row"]
  | _ => []
def m__law_all : FC := calmF (defM false 1 6 (SeqS (SetS 1 (LstE (ConsA (TupE NilA) NilA)))
  (SeqS (ForS (SeqI (VarE 0)) (NameG 2) (scopeS (SeqS (SetS 3 (LstE NilA))
  (SeqS (ForS (SeqI (CbE fList (ConsA (VarE 1) NilA))) (NameG 4) (scopeS (SetS 3 (OpE fAdd (VarE 3) (LcE (Rng1I (ConsA (VarE 2) NilA)) (NameG 5) YesT (OpE fAdd (VarE 4) (TupE (ConsA (VarE 5) NilA))) [5])))))
  (SetS 1 (VarE 3))))))
  (RetS (VarE 1)))))
def m__law_bag : FC := calmF (defM true 1 2 (RetS (LmuE (ConsA (LcE (SeqI (SlE (VarE 0) NoO (PartO (CE (.int 63))))) (NameG 1) YesT (CbE fInt (ConsA (VarE 1) NilA)) [1]) (ConsA (CE (.int 0)) (ConsA (CE (.int 0)) (ConsA (CE (.int 0)) (ConsA (CE (.int 20021)) NilA))))))))
def m__law_draw : FC := calmF (defM false 2 6 (SeqS (AsgS (OpE fAdd (OpE fIx (VarE 0) (CE (.int 3))) (CE (.int 1))) (SubG (VarE 0) (CE (.int 3))))
  (SeqS (IfS (TestE (OpE fGt (OpE fIx (VarE 0) (CE (.int 2))) (CE (.int 0)))) (SeqS (SetS 2 (OpE fMod (CbE fInt (ConsA (OpE fIx (VarE 0) (CE (.int 2))) NilA)) (VarE 1)))
  (SeqS (AsgS (OpE fDiv (OpE fIx (VarE 0) (CE (.int 2))) (VarE 1)) (SubG (VarE 0) (CE (.int 2))))
  (RetS (VarE 2)))) NextS)
  (SeqS (SetS 3 (OpE fIx (VarE 0) (CE (.int 3))))
  (SeqS (IfS (TestE (OpE fLt (OpE fIx (VarE 0) (CE (.int 1))) (CbE fLen (ConsA (OpE fIx (VarE 0) (CE (.int 0))) NilA)))) (SeqS (SetS 3 (OpE fIx (OpE fIx (VarE 0) (CE (.int 0))) (OpE fIx (VarE 0) (CE (.int 1)))))
  (SeqS (AsgS (OpE fAdd (OpE fIx (VarE 0) (CE (.int 1))) (CE (.int 1))) (SubG (VarE 0) (CE (.int 1))))
  (IfS (TestE (OpE fGe (CbE fAbs (ConsA (VarE 3) NilA)) (OpE fPow (CE (.int 10)) (CE (.int 18))))) (SeqS (AsgS (OpE fDiv (CbE fAbs (ConsA (VarE 3) NilA)) (VarE 1)) (SubG (VarE 0) (CE (.int 2))))
  (RetS (OpE fMod (CbE fInt (ConsA (CbE fAbs (ConsA (VarE 3) NilA)) NilA)) (VarE 1)))) NextS))) NextS)
  (SeqS (SetS 4 (OpE fMod (CbE fInt (ConsA (OpE fAdd (OpE fAdd (OpE fAdd (OpE fMul (OpE fIx (VarE 0) (CE (.int 4))) (CE (.int 48271))) (OpE fMul (OpE fMod (CbE fInt (ConsA (VarE 3) NilA)) (CE (.int 2147483629))) (CE (.int 69621)))) (OpE fMul (OpE fIx (VarE 0) (CE (.int 3))) (CE (.int 7919)))) (CE (.int 11))) NilA)) (CE (.int 2147483647))))
  (SeqS (AsgS (VarE 4) (SubG (VarE 0) (CE (.int 4))))
  (SeqS (SetS 5 (OpE fMod (CbE fInt (ConsA (OpE fAdd (OpE fAdd (OpE fMul (VarE 4) (CE (.int 16807))) (OpE fMul (OpE fMul (OpE fIx (VarE 0) (CE (.int 3))) (OpE fIx (VarE 0) (CE (.int 3)))) (CE (.int 104729)))) (OpE fDiv (VarE 4) (CE (.int 65536)))) NilA)) (CE (.int 998244353))))
  (RetS (OpE fMod (CbE fInt (ConsA (OpE fDiv (VarE 5) (CE (.int 7))) NilA)) (VarE 1)))))))))))
def m__law_good : FC := calmF (defM false 1 3 (SeqS (IfS (TOr (TNot (TestE (IsiTE .list .tuple (VarE 0)))) (TNot (TestE (ChainE fLe fLe (CE (.int 1)) (CbE fLen (ConsA (VarE 0) NilA)) (CE (.int 3)))))) (RetS (CE (.bl false))) NextS)
  (SeqS (SetS 1 (CE (.int 1)))
  (SeqS (ForS (SeqI (VarE 0)) (NameG 2) (scopeS (SeqS (IfS (TOr (TNot (TestE (IsiE .int (VarE 2)))) (TOr (TestE (IsiE .bool (VarE 2))) (TNot (TestE (ChainE fLe fLe (CE (.int 1)) (VarE 2) (CE (.int 64))))))) (RetS (CE (.bl false))) NextS)
  (SetS 1 (OpE fMul (VarE 1) (VarE 2))))))
  (RetS (OpE fLe (VarE 1) (CE (.int 4096))))))))
def m_is_whole : FC := calmF (defM false 3 3 (SeqS (IfS (TOr (TNot (TestE (IsiE .int (VarE 0)))) (TestE (IsiE .bool (VarE 0)))) (RetS (CE (.bl false))) NextS)
  (RetS (AndE (OrE (OpE fIsN (VarE 1) (CE .non)) (OpE fLe (VarE 1) (VarE 0))) (OrE (OpE fIsN (VarE 2) (CE .non)) (OpE fLe (VarE 0) (VarE 2)))))))
def m_is_sequence : FC := calmF (defM false 3 3 (RetS (AndE (IsiTE .list .tuple (VarE 0)) (CallE m_is_whole [] (ConsA (CbE fLen (ConsA (VarE 0) NilA)) (ConsA (VarE 1) (ConsA (VarE 2) NilA)))))))
def m_check_row : FC := defM false 2 4 (SeqS (IfS (TNot (TestE (CallE m_is_sequence [] (ConsA (VarE 1) (ConsA (CbE fLen (ConsA (VarE 0) NilA)) (ConsA (CbE fLen (ConsA (VarE 0) NilA)) NilA)))))) (RaiseS "BadRow" ["row"] (ConsA (VarE 1) NilA)) NextS)
  (SeqS (ForS (ZipI (ConsA (VarE 1) (ConsA (VarE 0) NilA))) (TupG 2 (ConsG (NameG 2) (ConsG (NameG 3) NilG))) (scopeS (IfS (TNot (TestE (CallE m_is_whole [] (ConsA (VarE 2) (ConsA (CE (.int 0)) (ConsA (OpE fSub (VarE 3) (CE (.int 1))) NilA)))))) (RaiseS "BadRow" ["row"] (ConsA (VarE 1) NilA)) NextS)))
  (RetS (CbE fTuple (ConsA (VarE 1) NilA)))))
def m__law_row_right : FC := calmF (defM false 3 5 (SeqS (TryAsS 4 (isC "BadRow") (SetS 3 (CallE m_check_row [] (ConsA (VarE 0) (ConsA (VarE 1) NilA)))) (fun c xs n => (RetS (AndE (NotE (VarE 2)) (OpE fEqA (CbE fRepr (ConsA (XfE "BadRow" 0 c xs n 4) NilA)) (CbE fRepr (ConsA (VarE 1) NilA)))))))
  (RetS (AndE (VarE 2) (AndE (IsiE .tuple (VarE 3)) (OpE fEqA (VarE 3) (CbE fTuple (ConsA (VarE 1) NilA))))))))
def m__law_widths : FC := calmF (defM false 1 2 (SeqS (SetS 1 (CallE m__law_draw [] (ConsA (VarE 0) (ConsA (CE (.int 4)) NilA))))
  (SeqS (IfS (TestE (OpE fEqA (VarE 1) (CE (.int 0)))) (RetS (IfE (TestE (OpE fEqA (CallE m__law_draw [] (ConsA (VarE 0) (ConsA (CE (.int 2)) NilA))) (CE (.int 0)))) (LstE (ConsA (CE (.int 64)) (ConsA (CE (.int 64)) NilA))) (LstE (ConsA (CE (.int 16)) (ConsA (CE (.int 16)) (ConsA (CE (.int 16)) NilA)))))) NextS)
  (SeqS (IfS (TestE (OpE fEqA (VarE 1) (CE (.int 1)))) (RetS (LstE (ConsA (OpE fAdd (CE (.int 1)) (CallE m__law_draw [] (ConsA (VarE 0) (ConsA (CE (.int 64)) NilA)))) NilA))) NextS)
  (SeqS (IfS (TestE (OpE fEqA (VarE 1) (CE (.int 2)))) (RetS (LstE (ConsA (OpE fAdd (CE (.int 1)) (CallE m__law_draw [] (ConsA (VarE 0) (ConsA (CE (.int 64)) NilA)))) (ConsA (OpE fAdd (CE (.int 1)) (CallE m__law_draw [] (ConsA (VarE 0) (ConsA (CE (.int 64)) NilA)))) NilA)))) NextS)
  (RetS (LstE (ConsA (OpE fAdd (CE (.int 1)) (CallE m__law_draw [] (ConsA (VarE 0) (ConsA (CE (.int 7)) NilA)))) (ConsA (OpE fAdd (CE (.int 1)) (CallE m__law_draw [] (ConsA (VarE 0) (ConsA (CE (.int 9)) NilA)))) (ConsA (OpE fAdd (CE (.int 1)) (CallE m__law_draw [] (ConsA (VarE 0) (ConsA (CE (.int 65)) NilA)))) NilA))))))))))
def m_row_count : FC := calmF (defM false 1 3 (SeqS (SetS 1 (CE (.int 1)))
  (SeqS (ForS (SeqI (VarE 0)) (NameG 2) (scopeS (SetS 1 (OpE fMul (VarE 1) (VarE 2)))))
  (RetS (VarE 1)))))
def m_check_widths : FC := defM false 1 2 (SeqS (IfS (TNot (TestE (CallE m_is_sequence [] (ConsA (VarE 0) (ConsA (CE (.int 1)) (ConsA (CE (.int 3)) NilA)))))) (Raise0S "BadWidths") NextS)
  (SeqS (IfS (TNot (TestE (CbE fAll (ConsA (LcE (SeqI (VarE 0)) (NameG 1) YesT (CallE m_is_whole [] (ConsA (VarE 1) (ConsA (CE (.int 1)) (ConsA (CE (.int 64)) NilA)))) [1]) NilA)))) (Raise0S "BadWidths") NextS)
  (SeqS (IfS (TestE (OpE fGt (CallE m_row_count [] (ConsA (VarE 0) NilA)) (CE (.int 4096)))) (Raise0S "BadWidths") NextS)
  (RetS (CbE fTuple (ConsA (VarE 0) NilA))))))
def m__law_widths_told : FC := calmF (defM false 1 2 (SeqS (TryS (isC "BadWidths") (SetS 1 (CallE m_check_widths [] (ConsA (VarE 0) NilA))) (fun c xs => (RetS (CE .non))))
  (RetS (VarE 1))))
def m__law_is : FC := calmF (defM false 2 2 (RetS (IfE (TestE (VarE 1)) (OpE fIsB (VarE 0) (CE (.bl true))) (OpE fIsB (VarE 0) (CE (.bl false))))))
def m_is_name : FC := calmF (defM false 1 2 (SeqS (IfS (TOr (TNot (TestE (IsiE .str (VarE 0)))) (TNot (TestE (ChainE fLe fLe (CE (.int 1)) (CbE fLen (ConsA (VarE 0) NilA)) (CE (.int 12)))))) (RetS (CE (.bl false))) NextS)
  (RetS (CbE fAll (ConsA (LcE (StrI (VarE 0)) (NameG 1) YesT (OpE fInS (VarE 1) (CE (.str "abcdefghijklmnopqrstuvwxyz"))) [1]) NilA)))))
def m__law_words_right : FC := calmF (defM false 1 7 (SeqS (SetS 1 (JoinE (CE (.str "")) (LcE (Rng1I (ConsA (CallE m__law_draw [] (ConsA (VarE 0) (ConsA (CE (.int 15)) NilA))) NilA)) (NameG 2) YesT (OpE fIx (CE (.str "abcdefghijklmnopqrstuvwxyz")) (CallE m__law_draw [] (ConsA (VarE 0) (ConsA (CE (.int 26)) NilA)))) [2])))
  (SeqS (IfS (TNot (TestE (CallE m__law_is [] (ConsA (CallE m_is_name [] (ConsA (VarE 1) NilA)) (ConsA (ChainE fLe fLe (CE (.int 1)) (CbE fLen (ConsA (VarE 1) NilA)) (CE (.int 12))) NilA))))) (RetS (CE (.bl false))) NextS)
  (SeqS (SetS 3 (CallE m__law_draw [] (ConsA (VarE 0) (ConsA (OpE fAdd (CbE fLen (ConsA (VarE 1) NilA)) (CE (.int 1))) NilA))))
  (SeqS (SetS 4 (OpE fAdd (OpE fAdd (SlE (VarE 1) NoO (PartO (VarE 3))) (OpE fIx (LstE (ConsA (CE (.str "A")) (ConsA (CE (.str "1")) (ConsA (CE (.str "_")) (ConsA (CE (.str " ")) (ConsA (CE (.str "-")) NilA)))))) (CallE m__law_draw [] (ConsA (VarE 0) (ConsA (CE (.int 5)) NilA))))) (SlE (VarE 1) (PartO (VarE 3)) NoO)))
  (SeqS (SetS 5 (OpE fSub (CallE m__law_draw [] (ConsA (VarE 0) (ConsA (OpE fPow (CE (.int 10)) (CE (.int 30))) NilA))) (OpE fPow (CE (.int 10)) (CE (.int 29)))))
  (SeqS (SetS 6 (OpE fSub (CallE m__law_draw [] (ConsA (VarE 0) (ConsA (OpE fPow (CE (.int 10)) (CE (.int 30))) NilA))) (OpE fPow (CE (.int 10)) (CE (.int 29)))))
  (SeqS (IfS (TOr (TestE (CallE m_is_name [] (ConsA (VarE 4) NilA))) (TOr (TestE (CallE m_is_name [] (ConsA (VarE 5) NilA))) (TOr (TestE (CallE m_is_name [] (ConsA (CE .non) NilA))) (TestE (CallE m_is_name [] (ConsA (LstE (ConsA (VarE 1) NilA)) NilA)))))) (RetS (CE (.bl false))) NextS)
  (SeqS (IfS (TOr (TNot (TestE (CallE m__law_is [] (ConsA (CallE m_is_whole [.non] (ConsA (VarE 5) (ConsA (VarE 6) NilA))) (ConsA (OpE fGe (VarE 5) (VarE 6)) NilA))))) (TNot (TestE (CallE m__law_is [] (ConsA (CallE m_is_whole [] (ConsA (VarE 5) (ConsA (CE .non) (ConsA (VarE 6) NilA)))) (ConsA (OpE fLe (VarE 5) (VarE 6)) NilA)))))) (RetS (CE (.bl false))) NextS)
  (SeqS (IfS (TOr (TNot (TestE (CallE m_is_whole [.non, .non] (ConsA (VarE 5) NilA)))) (TOr (TNot (TestE (CallE m_is_whole [] (ConsA (VarE 6) (ConsA (VarE 6) (ConsA (VarE 6) NilA)))))) (TOr (TestE (CallE m_is_whole [] (ConsA (VarE 6) (ConsA (OpE fAdd (VarE 6) (CE (.int 1))) (ConsA (VarE 6) NilA))))) (TestE (CallE m_is_whole [] (ConsA (VarE 6) (ConsA (VarE 6) (ConsA (OpE fSub (VarE 6) (CE (.int 1))) NilA)))))))) (RetS (CE (.bl false))) NextS)
  (RetS (AndE (NotE (CallE m_is_whole [.non, .non] (ConsA (CE (.bl true)) NilA))) (AndE (NotE (CallE m_is_whole [] (ConsA (CE (.bl false)) (ConsA (CE (.int 0)) (ConsA (CE (.int 1)) NilA))))) (AndE (NotE (CallE m_is_whole [.non, .non] (ConsA (CE .non) NilA))) (AndE (NotE (CallE m_is_whole [.non, .non] (ConsA (VarE 1) NilA))) (NotE (CallE m_is_whole [.non, .non] (ConsA (TupE (ConsA (VarE 5) NilA)) NilA))))))))))))))))))
def m_row_at : FC := calmF (defM false 2 5 (SeqS (SetS 2 (LmuE NilA))
  (SeqS (SetS 3 (VarE 1))
  (SeqS (ForS (RevI (VarE 0)) (NameG 4) (scopeS (SeqS (DropS (AppE (VarE 2) (OpE fMod (VarE 3) (VarE 4))))
  (SetS 3 (OpE fDiv (VarE 3) (VarE 4))))))
  (RetS (TrvE (VarE 2)))))))
def m_row_number : FC := calmF (defM false 2 5 (SeqS (SetS 2 (CE (.int 0)))
  (SeqS (ForS (ZipI (ConsA (VarE 1) (ConsA (VarE 0) NilA))) (TupG 2 (ConsG (NameG 3) (ConsG (NameG 4) NilG))) (scopeS (SetS 2 (OpE fAdd (OpE fMul (VarE 2) (VarE 4)) (VarE 3)))))
  (RetS (VarE 2)))))
def m_law : FC := calmF (defM false 1 19 (SeqS (SetS 1 (CallE m__law_bag [] (ConsA (VarE 0) NilA)))
  (SeqS (SetS 2 (CallE m__law_widths [] (ConsA (VarE 1) NilA)))
  (SeqS (SetS 3 (CallE m__law_widths_told [] (ConsA (VarE 2) NilA)))
  (SeqS (IfS (TestE (CallE m__law_good [] (ConsA (VarE 2) NilA))) (IfS (TOr (TNot (TestE (IsiE .tuple (VarE 3)))) (TOr (TestE (OpE fNeA (VarE 3) (CbE fTuple (ConsA (VarE 2) NilA)))) (TestE (OpE fNeA (CallE m__law_widths_told [] (ConsA (CbE fTuple (ConsA (VarE 2) NilA)) NilA)) (VarE 3))))) (RetS (CE (.bl false))) NextS) (IfS (TestE (OpE fNotN (VarE 3) (CE .non))) (RetS (CE (.bl false))) NextS))
  (SeqS (SetS 4 (CbE fListM (ConsA (VarE 2) NilA)))
  (SeqS (AsgS (OpE fIx (LstE (ConsA (CE (.int 0)) (ConsA (CE (.int 65)) (ConsA (NegE (CE (.int 1))) (ConsA (CE (.bl true)) (ConsA (CE .non) (ConsA (CE (.str "2")) (ConsA (TupE (ConsA (CE (.int 2)) NilA)) (ConsA (OpE fAdd (CE (.int 64)) (CallE m__law_draw [] (ConsA (VarE 1) (ConsA (OpE fPow (CE (.int 10)) (CE (.int 30))) NilA)))) NilA))))))))) (CallE m__law_draw [] (ConsA (VarE 1) (ConsA (CE (.int 8)) NilA)))) (SubG (VarE 4) (CallE m__law_draw [] (ConsA (VarE 1) (ConsA (CbE fLen (ConsA (VarE 4) NilA)) NilA)))))
  (SeqS (ForS (SeqI (LstE (ConsA (VarE 4) (ConsA (LstE NilA) (ConsA (TupE (ConsA (CE (.int 2)) (ConsA (CE (.int 2)) (ConsA (CE (.int 2)) (ConsA (CE (.int 2)) NilA))))) (ConsA (CE .non) (ConsA (CE (.int 7)) (ConsA (CE (.str "ab")) (ConsA (LstE (ConsA (CE (.int 64)) (ConsA (CE (.int 65)) NilA))) (ConsA (LstE (ConsA (CE (.int 17)) (ConsA (CE (.int 16)) (ConsA (CE (.int 16)) NilA)))) (ConsA (OpE fAdd (VarE 2) (LstE (ConsA (CE (.int 1)) NilA))) NilA))))))))))) (NameG 5) (scopeS (SeqS (SetS 6 (CallE m__law_widths_told [] (ConsA (VarE 5) NilA)))
  (IfS (TestE (OpE fNeA (OpE fNotN (VarE 6) (CE .non)) (CallE m__law_good [] (ConsA (VarE 5) NilA)))) (RetS (CE (.bl false))) NextS))))
  (SeqS (IfS (TNot (TestE (CallE m__law_good [] (ConsA (VarE 2) NilA)))) (SetS 2 (LstE (ConsA (CE (.int 3)) (ConsA (OpE fAdd (CE (.int 2)) (CallE m__law_draw [] (ConsA (VarE 1) (ConsA (CE (.int 40)) NilA)))) NilA)))) NextS)
  (SeqS (SetS 7 (CE (.int 1)))
  (SeqS (ForS (SeqI (VarE 2)) (NameG 8) (scopeS (SetS 7 (OpE fMul (VarE 7) (VarE 8)))))
  (SeqS (IfS (TOr (TestE (OpE fNeA (CallE m_row_count [] (ConsA (VarE 2) NilA)) (VarE 7))) (TOr (TestE (OpE fNeA (CallE m_row_count [] (ConsA (CbE fTuple (ConsA (VarE 2) NilA)) NilA)) (VarE 7))) (TestE (OpE fNeA (CallE m_row_count [] (ConsA (LstE NilA) NilA)) (CE (.int 1)))))) (RetS (CE (.bl false))) NextS)
  (SeqS (SetS 9 (IfE (TestE (OpE fLe (VarE 7) (CE (.int 300)))) (CallE m__law_all [] (ConsA (VarE 2) NilA)) (LcE (Rng1I (ConsA (CE (.int 12)) NilA)) (NameG 10) YesT (CbE fTuple (ConsA (LcE (SeqI (VarE 2)) (NameG 8) YesT (CallE m__law_draw [] (ConsA (VarE 1) (ConsA (VarE 8) NilA))) [8]) NilA)) [10])))
  (SeqS (IfS (TAnd (TestE (OpE fLe (VarE 7) (CE (.int 300)))) (TestE (OpE fNeA (LcE (SeqI (VarE 9)) (NameG 11) YesT (CallE m_row_number [] (ConsA (VarE 2) (ConsA (VarE 11) NilA))) [11]) (LrgE (VarE 7))))) (RetS (CE (.bl false))) NextS)
  (SeqS (ForS (SeqI (OpE fAdd (VarE 9) (LstE (ConsA (CbE fTuple (ConsA (LcE (SeqI (VarE 2)) (NameG 8) YesT (CE (.int 0)) [8]) NilA)) (ConsA (CbE fTuple (ConsA (LcE (SeqI (VarE 2)) (NameG 8) YesT (OpE fSub (VarE 8) (CE (.int 1))) [8]) NilA)) NilA))))) (NameG 11) (scopeS (SeqS (SetS 12 (CallE m_row_number [] (ConsA (CbE fTuple (ConsA (VarE 2) NilA)) (ConsA (VarE 11) NilA))))
  (SeqS (SetS 13 (CE (.int 0)))
  (SeqS (ForS (Rng1I (ConsA (CbE fLen (ConsA (VarE 2) NilA)) NilA)) (NameG 10) (scopeS (SetS 13 (OpE fAdd (OpE fMul (VarE 13) (OpE fIx (VarE 2) (VarE 10))) (OpE fIx (VarE 11) (VarE 10))))))
  (IfS (TOr (TestE (OpE fNeA (VarE 12) (VarE 13))) (TOr (TestE (OpE fNeA (CallE m_row_at [] (ConsA (VarE 2) (ConsA (VarE 12) NilA))) (VarE 11))) (TNot (TestE (IsiE .tuple (CallE m_row_at [] (ConsA (VarE 2) (ConsA (VarE 12) NilA)))))))) (RetS (CE (.bl false))) NextS))))))
  (SeqS (SetS 14 (LcE (Rng1I (ConsA (OpE fAdd (CE (.int 4)) (CallE m__law_draw [] (ConsA (VarE 1) (ConsA (CE (.int 2)) NilA)))) NilA)) (NameG 10) YesT (OpE fAdd (CE (.int 1)) (CallE m__law_draw [] (ConsA (VarE 1) (ConsA (CE (.int 3)) NilA)))) [10]))
  (SeqS (SetS 15 (CallE m__law_all [] (ConsA (VarE 14) NilA)))
  (SeqS (IfS (TOr (TestE (OpE fNeA (LcE (SeqI (VarE 15)) (NameG 16) YesT (CallE m_row_number [] (ConsA (VarE 14) (ConsA (VarE 16) NilA))) [16]) (LrgE (CbE fLen (ConsA (VarE 15) NilA))))) (TestE (OpE fNeA (LcE (Rng1I (ConsA (CbE fLen (ConsA (VarE 15) NilA)) NilA)) (NameG 10) YesT (CallE m_row_at [] (ConsA (VarE 14) (ConsA (VarE 10) NilA))) [10]) (VarE 15)))) (RetS (CE (.bl false))) NextS)
  (SeqS (IfS (TOr (TestE (OpE fNeA (CallE m_row_count [] (ConsA (VarE 14) NilA)) (CbE fLen (ConsA (VarE 15) NilA)))) (TOr (TestE (OpE fNeA (CallE m_row_number [] (ConsA (LstE NilA) (ConsA (TupE NilA) NilA))) (CE (.int 0)))) (TestE (OpE fNeA (CallE m_row_at [] (ConsA (LstE NilA) (ConsA (CE (.int 0)) NilA))) (TupE NilA))))) (RetS (CE (.bl false))) NextS)
  (SeqS (SetS 11 (CbE fList (ConsA (OpE fIx (VarE 9) (CallE m__law_draw [] (ConsA (VarE 1) (ConsA (CbE fLen (ConsA (VarE 9) NilA)) NilA)))) NilA)))
  (SeqS (IfS (TOr (TNot (TestE (CallE m__law_row_right [] (ConsA (VarE 2) (ConsA (VarE 11) (ConsA (CE (.bl true)) NilA)))))) (TNot (TestE (CallE m__law_row_right [] (ConsA (CbE fTuple (ConsA (VarE 2) NilA)) (ConsA (CbE fTuple (ConsA (VarE 11) NilA)) (ConsA (CE (.bl true)) NilA))))))) (RetS (CE (.bl false))) NextS)
  (SeqS (SetS 17 (CallE m__law_draw [] (ConsA (VarE 1) (ConsA (CbE fLen (ConsA (VarE 11) NilA)) NilA))))
  (SeqS (SetS 18 (CbE fListM (ConsA (VarE 11) NilA)))
  (SeqS (AsgS (OpE fIx (LstE (ConsA (OpE fIx (VarE 2) (VarE 17)) (ConsA (NegE (CE (.int 1))) (ConsA (CE (.bl false)) (ConsA (CE .non) (ConsA (CE (.str "0")) (ConsA (TupE (ConsA (CE (.int 0)) NilA)) (ConsA (OpE fAdd (OpE fIx (VarE 2) (VarE 17)) (CallE m__law_draw [] (ConsA (VarE 1) (ConsA (OpE fPow (CE (.int 10)) (CE (.int 30))) NilA)))) NilA)))))))) (CallE m__law_draw [] (ConsA (VarE 1) (ConsA (CE (.int 7)) NilA)))) (SubG (VarE 18) (VarE 17)))
  (SeqS (ForS (SeqI (LstE (ConsA (VarE 18) (ConsA (SlE (VarE 11) NoO (PartO (NegE (CE (.int 1))))) (ConsA (OpE fAdd (VarE 11) (LstE (ConsA (CE (.int 0)) NilA))) (ConsA (TupE NilA) (ConsA (CE .non) (ConsA (CE (.int 0)) (ConsA (CE (.str "0")) (ConsA (CbE fTuple (ConsA (VarE 18) NilA)) NilA)))))))))) (NameG 5) (scopeS (IfS (TNot (TestE (CallE m__law_row_right [] (ConsA (VarE 2) (ConsA (VarE 5) (ConsA (CE (.bl false)) NilA)))))) (RetS (CE (.bl false))) NextS)))
  (RetS (CallE m__law_words_right [] (ConsA (VarE 1) NilA))))))))))))))))))))))))))))
abbrev md (K : PySem.W.Frag) (AD : String → Addr) : Md := ⟨K, AD, FL⟩
end K02
namespace K02
open PySem L2 Co Fx
section
variable {P : Program} {w : World} {K : PySem.W.Frag} {mg : Str → Option Value} {base : Heap} {AD : String → Addr} {FD : String → FuncData} {TK : String → Tok}
theorem ok__law_all (T : Txt K mg AD FD TK) : FnOk P w K mg base CX0 1 (AD "_law_all") (FD "_law_all") ["widths"] (spM (md K AD) m__law_all) := by
  refine T.f__law_all.ok sc__law_all (fun vs H Q E h => spM_len (calmF_len defM_len) h) (fun cdv A outer s H vs Q E hr h => ?_)
  refine ⟨_, (pss_cons (ps_set (i := 1) sc__law_all.nd rfl (by first | exact Or.inl rfl | exact Or.inr rfl) (pe_lst (pa_cons (pe_tup pa_nil) pa_nil)))
  (pss_cons (ps_for PassesOwn.never rfl (pi_seq (pv 0)) (pg_name (i := 2) sc__law_all.nd rfl (by first | exact Or.inl rfl | exact Or.inr rfl)) (pss_cons (ps_set (i := 3) sc__law_all.nd rfl (by first | exact Or.inl rfl | exact Or.inr rfl) (pe_lst pa_nil))
  (pss_cons (ps_for PassesOwn.never rfl (pi_seq (pe_callTy (r := rLstO K) call_lstO (by rfl) T.b_list (by decide +kernel) (pa_cons (pv 1) pa_nil))) (pg_name (i := 4) sc__law_all.nd rfl (by first | exact Or.inl rfl | exact Or.inr rfl)) (pss_one (ps_set (i := 3) sc__law_all.nd rfl (by first | exact Or.inl rfl | exact Or.inr rfl) (pe_op (r := rAddA K) op_addA (pv 3) (pe_lc (own := [("value", 5)]) rfl sc__law_all.nd (pi_range1 (by rfl) T.b_range (pa_cons (pv 2) pa_nil)) (blkOk_by (own := [("value", 5)]) (N := ["widths", "rows", "width", "longer", "row", "value"]) (sc := defScope s__law_all) (by decide +kernel)) (fun _ _ _ _ _ => (pg_name (i := 5) sc__law_all.nd rfl (by first | exact Or.inl rfl | exact Or.inr rfl))) (fun _ _ _ _ _ => pts_nil) (fun _ _ _ _ _ => (pe_op (r := rAddA K) op_addA (pv 4) (pe_tup (pa_cons (pv 5) pa_nil)))))))))
  (pss_one (ps_set (i := 1) sc__law_all.nd rfl (by first | exact Or.inl rfl | exact Or.inr rfl) (pv 3))))))
  (pss_one (ps_ret (pv 1))))), ?_⟩
  exact def_ok0 (N := ["widths", "rows", "width", "longer", "row", "value"]) rfl ((rs_seq (rs_set (re_lst (ra_cons (re_tup ra_nil) ra_nil)))
  (rs_seq (rs_for (ri_seq re_var) rg_name (RS.scope (rs_seq (rs_set (re_lst ra_nil))
  (rs_seq (rs_for (ri_seq (re_cb (ra_cons re_var ra_nil) k_list)) rg_name (RS.scope (rs_set (re_op re_var (re_lc (ri_rng1 (ra_cons re_var ra_nil)) (rn_name (by decide)) rt_yes (re_op re_var (re_tup (ra_cons re_var ra_nil)) k_add) (fun _ _ _ _ _ z => z)) k_add))))
  (rs_set re_var)))))
  (rs_ret re_var)))) h
theorem ok__law_bag (T : Txt K mg AD FD TK) : FnOk P w K mg base CX0 1 (AD "_law_bag") (FD "_law_bag") ["script"] (spM (md K AD) m__law_bag) := by
  refine T.f__law_bag.ok sc__law_bag (fun vs H Q E h => spM_len (calmF_len defM_len) h) (fun cdv A outer s H vs Q E hr h => ?_)
  refine ⟨_, (pss_one (ps_ret (pe_lst (pa_cons (pe_lc (own := [("cell", 1)]) rfl sc__law_bag.nd (pi_seq (pe_slice (r := rSlX K) sl_any (pv 0) po_none (po_some pe_int))) (blkOk_by (own := [("cell", 1)]) (N := ["script", "cell"]) (sc := defScope s__law_bag) (by decide +kernel)) (fun _ _ _ _ _ => (pg_name (i := 1) sc__law_bag.nd rfl (by first | exact Or.inl rfl | exact Or.inr rfl))) (fun _ _ _ _ _ => pts_nil) (fun _ _ _ _ _ => (pe_callTy call_int1A (by rfl) T.b_int (by decide +kernel) (pa_cons (pv 1) pa_nil)))) (pa_cons pe_int (pa_cons pe_int (pa_cons pe_int (pa_cons pe_int pa_nil)))))))), ?_⟩
  exact def_ok0 (N := ["script", "cell"]) rfl ((rs_ret (re_lmu (ra_cons (re_lc (ri_seq (re_sl re_var ro_none (ro_part re_int))) (rn_name (by decide)) rt_yes (re_cb (ra_cons re_var ra_nil) k_int) (fun _ _ _ _ _ z => z)) (ra_cons re_int (ra_cons re_int (ra_cons re_int (ra_cons re_int ra_nil)))))))) h
theorem ok__law_draw (T : Txt K mg AD FD TK) : FnOk P w K mg base CX0 1 (AD "_law_draw") (FD "_law_draw") ["bag", "limit"] (spM (md K AD) m__law_draw) := by
  refine T.f__law_draw.ok sc__law_draw (fun vs H Q E h => spM_len (calmF_len defM_len) h) (fun cdv A outer s H vs Q E hr h => ?_)
  refine ⟨_, (pss_cons (ps_asg (pe_op (r := rAddA K) op_addA (pe_ix (r := rIx K) ix_seq (pv 0) pe_int (fun _ _ => rfl)) pe_int) (pg_sub (pv 0) pe_int set_list))
  (pss_cons (ps_if (pt_cmpR op_gt (pe_ix (r := rIx K) ix_seq (pv 0) pe_int (fun _ _ => rfl)) pe_int (nomark _)) (pss_cons (ps_set (i := 2) sc__law_draw.nd rfl (by first | exact Or.inl rfl | exact Or.inr rfl) (pe_op op_mod (pe_callTy call_int1A (by rfl) T.b_int (by decide +kernel) (pa_cons (pe_ix (r := rIx K) ix_seq (pv 0) pe_int (fun _ _ => rfl)) pa_nil)) (pv 1)))
  (pss_cons (ps_asg (pe_op op_fdivW (pe_ix (r := rIx K) ix_seq (pv 0) pe_int (fun _ _ => rfl)) (pv 1)) (pg_sub (pv 0) pe_int set_list))
  (pss_one (ps_ret (pv 2))))) pss_nil)
  (pss_cons (ps_set (i := 3) sc__law_draw.nd rfl (by first | exact Or.inl rfl | exact Or.inr rfl) (pe_ix (r := rIx K) ix_seq (pv 0) pe_int (fun _ _ => rfl)))
  (pss_cons (ps_if (pt_cmpR op_lt (pe_ix (r := rIx K) ix_seq (pv 0) pe_int (fun _ _ => rfl)) (pe_callB (r := rLenA K) call_lenA (by rfl) T.b_len (by decide +kernel) (pa_cons (pe_ix (r := rIx K) ix_seq (pv 0) pe_int (fun _ _ => rfl)) pa_nil)) (nomark _)) (pss_cons (ps_set (i := 3) sc__law_draw.nd rfl (by first | exact Or.inl rfl | exact Or.inr rfl) (pe_ix (r := rIx K) ix_seq (pe_ix (r := rIx K) ix_seq (pv 0) pe_int (fun _ _ => rfl)) (pe_ix (r := rIx K) ix_seq (pv 0) pe_int (fun _ _ => rfl)) (fun _ _ => rfl)))
  (pss_cons (ps_asg (pe_op (r := rAddA K) op_addA (pe_ix (r := rIx K) ix_seq (pv 0) pe_int (fun _ _ => rfl)) pe_int) (pg_sub (pv 0) pe_int set_list))
  (pss_one (ps_if (pt_cmpR op_ge (pe_callB call_abs (by rfl) T.b_abs (by decide +kernel) (pa_cons (pv 3) pa_nil)) (pe_op op_pow pe_int pe_int) (nomark _)) (pss_cons (ps_asg (pe_op op_fdivW (pe_callB call_abs (by rfl) T.b_abs (by decide +kernel) (pa_cons (pv 3) pa_nil)) (pv 1)) (pg_sub (pv 0) pe_int set_list))
  (pss_one (ps_ret (pe_op op_mod (pe_callTy call_int1A (by rfl) T.b_int (by decide +kernel) (pa_cons (pe_callB call_abs (by rfl) T.b_abs (by decide +kernel) (pa_cons (pv 3) pa_nil)) pa_nil)) (pv 1))))) pss_nil)))) pss_nil)
  (pss_cons (ps_set (i := 4) sc__law_draw.nd rfl (by first | exact Or.inl rfl | exact Or.inr rfl) (pe_op op_mod (pe_callTy call_int1A (by rfl) T.b_int (by decide +kernel) (pa_cons (pe_op (r := rAddA K) op_addA (pe_op (r := rAddA K) op_addA (pe_op (r := rAddA K) op_addA (pe_op op_mul (pe_ix (r := rIx K) ix_seq (pv 0) pe_int (fun _ _ => rfl)) pe_int) (pe_op op_mul (pe_op op_mod (pe_callTy call_int1A (by rfl) T.b_int (by decide +kernel) (pa_cons (pv 3) pa_nil)) pe_int) pe_int)) (pe_op op_mul (pe_ix (r := rIx K) ix_seq (pv 0) pe_int (fun _ _ => rfl)) pe_int)) pe_int) pa_nil)) pe_int))
  (pss_cons (ps_asg (pv 4) (pg_sub (pv 0) pe_int set_list))
  (pss_cons (ps_set (i := 5) sc__law_draw.nd rfl (by first | exact Or.inl rfl | exact Or.inr rfl) (pe_op op_mod (pe_callTy call_int1A (by rfl) T.b_int (by decide +kernel) (pa_cons (pe_op (r := rAddA K) op_addA (pe_op (r := rAddA K) op_addA (pe_op op_mul (pv 4) pe_int) (pe_op op_mul (pe_op op_mul (pe_ix (r := rIx K) ix_seq (pv 0) pe_int (fun _ _ => rfl)) (pe_ix (r := rIx K) ix_seq (pv 0) pe_int (fun _ _ => rfl))) pe_int)) (pe_op op_fdivW (pv 4) pe_int)) pa_nil)) pe_int))
  (pss_one (ps_ret (pe_op op_mod (pe_callTy call_int1A (by rfl) T.b_int (by decide +kernel) (pa_cons (pe_op op_fdivW (pv 5) pe_int) pa_nil)) (pv 1))))))))))), ?_⟩
  exact def_ok0 (N := ["bag", "limit", "digit", "cell", "mixed", "twice"]) rfl ((rs_seq (rs_asg (re_op (re_op re_var re_int k_ix) re_int k_add) (rg_sub re_var re_int))
  (rs_seq (rs_if (rt_test (re_op (re_op re_var re_int k_ix) re_int k_gt)) (rs_seq (rs_set (re_op (re_cb (ra_cons (re_op re_var re_int k_ix) ra_nil) k_int) re_var k_mod))
  (rs_seq (rs_asg (re_op (re_op re_var re_int k_ix) re_var k_div) (rg_sub re_var re_int))
  (rs_ret re_var))) rs_next)
  (rs_seq (rs_set (re_op re_var re_int k_ix))
  (rs_seq (rs_if (rt_test (re_op (re_op re_var re_int k_ix) (re_cb (ra_cons (re_op re_var re_int k_ix) ra_nil) k_len) k_lt)) (rs_seq (rs_set (re_op (re_op re_var re_int k_ix) (re_op re_var re_int k_ix) k_ix))
  (rs_seq (rs_asg (re_op (re_op re_var re_int k_ix) re_int k_add) (rg_sub re_var re_int))
  (rs_if (rt_test (re_op (re_cb (ra_cons re_var ra_nil) k_abs) (re_op re_int re_int k_pow) k_ge)) (rs_seq (rs_asg (re_op (re_cb (ra_cons re_var ra_nil) k_abs) re_var k_div) (rg_sub re_var re_int))
  (rs_ret (re_op (re_cb (ra_cons (re_cb (ra_cons re_var ra_nil) k_abs) ra_nil) k_int) re_var k_mod))) rs_next))) rs_next)
  (rs_seq (rs_set (re_op (re_cb (ra_cons (re_op (re_op (re_op (re_op (re_op re_var re_int k_ix) re_int k_mul) (re_op (re_op (re_cb (ra_cons re_var ra_nil) k_int) re_int k_mod) re_int k_mul) k_add) (re_op (re_op re_var re_int k_ix) re_int k_mul) k_add) re_int k_add) ra_nil) k_int) re_int k_mod))
  (rs_seq (rs_asg re_var (rg_sub re_var re_int))
  (rs_seq (rs_set (re_op (re_cb (ra_cons (re_op (re_op (re_op re_var re_int k_mul) (re_op (re_op (re_op re_var re_int k_ix) (re_op re_var re_int k_ix) k_mul) re_int k_mul) k_add) (re_op re_var re_int k_div) k_add) ra_nil) k_int) re_int k_mod))
  (rs_ret (re_op (re_cb (ra_cons (re_op re_var re_int k_div) ra_nil) k_int) re_var k_mod)))))))))) h
theorem ok__law_good (T : Txt K mg AD FD TK) : FnOk P w K mg base CX0 1 (AD "_law_good") (FD "_law_good") ["widths"] (spM (md K AD) m__law_good) := by
  refine T.f__law_good.ok sc__law_good (fun vs H Q E h => spM_len (calmF_len defM_len) h) (fun cdv A outer s H vs Q E hr h => ?_)
  refine ⟨_, (pss_cons (ps_if (PW.pt (pw_or (pt_not (pt_val (pe_callB (r := rIsiT K) call_isiT (by rfl) T.b_isinstance (by decide +kernel) (pa_cons (pv 0) (pa_cons (pe_tup (pa_cons (pe_bltn (v := .ty "list") (by rfl) T.b_list (by decide +kernel) rfl) (pa_cons (pe_bltn (v := .ty "tuple") (by rfl) T.b_tuple (by decide +kernel) rfl) pa_nil))) pa_nil))))) (pw_or1 (pt_not (pt_chain op_le op_le pe_int (pe_callB (r := rLenA K) call_lenA (by rfl) T.b_len (by decide +kernel) (pa_cons (pv 0) pa_nil)) pe_int))))) (pss_one (ps_ret pe_bl)) pss_nil)
  (pss_cons (ps_set (i := 1) sc__law_good.nd rfl (by first | exact Or.inl rfl | exact Or.inr rfl) pe_int)
  (pss_cons (ps_for PassesOwn.never rfl (pi_seq (pv 0)) (pg_name (i := 2) sc__law_good.nd rfl (by first | exact Or.inl rfl | exact Or.inr rfl)) (pss_cons (ps_if (PW.pt (pw_or (pt_not (pt_val (pe_callB (r := rIsi K) call_isi (by rfl) T.b_isinstance (by decide +kernel) (pa_cons (pv 2) (pa_cons (pe_bltn (v := .ty "int") (by rfl) T.b_int (by decide +kernel) rfl) pa_nil))))) (pw_or (pt_val (pe_callB (r := rIsi K) call_isi (by rfl) T.b_isinstance (by decide +kernel) (pa_cons (pv 2) (pa_cons (pe_bltn (v := .ty "bool") (by rfl) T.b_bool (by decide +kernel) rfl) pa_nil)))) (pw_or1 (pt_not (pt_chain op_le op_le pe_int (pv 2) pe_int)))))) (pss_one (ps_ret pe_bl)) pss_nil)
  (pss_one (ps_set (i := 1) sc__law_good.nd rfl (by first | exact Or.inl rfl | exact Or.inr rfl) (pe_op op_mul (pv 1) (pv 2))))))
  (pss_one (ps_ret (pe_cmpR op_le (pv 1) pe_int (nomark _))))))), ?_⟩
  exact def_ok0 (N := ["widths", "many", "width"]) rfl ((rs_seq (rs_if (rt_or (rt_not (rt_B (re_isiT .list .tuple re_var))) (rt_not (rt_test (re_chain re_int (re_cb (ra_cons re_var ra_nil) k_len) k_le re_int k_le)))) (rs_ret re_bl) rs_next)
  (rs_seq (rs_set re_int)
  (rs_seq (rs_for (ri_seq re_var) rg_name (RS.scope (rs_seq (rs_if (rt_or (rt_not (rt_B (re_isi .int re_var))) (rt_or (rt_B (re_isi .bool re_var)) (rt_not (rt_test (re_chain re_int re_var k_le re_int k_le))))) (rs_ret re_bl) rs_next)
  (rs_set (re_op re_var re_var k_mul)))))
  (rs_ret (re_op re_var re_int k_le)))))) h
theorem ok_BadRow___init__ (T : Txt K mg AD FD TK) : FnOk P w K mg base CX0 1 (AD "BadRow.__init__") (FD "BadRow.__init__") ["self", "row"] (spIni (AD "BadRow") ["row"]) := by
  refine T.f_BadRow___init__.ok sc_BadRow___init__ (fun vs H Q E h => spIni_len h) (fun cdv A outer s H vs Q E hr h => ?_)
  obtain ⟨a, ws, rfl, hl, ha, k⟩ := h
  obtain ⟨v0, rfl⟩ : ∃ v0, ws = [v0] := by
    match ws, hl with
    | [v0], _ => exact ⟨v0, rfl⟩
  refine ⟨_, (pss_one (ps_ost (pv 0) (pv 1))), ?_⟩
  exact ⟨v0, rfl, .ref a, rfl, a, AD "BadRow", rfl, T.o_BadRow, T.n_BadRow_row, .inl ⟨ha, fun dx h1 h2 => k dx h1 h2⟩⟩
theorem ok_is_whole (T : Txt K mg AD FD TK) : FnOk P w K mg base CX0 1 (AD "is_whole") (FD "is_whole") ["thing", "low", "high"] (spM (md K AD) m_is_whole) := by
  refine T.f_is_whole.ok sc_is_whole (fun vs H Q E h => spM_len (calmF_len defM_len) h) (fun cdv A outer s H vs Q E hr h => ?_)
  refine ⟨_, (pss_cons (ps_if (PW.pt (pw_or (pt_not (pt_val (pe_callB (r := rIsi K) call_isi (by rfl) T.b_isinstance (by decide +kernel) (pa_cons (pv 0) (pa_cons (pe_bltn (v := .ty "int") (by rfl) T.b_int (by decide +kernel) rfl) pa_nil))))) (pw_or1 (pt_val (pe_callB (r := rIsi K) call_isi (by rfl) T.b_isinstance (by decide +kernel) (pa_cons (pv 0) (pa_cons (pe_bltn (v := .ty "bool") (by rfl) T.b_bool (by decide +kernel) rfl) pa_nil))))))) (pss_one (ps_ret pe_bl)) pss_nil)
  (pss_one (ps_ret (pe_and (pe_or (pe_cmpR op_isN1 (pv 1) pe_non (nomark _)) (pe_one (pe_cmpR op_le (pv 1) (pv 0) (nomark _)))) (pe_one (pe_or (pe_cmpR op_isN1 (pv 2) pe_non (nomark _)) (pe_one (pe_cmpR op_le (pv 0) (pv 2) (nomark _))))))))), ?_⟩
  exact def_ok0 (N := ["thing", "low", "high"]) rfl ((rs_seq (rs_if (rt_or (rt_not (rt_B (re_isi .int re_var))) (rt_B (re_isi .bool re_var))) (rs_ret re_bl) rs_next)
  (rs_ret (re_and (re_or (re_op re_var re_non k_isN) (re_op re_var re_var k_le)) (re_or (re_op re_var re_non k_isN) (re_op re_var re_var k_le)))))) h
theorem ok_is_sequence (T : Txt K mg AD FD TK) : FnOk P w K mg base CX0 2 (AD "is_sequence") (FD "is_sequence") ["thing", "low", "high"] (spM (md K AD) m_is_sequence) := by
  have G_is_whole : FnOk P w K mg base CX0 _ _ _ _ _ := ok_is_whole T
  refine T.f_is_sequence.ok sc_is_sequence (fun vs H Q E h => spM_len (calmF_len defM_len) h) (fun cdv A outer s H vs Q E hr h => ?_)
  refine ⟨_, (pss_one (ps_ret (pe_and (pe_callB (r := rIsiT K) call_isiT (by rfl) T.b_isinstance (by decide +kernel) (pa_cons (pv 0) (pa_cons (pe_tup (pa_cons (pe_bltn (v := .ty "list") (by rfl) T.b_list (by decide +kernel) rfl) (pa_cons (pe_bltn (v := .ty "tuple") (by rfl) T.b_tuple (by decide +kernel) rfl) pa_nil))) pa_nil))) (pe_one (pe_call (G_is_whole) (hr.mono (by decide)) rfl T.g_is_whole T.f_is_whole.kp T.bd_is_whole .nil pass0 (pa_cons (pe_callB (r := rLenA K) call_lenA (by rfl) T.b_len (by decide +kernel) (pa_cons (pv 0) pa_nil)) (pa_cons (pv 1) (pa_cons (pv 2) pa_nil)))))))), ?_⟩
  exact def_ok0 (N := ["thing", "low", "high"]) rfl ((rs_ret (re_and (re_isiT .list .tuple re_var) (re_call0 (ra_cons (re_cb (ra_cons re_var ra_nil) k_len) (ra_cons re_var (ra_cons re_var ra_nil))) (fun _ => .nil))))) h
theorem ok_check_row (T : Txt K mg AD FD TK) : FnOk P w K mg base (CX P w) 3 (AD "check_row") (FD "check_row") ["widths", "row"] (spM (md K AD) m_check_row) := by
  have G_BadRow___init__ : FnOk P w K mg base CX0 _ _ _ _ _ := ok_BadRow___init__ T
  have G_is_sequence : FnOk P w K mg base CX0 _ _ _ _ _ := ok_is_sequence T
  have G_is_whole : FnOk P w K mg base CX0 _ _ _ _ _ := ok_is_whole T
  refine T.f_check_row.okX sc_check_row (fun vs H Q E h => spM_len (defM_len) h) (fun cdv A outer s H vs Q E hr h => ?_)
  refine ⟨_, (pss_cons (ps_if (pt_not (pt_val (pe_call (G_is_sequence) (hr.mono (by decide)) rfl T.g_is_sequence T.f_is_sequence.kp T.bd_is_sequence .nil pass0 (pa_cons (pv 1) (pa_cons (pe_callB (r := rLenA K) call_lenA (by rfl) T.b_len (by decide +kernel) (pa_cons (pv 0) pa_nil)) (pa_cons (pe_callB (r := rLenA K) call_lenA (by rfl) T.b_len (by decide +kernel) (pa_cons (pv 0) pa_nil)) pa_nil)))))) (pss_one (ps_raise rfl (takes_of rfl rfl rfl rfl) (pmk_oex T.o_BadRow T.i_BadRow T.ti_BadRow (G_BadRow___init__) (hr.mono (by decide)) T.bd_BadRow___init__ .nil pass0 rfl T.g_BadRow (pa_cons (pv 1) pa_nil)))) pss_nil)
  (pss_cons (ps_for (passes_of rfl) rfl (pi_zipX (by rfl) T.b_zip (pa_cons (pv 1) (pa_cons (pv 0) pa_nil))) (pg_tup rfl (pgs_cons (pg_name (i := 2) sc_check_row.nd rfl (by first | exact Or.inl rfl | exact Or.inr rfl)) (pgs_cons (pg_name (i := 3) sc_check_row.nd rfl (by first | exact Or.inl rfl | exact Or.inr rfl)) pgs_nil))) (pss_one (ps_if (pt_not (pt_val (pe_call (G_is_whole) (hr.mono (by decide)) rfl T.g_is_whole T.f_is_whole.kp T.bd_is_whole .nil pass0 (pa_cons (pv 2) (pa_cons pe_int (pa_cons (pe_op op_sub (pv 3) pe_int) pa_nil)))))) (pss_one (ps_raise rfl (takes_of rfl rfl rfl rfl) (pmk_oex T.o_BadRow T.i_BadRow T.ti_BadRow (G_BadRow___init__) (hr.mono (by decide)) T.bd_BadRow___init__ .nil pass0 rfl T.g_BadRow (pa_cons (pv 1) pa_nil)))) pss_nil)))
  (pss_one (ps_ret (pe_callTy (r := rTupO K) call_tupO (by rfl) T.b_tuple (by decide +kernel) (pa_cons (pv 1) pa_nil)))))), ?_⟩
  exact def_ok (N := ["widths", "row", "value", "width"]) rfl ((rs_seq (rs_if (rt_not (rt_B (re_call0 (ra_cons re_var (ra_cons (re_cb (ra_cons re_var ra_nil) k_len) (ra_cons (re_cb (ra_cons re_var ra_nil) k_len) ra_nil))) (fun _ => .nil)))) (rs_raise (ra_cons re_var ra_nil) rfl (by decide) (by decide)) rs_next)
  (rs_seq (rs_for (ri_zip (ra_cons re_var (ra_cons re_var ra_nil))) (rg_tup (rgs_cons rg_name (rgs_cons rg_name rgs_nil))) (RS.scope (rs_if (rt_not (rt_B (re_call0 (ra_cons re_var (ra_cons re_int (ra_cons (re_op re_var re_int k_sub) ra_nil))) (fun _ => .nil)))) (rs_raise (ra_cons re_var ra_nil) rfl (by decide) (by decide)) rs_next)))
  (rs_ret (re_cb (ra_cons re_var ra_nil) k_tuple))))) h
theorem ok__law_row_right (T : Txt K mg AD FD TK) : FnG P w K mg base CX0 4 (AD "_law_row_right") (FD "_law_row_right") ["widths", "row", "due"] (spM (md K AD) m__law_row_right) := by
  have G_check_row : FnOk P w K mg base (CX P w) _ _ _ _ _ := ok_check_row T
  refine fnG_of T.f__law_row_right sc__law_row_right (fun vs H Q E h => spM_len (calmF_len defM_len) h) (fun cdv A outer s H vs Q E ga hr h => ?_)
  refine ⟨_, PSs.nox (pss_cons (ps_try_as (i := 4) rfl rfl sc__law_row_right.nd rfl rfl ⟨rfl, by decide, .inl T.g_BadRow⟩ takes0 (fun W pn xe tk pe => (pss_one (ps_set (i := 3) sc__law_row_right.nd rfl (by first | exact Or.inl rfl | exact Or.inr rfl) (pe_callS (G_check_row) (hr.mono (by decide)) rfl T.g_check_row T.f_check_row.kp T.bd_check_row (fun σ => passAt tk σ) (pa_cons (pv 0) (pa_cons (pv 1) pa_nil)))))) (fun a oe cls d pn hz hf => (pss_one (ps_ret (pe_and (pe_not (pv 2)) (pe_one (pe_cmpR (r := rEqA K) (op_eqA (by exact hr.units)) (pe_callB (r := rReprD K) (call_reprD (by exact ga) (by exact hr.units)) (by rfl) T.b_repr (by decide +kernel) (pa_cons (pe_xf T.xf_BadRow T.n_BadRow_row hz hf (pv 4)) pa_nil)) (pe_callB (r := rReprD K) (call_reprD (by exact ga) (by exact hr.units)) (by rfl) T.b_repr (by decide +kernel) (pa_cons (pv 1) pa_nil)) (nomark _))))))))
  (pss_one (ps_ret (pe_and (pv 2) (pe_and (pe_callB (r := rIsi K) call_isi (by rfl) T.b_isinstance (by decide +kernel) (pa_cons (pv 3) (pa_cons (pe_bltn (v := .ty "tuple") (by rfl) T.b_tuple (by decide +kernel) rfl) pa_nil))) (pe_one (pe_cmpR (r := rEqA K) (op_eqA (by exact hr.units)) (pv 3) (pe_callTy (r := rTupO K) call_tupO (by rfl) T.b_tuple (by decide +kernel) (pa_cons (pv 1) pa_nil)) (nomark _)))))))), ?_⟩
  exact def_ok0 (N := ["widths", "row", "due", "made", "e"]) rfl ((rs_seq (rs_tryas (fun _ => (rs_set (re_callS (ra_cons re_var (ra_cons re_var ra_nil))))) (sub_one T.e_BadRow) (fun _ _ c xs _ n _ hn hx => (rs_ret (re_and (re_not re_var) (re_op (re_cb (ra_cons (re_xf hn hx (k := 0) rfl (show (FL "BadRow").Nodup by decide)) ra_nil) k_repr) (re_cb (ra_cons re_var ra_nil) k_repr) k_eqA)))))
  (rs_ret (re_and re_var (re_and (re_isi .tuple re_var) (re_op re_var (re_cb (ra_cons re_var ra_nil) k_tuple) k_eqA)))))) h
theorem ok__law_widths (T : Txt K mg AD FD TK) : FnOk P w K mg base CX0 2 (AD "_law_widths") (FD "_law_widths") ["bag"] (spM (md K AD) m__law_widths) := by
  have G__law_draw : FnOk P w K mg base CX0 _ _ _ _ _ := ok__law_draw T
  refine T.f__law_widths.ok sc__law_widths (fun vs H Q E h => spM_len (calmF_len defM_len) h) (fun cdv A outer s H vs Q E hr h => ?_)
  refine ⟨_, (pss_cons (ps_set (i := 1) sc__law_widths.nd rfl (by first | exact Or.inl rfl | exact Or.inr rfl) (pe_call (G__law_draw) (hr.mono (by decide)) rfl T.g__law_draw T.f__law_draw.kp T.bd__law_draw .nil pass0 (pa_cons (pv 0) (pa_cons pe_int pa_nil))))
  (pss_cons (ps_if (pt_cmpR (r := rEqA K) (op_eqA (by exact hr.units)) (pv 1) pe_int (nomark _)) (pss_one (ps_ret (pe_ifExp (pt_cmpR (r := rEqA K) (op_eqA (by exact hr.units)) (pe_call (G__law_draw) (hr.mono (by decide)) rfl T.g__law_draw T.f__law_draw.kp T.bd__law_draw .nil pass0 (pa_cons (pv 0) (pa_cons pe_int pa_nil))) pe_int (nomark _)) (pe_lst (pa_cons pe_int (pa_cons pe_int pa_nil))) (pe_lst (pa_cons pe_int (pa_cons pe_int (pa_cons pe_int pa_nil))))))) pss_nil)
  (pss_cons (ps_if (pt_cmpR (r := rEqA K) (op_eqA (by exact hr.units)) (pv 1) pe_int (nomark _)) (pss_one (ps_ret (pe_lst (pa_cons (pe_op (r := rAddA K) op_addA pe_int (pe_call (G__law_draw) (hr.mono (by decide)) rfl T.g__law_draw T.f__law_draw.kp T.bd__law_draw .nil pass0 (pa_cons (pv 0) (pa_cons pe_int pa_nil)))) pa_nil)))) pss_nil)
  (pss_cons (ps_if (pt_cmpR (r := rEqA K) (op_eqA (by exact hr.units)) (pv 1) pe_int (nomark _)) (pss_one (ps_ret (pe_lst (pa_cons (pe_op (r := rAddA K) op_addA pe_int (pe_call (G__law_draw) (hr.mono (by decide)) rfl T.g__law_draw T.f__law_draw.kp T.bd__law_draw .nil pass0 (pa_cons (pv 0) (pa_cons pe_int pa_nil)))) (pa_cons (pe_op (r := rAddA K) op_addA pe_int (pe_call (G__law_draw) (hr.mono (by decide)) rfl T.g__law_draw T.f__law_draw.kp T.bd__law_draw .nil pass0 (pa_cons (pv 0) (pa_cons pe_int pa_nil)))) pa_nil))))) pss_nil)
  (pss_one (ps_ret (pe_lst (pa_cons (pe_op (r := rAddA K) op_addA pe_int (pe_call (G__law_draw) (hr.mono (by decide)) rfl T.g__law_draw T.f__law_draw.kp T.bd__law_draw .nil pass0 (pa_cons (pv 0) (pa_cons pe_int pa_nil)))) (pa_cons (pe_op (r := rAddA K) op_addA pe_int (pe_call (G__law_draw) (hr.mono (by decide)) rfl T.g__law_draw T.f__law_draw.kp T.bd__law_draw .nil pass0 (pa_cons (pv 0) (pa_cons pe_int pa_nil)))) (pa_cons (pe_op (r := rAddA K) op_addA pe_int (pe_call (G__law_draw) (hr.mono (by decide)) rfl T.g__law_draw T.f__law_draw.kp T.bd__law_draw .nil pass0 (pa_cons (pv 0) (pa_cons pe_int pa_nil)))) pa_nil)))))))))), ?_⟩
  exact def_ok0 (N := ["bag", "way"]) rfl ((rs_seq (rs_set (re_call0 (ra_cons re_var (ra_cons re_int ra_nil)) (fun _ => .nil)))
  (rs_seq (rs_if (rt_test (re_op re_var re_int k_eqA)) (rs_ret (re_if (rt_test (re_op (re_call0 (ra_cons re_var (ra_cons re_int ra_nil)) (fun _ => .nil)) re_int k_eqA)) (re_lst (ra_cons re_int (ra_cons re_int ra_nil))) (re_lst (ra_cons re_int (ra_cons re_int (ra_cons re_int ra_nil)))))) rs_next)
  (rs_seq (rs_if (rt_test (re_op re_var re_int k_eqA)) (rs_ret (re_lst (ra_cons (re_op re_int (re_call0 (ra_cons re_var (ra_cons re_int ra_nil)) (fun _ => .nil)) k_add) ra_nil))) rs_next)
  (rs_seq (rs_if (rt_test (re_op re_var re_int k_eqA)) (rs_ret (re_lst (ra_cons (re_op re_int (re_call0 (ra_cons re_var (ra_cons re_int ra_nil)) (fun _ => .nil)) k_add) (ra_cons (re_op re_int (re_call0 (ra_cons re_var (ra_cons re_int ra_nil)) (fun _ => .nil)) k_add) ra_nil)))) rs_next)
  (rs_ret (re_lst (ra_cons (re_op re_int (re_call0 (ra_cons re_var (ra_cons re_int ra_nil)) (fun _ => .nil)) k_add) (ra_cons (re_op re_int (re_call0 (ra_cons re_var (ra_cons re_int ra_nil)) (fun _ => .nil)) k_add) (ra_cons (re_op re_int (re_call0 (ra_cons re_var (ra_cons re_int ra_nil)) (fun _ => .nil)) k_add) ra_nil)))))))))) h
theorem ok_row_count (T : Txt K mg AD FD TK) : FnOk P w K mg base CX0 1 (AD "row_count") (FD "row_count") ["widths"] (spM (md K AD) m_row_count) := by
  refine T.f_row_count.ok sc_row_count (fun vs H Q E h => spM_len (calmF_len defM_len) h) (fun cdv A outer s H vs Q E hr h => ?_)
  refine ⟨_, (pss_cons (ps_set (i := 1) sc_row_count.nd rfl (by first | exact Or.inl rfl | exact Or.inr rfl) pe_int)
  (pss_cons (ps_for PassesOwn.never rfl (pi_seq (pv 0)) (pg_name (i := 2) sc_row_count.nd rfl (by first | exact Or.inl rfl | exact Or.inr rfl)) (pss_one (ps_set (i := 1) sc_row_count.nd rfl (by first | exact Or.inl rfl | exact Or.inr rfl) (pe_op op_mul (pv 1) (pv 2)))))
  (pss_one (ps_ret (pv 1))))), ?_⟩
  exact def_ok0 (N := ["widths", "many", "width"]) rfl ((rs_seq (rs_set re_int)
  (rs_seq (rs_for (ri_seq re_var) rg_name (RS.scope (rs_set (re_op re_var re_var k_mul))))
  (rs_ret re_var)))) h
theorem ok_check_widths (T : Txt K mg AD FD TK) : FnOk P w K mg base (CX P w) 3 (AD "check_widths") (FD "check_widths") ["widths"] (spM (md K AD) m_check_widths) := by
  have G_is_sequence : FnOk P w K mg base CX0 _ _ _ _ _ := ok_is_sequence T
  have G_is_whole : FnOk P w K mg base CX0 _ _ _ _ _ := ok_is_whole T
  have G_row_count : FnOk P w K mg base CX0 _ _ _ _ _ := ok_row_count T
  refine T.f_check_widths.okX sc_check_widths (fun vs H Q E h => spM_len (defM_len) h) (fun cdv A outer s H vs Q E hr h => ?_)
  refine ⟨_, (pss_cons (ps_if (pt_not (pt_val (pe_call (G_is_sequence) (hr.mono (by decide)) rfl T.g_is_sequence T.f_is_sequence.kp T.bd_is_sequence .nil pass0 (pa_cons (pv 0) (pa_cons pe_int (pa_cons (pe_glob (v := .int 3) rfl T.g_MOST_COLUMNS ⟨_, rfl⟩) pa_nil)))))) (pss_one (ps_raise rfl (takes_of rfl rfl rfl rfl) (pmk_own0 PySem.F.excBase_ValueError T.x_BadWidths T.g_BadWidths T.k_BadWidths (raises_own T.s_BadWidths T.t_BadWidths) rfl))) pss_nil)
  (pss_cons (ps_if (pt_not (pt_val (pe_callB (r := rAll K) (cr_all rfl) (by rfl) T.b_all (by decide +kernel) (pa_cons (pe_lc (own := [("width", 1)]) rfl sc_check_widths.nd (pi_seq (pv 0)) (blkOk_by (own := [("width", 1)]) (N := ["widths", "width"]) (sc := defScope s_check_widths) (by decide +kernel)) (fun _ _ _ _ _ => (pg_name (i := 1) sc_check_widths.nd rfl (by first | exact Or.inl rfl | exact Or.inr rfl))) (fun _ _ _ _ _ => pts_nil) (fun _ _ _ _ _ => (pe_call (G_is_whole) (hr.mono (by decide)) rfl T.g_is_whole T.f_is_whole.kp T.bd_is_whole .nil pass0 (pa_cons (pv 1) (pa_cons pe_int (pa_cons (pe_glob (v := .int 64) rfl T.g_WIDEST ⟨_, rfl⟩) pa_nil)))))) pa_nil)))) (pss_one (ps_raise rfl (takes_of rfl rfl rfl rfl) (pmk_own0 PySem.F.excBase_ValueError T.x_BadWidths T.g_BadWidths T.k_BadWidths (raises_own T.s_BadWidths T.t_BadWidths) rfl))) pss_nil)
  (pss_cons (ps_if (pt_cmpR op_gt (pe_call (G_row_count) (hr.mono (by decide)) rfl T.g_row_count T.f_row_count.kp T.bd_row_count .nil pass0 (pa_cons (pv 0) pa_nil)) (pe_glob (v := .int 4096) rfl T.g_MOST_ROWS ⟨_, rfl⟩) (nomark _)) (pss_one (ps_raise rfl (takes_of rfl rfl rfl rfl) (pmk_own0 PySem.F.excBase_ValueError T.x_BadWidths T.g_BadWidths T.k_BadWidths (raises_own T.s_BadWidths T.t_BadWidths) rfl))) pss_nil)
  (pss_one (ps_ret (pe_callTy (r := rTupO K) call_tupO (by rfl) T.b_tuple (by decide +kernel) (pa_cons (pv 0) pa_nil))))))), ?_⟩
  exact def_ok (N := ["widths", "width"]) rfl ((rs_seq (rs_if (rt_not (rt_B (re_call0 (ra_cons re_var (ra_cons re_int (ra_cons re_int ra_nil))) (fun _ => .nil)))) (rs_raise0 rfl) rs_next)
  (rs_seq (rs_if (rt_not (rt_B (re_cb (ra_cons (re_lc (ri_seq re_var) (rn_name (by decide)) rt_yes (re_call0 (ra_cons re_var (ra_cons re_int (ra_cons re_int ra_nil))) (fun _ => .nil)) (fun _ _ _ _ _ z => z)) ra_nil) k_all))) (rs_raise0 rfl) rs_next)
  (rs_seq (rs_if (rt_test (re_op (re_call0 (ra_cons re_var ra_nil) (fun _ => .nil)) re_int k_gt)) (rs_raise0 rfl) rs_next)
  (rs_ret (re_cb (ra_cons re_var ra_nil) k_tuple)))))) h
theorem ok__law_widths_told (T : Txt K mg AD FD TK) : FnOk P w K mg base CX0 4 (AD "_law_widths_told") (FD "_law_widths_told") ["widths"] (spM (md K AD) m__law_widths_told) := by
  have G_check_widths : FnOk P w K mg base (CX P w) _ _ _ _ _ := ok_check_widths T
  refine T.f__law_widths_told.ok sc__law_widths_told (fun vs H Q E h => spM_len (calmF_len defM_len) h) (fun cdv A outer s H vs Q E hr h => ?_)
  refine ⟨_, (pss_cons (ps_try_only rfl rfl ⟨rfl, by decide, .inl T.g_BadWidths⟩ takes0 (fun W pn xe tk pe => (pss_one (ps_set (i := 1) sc__law_widths_told.nd rfl (by first | exact Or.inl rfl | exact Or.inr rfl) (pe_callS (G_check_widths) (hr.mono (by decide)) rfl T.g_check_widths T.f_check_widths.kp T.bd_check_widths (fun σ => passAt tk σ) (pa_cons (pv 0) pa_nil))))) (fun a oe cls d pn hz hf => (pss_one (ps_ret pe_non))))
  (pss_one (ps_ret (pv 1)))), ?_⟩
  exact def_ok0 (N := ["widths", "made"]) rfl ((rs_seq (rs_try (fun _ => (rs_set (re_callS (ra_cons re_var ra_nil)))) (sub_one T.e_BadWidths) (fun _ _ c xs => (rs_ret re_non)))
  (rs_ret re_var))) h
theorem ok__law_is (T : Txt K mg AD FD TK) : FnOk P w K mg base CX0 1 (AD "_law_is") (FD "_law_is") ["thing", "due"] (spM (md K AD) m__law_is) := by
  refine T.f__law_is.ok sc__law_is (fun vs H Q E h => spM_len (calmF_len defM_len) h) (fun cdv A outer s H vs Q E hr h => ?_)
  refine ⟨_, (pss_one (ps_ret (pe_ifExp (pt_val (pv 1)) (pe_cmpR op_isBl (pv 0) pe_bl (nomark _)) (pe_cmpR op_isBl (pv 0) pe_bl (nomark _))))), ?_⟩
  exact def_ok0 (N := ["thing", "due"]) rfl ((rs_ret (re_if (rt_B re_var) (re_op re_var re_bl k_isB) (re_op re_var re_bl k_isB)))) h
theorem ok_is_name (T : Txt K mg AD FD TK) : FnOk P w K mg base CX0 1 (AD "is_name") (FD "is_name") ["thing"] (spM (md K AD) m_is_name) := by
  refine T.f_is_name.ok sc_is_name (fun vs H Q E h => spM_len (calmF_len defM_len) h) (fun cdv A outer s H vs Q E hr h => ?_)
  refine ⟨_, (pss_cons (ps_if (PW.pt (pw_or (pt_not (pt_val (pe_callB (r := rIsi K) call_isi (by rfl) T.b_isinstance (by decide +kernel) (pa_cons (pv 0) (pa_cons (pe_bltn (v := .ty "str") (by rfl) T.b_str (by decide +kernel) rfl) pa_nil))))) (pw_or1 (pt_not (pt_chain op_le op_le pe_int (pe_callB (r := rLenA K) call_lenA (by rfl) T.b_len (by decide +kernel) (pa_cons (pv 0) pa_nil)) (pe_glob (v := .int 12) rfl T.g_LONGEST_NAME ⟨_, rfl⟩)))))) (pss_one (ps_ret pe_bl)) pss_nil)
  (pss_one (ps_ret (pe_callB (r := rAll K) (cr_all rfl) (by rfl) T.b_all (by decide +kernel) (pa_cons (pe_lc (own := [("sign", 1)]) rfl sc_is_name.nd (pi_str (pv 0)) (blkOk_by (own := [("sign", 1)]) (N := ["thing", "sign"]) (sc := defScope s_is_name) (by decide +kernel)) (fun _ _ _ _ _ => (pg_name (i := 1) sc_is_name.nd rfl (by first | exact Or.inl rfl | exact Or.inr rfl))) (fun _ _ _ _ _ => pts_nil) (fun _ _ _ _ _ => (pe_cmpR op_inS (pv 1) (pe_glob (v := .str "abcdefghijklmnopqrstuvwxyz") rfl T.g_LETTERS ⟨_, rfl⟩) rfl))) pa_nil))))), ?_⟩
  exact def_ok0 (N := ["thing", "sign"]) rfl ((rs_seq (rs_if (rt_or (rt_not (rt_B (re_isi .str re_var))) (rt_not (rt_test (re_chain re_int (re_cb (ra_cons re_var ra_nil) k_len) k_le re_int k_le)))) (rs_ret re_bl) rs_next)
  (rs_ret (re_cb (ra_cons (re_lc (ri_str re_var) (rn_name (by decide)) rt_yes (re_op re_var re_str k_inS) (fun _ _ _ _ _ z => z)) ra_nil) k_all)))) h
theorem ok__law_words_right (T : Txt K mg AD FD TK) : FnOk P w K mg base CX0 2 (AD "_law_words_right") (FD "_law_words_right") ["bag"] (spM (md K AD) m__law_words_right) := by
  have G__law_draw : FnOk P w K mg base CX0 _ _ _ _ _ := ok__law_draw T
  have G__law_is : FnOk P w K mg base CX0 _ _ _ _ _ := ok__law_is T
  have G_is_name : FnOk P w K mg base CX0 _ _ _ _ _ := ok_is_name T
  have G_is_whole : FnOk P w K mg base CX0 _ _ _ _ _ := ok_is_whole T
  obtain ⟨ds_is_whole_1, dv_is_whole_1, bd_is_whole_1⟩ := T.bd_is_whole_1
  obtain ⟨ds_is_whole_2, dv_is_whole_2, bd_is_whole_2⟩ := T.bd_is_whole_2
  refine T.f__law_words_right.ok sc__law_words_right (fun vs H Q E h => spM_len (calmF_len defM_len) h) (fun cdv A outer s H vs Q E hr h => ?_)
  refine ⟨_, (pss_cons (ps_set (i := 1) sc__law_words_right.nd rfl (by first | exact Or.inl rfl | exact Or.inr rfl) (pe_joinA pe_str (pe_lc (own := [("k", 2)]) rfl sc__law_words_right.nd (pi_range1 (by rfl) T.b_range (pa_cons (pe_call (G__law_draw) (hr.mono (by decide)) rfl T.g__law_draw T.f__law_draw.kp T.bd__law_draw .nil pass0 (pa_cons (pv 0) (pa_cons pe_int pa_nil))) pa_nil)) (blkOk_by (own := [("k", 2)]) (N := ["bag", "word", "k", "at", "odd", "number", "low"]) (sc := defScope s__law_words_right) (by decide +kernel)) (fun _ _ _ _ _ => (pg_name (i := 2) sc__law_words_right.nd rfl (by first | exact Or.inl rfl | exact Or.inr rfl))) (fun _ _ _ _ _ => pts_nil) (fun _ _ _ _ _ => (pe_ix (r := rIx K) ix_seq pe_str (pe_call (G__law_draw) (hr.mono (by decide)) rfl T.g__law_draw T.f__law_draw.kp T.bd__law_draw .nil pass0 (pa_cons (pv 0) (pa_cons pe_int pa_nil))) (fun _ _ => rfl))))))
  (pss_cons (ps_if (pt_not (pt_val (pe_call (G__law_is) (hr.mono (by decide)) rfl T.g__law_is T.f__law_is.kp T.bd__law_is .nil pass0 (pa_cons (pe_call (G_is_name) (hr.mono (by decide)) rfl T.g_is_name T.f_is_name.kp T.bd_is_name .nil pass0 (pa_cons (pv 1) pa_nil)) (pa_cons (pe_chain op_le op_le pe_int (pe_callB (r := rLenA K) call_lenA (by rfl) T.b_len (by decide +kernel) (pa_cons (pv 1) pa_nil)) pe_int) pa_nil))))) (pss_one (ps_ret pe_bl)) pss_nil)
  (pss_cons (ps_set (i := 3) sc__law_words_right.nd rfl (by first | exact Or.inl rfl | exact Or.inr rfl) (pe_call (G__law_draw) (hr.mono (by decide)) rfl T.g__law_draw T.f__law_draw.kp T.bd__law_draw .nil pass0 (pa_cons (pv 0) (pa_cons (pe_op (r := rAddA K) op_addA (pe_callB (r := rLenA K) call_lenA (by rfl) T.b_len (by decide +kernel) (pa_cons (pv 1) pa_nil)) pe_int) pa_nil))))
  (pss_cons (ps_set (i := 4) sc__law_words_right.nd rfl (by first | exact Or.inl rfl | exact Or.inr rfl) (pe_op (r := rAddA K) op_addA (pe_op (r := rAddA K) op_addA (pe_slice (r := rSlX K) sl_any (pv 1) po_none (po_some (pv 3))) (pe_ix (r := rIx K) ix_seq (pe_lst (pa_cons pe_str (pa_cons pe_str (pa_cons pe_str (pa_cons pe_str (pa_cons pe_str pa_nil)))))) (pe_call (G__law_draw) (hr.mono (by decide)) rfl T.g__law_draw T.f__law_draw.kp T.bd__law_draw .nil pass0 (pa_cons (pv 0) (pa_cons pe_int pa_nil))) (fun _ _ => rfl))) (pe_slice (r := rSlX K) sl_any (pv 1) (po_some (pv 3)) po_none)))
  (pss_cons (ps_set (i := 5) sc__law_words_right.nd rfl (by first | exact Or.inl rfl | exact Or.inr rfl) (pe_op op_sub (pe_call (G__law_draw) (hr.mono (by decide)) rfl T.g__law_draw T.f__law_draw.kp T.bd__law_draw .nil pass0 (pa_cons (pv 0) (pa_cons (pe_op op_pow pe_int pe_int) pa_nil))) (pe_op op_pow pe_int pe_int)))
  (pss_cons (ps_set (i := 6) sc__law_words_right.nd rfl (by first | exact Or.inl rfl | exact Or.inr rfl) (pe_op op_sub (pe_call (G__law_draw) (hr.mono (by decide)) rfl T.g__law_draw T.f__law_draw.kp T.bd__law_draw .nil pass0 (pa_cons (pv 0) (pa_cons (pe_op op_pow pe_int pe_int) pa_nil))) (pe_op op_pow pe_int pe_int)))
  (pss_cons (ps_if (PW.pt (pw_or (pt_val (pe_call (G_is_name) (hr.mono (by decide)) rfl T.g_is_name T.f_is_name.kp T.bd_is_name .nil pass0 (pa_cons (pv 4) pa_nil))) (pw_or (pt_val (pe_call (G_is_name) (hr.mono (by decide)) rfl T.g_is_name T.f_is_name.kp T.bd_is_name .nil pass0 (pa_cons (pv 5) pa_nil))) (pw_or (pt_val (pe_call (G_is_name) (hr.mono (by decide)) rfl T.g_is_name T.f_is_name.kp T.bd_is_name .nil pass0 (pa_cons pe_non pa_nil))) (pw_or1 (pt_val (pe_call (G_is_name) (hr.mono (by decide)) rfl T.g_is_name T.f_is_name.kp T.bd_is_name .nil pass0 (pa_cons (pe_lst (pa_cons (pv 1) pa_nil)) pa_nil)))))))) (pss_one (ps_ret pe_bl)) pss_nil)
  (pss_cons (ps_if (PW.pt (pw_or (pt_not (pt_val (pe_call (G__law_is) (hr.mono (by decide)) rfl T.g__law_is T.f__law_is.kp T.bd__law_is .nil pass0 (pa_cons (pe_call (G_is_whole) (hr.mono (by decide)) rfl T.g_is_whole T.f_is_whole.kp bd_is_whole_1 dv_is_whole_1 pass0 (pa_cons (pv 5) (pa_cons (pv 6) pa_nil))) (pa_cons (pe_cmpR op_ge (pv 5) (pv 6) (nomark _)) pa_nil))))) (pw_or1 (pt_not (pt_val (pe_call (G__law_is) (hr.mono (by decide)) rfl T.g__law_is T.f__law_is.kp T.bd__law_is .nil pass0 (pa_cons (pe_call (G_is_whole) (hr.mono (by decide)) rfl T.g_is_whole T.f_is_whole.kp T.bd_is_whole .nil pass0 (pa_cons (pv 5) (pa_cons pe_non (pa_cons (pv 6) pa_nil)))) (pa_cons (pe_cmpR op_le (pv 5) (pv 6) (nomark _)) pa_nil)))))))) (pss_one (ps_ret pe_bl)) pss_nil)
  (pss_cons (ps_if (PW.pt (pw_or (pt_not (pt_val (pe_call (G_is_whole) (hr.mono (by decide)) rfl T.g_is_whole T.f_is_whole.kp bd_is_whole_2 dv_is_whole_2 pass0 (pa_cons (pv 5) pa_nil)))) (pw_or (pt_not (pt_val (pe_call (G_is_whole) (hr.mono (by decide)) rfl T.g_is_whole T.f_is_whole.kp T.bd_is_whole .nil pass0 (pa_cons (pv 6) (pa_cons (pv 6) (pa_cons (pv 6) pa_nil)))))) (pw_or (pt_val (pe_call (G_is_whole) (hr.mono (by decide)) rfl T.g_is_whole T.f_is_whole.kp T.bd_is_whole .nil pass0 (pa_cons (pv 6) (pa_cons (pe_op (r := rAddA K) op_addA (pv 6) pe_int) (pa_cons (pv 6) pa_nil))))) (pw_or1 (pt_val (pe_call (G_is_whole) (hr.mono (by decide)) rfl T.g_is_whole T.f_is_whole.kp T.bd_is_whole .nil pass0 (pa_cons (pv 6) (pa_cons (pv 6) (pa_cons (pe_op op_sub (pv 6) pe_int) pa_nil)))))))))) (pss_one (ps_ret pe_bl)) pss_nil)
  (pss_one (ps_ret (pe_and (pe_not (pe_call (G_is_whole) (hr.mono (by decide)) rfl T.g_is_whole T.f_is_whole.kp bd_is_whole_2 dv_is_whole_2 pass0 (pa_cons pe_bl pa_nil))) (pe_and (pe_not (pe_call (G_is_whole) (hr.mono (by decide)) rfl T.g_is_whole T.f_is_whole.kp T.bd_is_whole .nil pass0 (pa_cons pe_bl (pa_cons pe_int (pa_cons pe_int pa_nil))))) (pe_and (pe_not (pe_call (G_is_whole) (hr.mono (by decide)) rfl T.g_is_whole T.f_is_whole.kp bd_is_whole_2 dv_is_whole_2 pass0 (pa_cons pe_non pa_nil))) (pe_and (pe_not (pe_call (G_is_whole) (hr.mono (by decide)) rfl T.g_is_whole T.f_is_whole.kp bd_is_whole_2 dv_is_whole_2 pass0 (pa_cons (pv 1) pa_nil))) (pe_one (pe_not (pe_call (G_is_whole) (hr.mono (by decide)) rfl T.g_is_whole T.f_is_whole.kp bd_is_whole_2 dv_is_whole_2 pass0 (pa_cons (pe_tup (pa_cons (pv 5) pa_nil)) pa_nil))))))))))))))))))), ?_⟩
  exact def_ok0 (N := ["bag", "word", "k", "at", "odd", "number", "low"]) rfl ((rs_seq (rs_set (re_join re_str (re_lc (ri_rng1 (ra_cons (re_call0 (ra_cons re_var (ra_cons re_int ra_nil)) (fun _ => .nil)) ra_nil)) (rn_name (by decide)) rt_yes (re_op re_str (re_call0 (ra_cons re_var (ra_cons re_int ra_nil)) (fun _ => .nil)) k_ix) (fun _ _ _ _ _ z => z))))
  (rs_seq (rs_if (rt_not (rt_B (re_call0 (ra_cons (re_call0 (ra_cons re_var ra_nil) (fun _ => .nil)) (ra_cons (re_chain re_int (re_cb (ra_cons re_var ra_nil) k_len) k_le re_int k_le) ra_nil)) (fun _ => .nil)))) (rs_ret re_bl) rs_next)
  (rs_seq (rs_set (re_call0 (ra_cons re_var (ra_cons (re_op (re_cb (ra_cons re_var ra_nil) k_len) re_int k_add) ra_nil)) (fun _ => .nil)))
  (rs_seq (rs_set (re_op (re_op (re_sl re_var ro_none (ro_part re_var)) (re_op (re_lst (ra_cons re_str (ra_cons re_str (ra_cons re_str (ra_cons re_str (ra_cons re_str ra_nil)))))) (re_call0 (ra_cons re_var (ra_cons re_int ra_nil)) (fun _ => .nil)) k_ix) k_add) (re_sl re_var (ro_part re_var) ro_none) k_add))
  (rs_seq (rs_set (re_op (re_call0 (ra_cons re_var (ra_cons (re_op re_int re_int k_pow) ra_nil)) (fun _ => .nil)) (re_op re_int re_int k_pow) k_sub))
  (rs_seq (rs_set (re_op (re_call0 (ra_cons re_var (ra_cons (re_op re_int re_int k_pow) ra_nil)) (fun _ => .nil)) (re_op re_int re_int k_pow) k_sub))
  (rs_seq (rs_if (rt_or (rt_B (re_call0 (ra_cons re_var ra_nil) (fun _ => .nil))) (rt_or (rt_B (re_call0 (ra_cons re_var ra_nil) (fun _ => .nil))) (rt_or (rt_B (re_call0 (ra_cons re_non ra_nil) (fun _ => .nil))) (rt_B (re_call0 (ra_cons (re_lst (ra_cons re_var ra_nil)) ra_nil) (fun _ => .nil)))))) (rs_ret re_bl) rs_next)
  (rs_seq (rs_if (rt_or (rt_not (rt_B (re_call0 (ra_cons (re_call0 (ra_cons re_var (ra_cons re_var ra_nil)) (fun _ => (.cons .non .nil))) (ra_cons (re_op re_var re_var k_ge) ra_nil)) (fun _ => .nil)))) (rt_not (rt_B (re_call0 (ra_cons (re_call0 (ra_cons re_var (ra_cons re_non (ra_cons re_var ra_nil))) (fun _ => .nil)) (ra_cons (re_op re_var re_var k_le) ra_nil)) (fun _ => .nil))))) (rs_ret re_bl) rs_next)
  (rs_seq (rs_if (rt_or (rt_not (rt_B (re_call0 (ra_cons re_var ra_nil) (fun _ => (.cons .non (.cons .non .nil)))))) (rt_or (rt_not (rt_B (re_call0 (ra_cons re_var (ra_cons re_var (ra_cons re_var ra_nil))) (fun _ => .nil)))) (rt_or (rt_B (re_call0 (ra_cons re_var (ra_cons (re_op re_var re_int k_add) (ra_cons re_var ra_nil))) (fun _ => .nil))) (rt_B (re_call0 (ra_cons re_var (ra_cons re_var (ra_cons (re_op re_var re_int k_sub) ra_nil))) (fun _ => .nil)))))) (rs_ret re_bl) rs_next)
  (rs_ret (re_and (re_not (re_call0 (ra_cons re_bl ra_nil) (fun _ => (.cons .non (.cons .non .nil))))) (re_and (re_not (re_call0 (ra_cons re_bl (ra_cons re_int (ra_cons re_int ra_nil))) (fun _ => .nil))) (re_and (re_not (re_call0 (ra_cons re_non ra_nil) (fun _ => (.cons .non (.cons .non .nil))))) (re_and (re_not (re_call0 (ra_cons re_var ra_nil) (fun _ => (.cons .non (.cons .non .nil))))) (re_not (re_call0 (ra_cons (re_tup (ra_cons re_var ra_nil)) ra_nil) (fun _ => (.cons .non (.cons .non .nil)))))))))))))))))))) h
theorem ok_row_at (T : Txt K mg AD FD TK) : FnOk P w K mg base CX0 1 (AD "row_at") (FD "row_at") ["widths", "number"] (spM (md K AD) m_row_at) := by
  refine T.f_row_at.ok sc_row_at (fun vs H Q E h => spM_len (calmF_len defM_len) h) (fun cdv A outer s H vs Q E hr h => ?_)
  refine ⟨_, (pss_cons (ps_set (i := 2) sc_row_at.nd rfl (by first | exact Or.inl rfl | exact Or.inr rfl) (pe_lst pa_nil))
  (pss_cons (ps_set (i := 3) sc_row_at.nd rfl (by first | exact Or.inl rfl | exact Or.inr rfl) (pv 1))
  (pss_cons (ps_for PassesOwn.never rfl (RT.pi_revA (by rfl) T.b_reversed (pv 0)) (pg_name (i := 4) sc_row_at.nd rfl (by first | exact Or.inl rfl | exact Or.inr rfl)) (pss_cons (ps_expr (pe_bm PySem.F.plainAttrs_list PySem.F.slot_list_append PySem.F.type_list_append mt_append (pv 2) (pa_cons (pe_op op_mod (pv 3) (pv 4)) pa_nil)))
  (pss_one (ps_set (i := 3) sc_row_at.nd rfl (by first | exact Or.inl rfl | exact Or.inr rfl) (pe_op op_fdivW (pv 3) (pv 4))))))
  (pss_one (ps_ret (RT.pe_tupRev rfl (by rfl) T.b_tuple (by rfl) T.b_reversed (pv 2))))))), ?_⟩
  exact def_ok0 (N := ["widths", "number", "values", "rest", "width"]) rfl ((rs_seq (rs_set (re_lmu ra_nil))
  (rs_seq (rs_set re_var)
  (rs_seq (rs_for (ri_rev re_var) rg_name (RS.scope (rs_seq (rs_drop (re_app re_var (re_op re_var re_var k_mod)))
  (rs_set (re_op re_var re_var k_div)))))
  (rs_ret (re_trv re_var)))))) h
theorem ok_row_number (T : Txt K mg AD FD TK) : FnOk P w K mg base CX0 1 (AD "row_number") (FD "row_number") ["widths", "row"] (spM (md K AD) m_row_number) := by
  refine T.f_row_number.ok sc_row_number (fun vs H Q E h => spM_len (calmF_len defM_len) h) (fun cdv A outer s H vs Q E hr h => ?_)
  refine ⟨_, (pss_cons (ps_set (i := 2) sc_row_number.nd rfl (by first | exact Or.inl rfl | exact Or.inr rfl) pe_int)
  (pss_cons (ps_for PassesOwn.never rfl (pi_zipX (by rfl) T.b_zip (pa_cons (pv 1) (pa_cons (pv 0) pa_nil))) (pg_tup rfl (pgs_cons (pg_name (i := 3) sc_row_number.nd rfl (by first | exact Or.inl rfl | exact Or.inr rfl)) (pgs_cons (pg_name (i := 4) sc_row_number.nd rfl (by first | exact Or.inl rfl | exact Or.inr rfl)) pgs_nil))) (pss_one (ps_set (i := 2) sc_row_number.nd rfl (by first | exact Or.inl rfl | exact Or.inr rfl) (pe_op (r := rAddA K) op_addA (pe_op op_mul (pv 2) (pv 4)) (pv 3)))))
  (pss_one (ps_ret (pv 2))))), ?_⟩
  exact def_ok0 (N := ["widths", "row", "number", "value", "width"]) rfl ((rs_seq (rs_set re_int)
  (rs_seq (rs_for (ri_zip (ra_cons re_var (ra_cons re_var ra_nil))) (rg_tup (rgs_cons rg_name (rgs_cons rg_name rgs_nil))) (RS.scope (rs_set (re_op (re_op re_var re_var k_mul) re_var k_add))))
  (rs_ret re_var)))) h
theorem ok_law (T : Txt K mg AD FD TK) : FnG P w K mg base CX0 5 (AD "law") (FD "law") ["script"] (spM (md K AD) m_law) := by
  have G__law_all : FnOk P w K mg base CX0 _ _ _ _ _ := ok__law_all T
  have G__law_bag : FnOk P w K mg base CX0 _ _ _ _ _ := ok__law_bag T
  have G__law_draw : FnOk P w K mg base CX0 _ _ _ _ _ := ok__law_draw T
  have G__law_good : FnOk P w K mg base CX0 _ _ _ _ _ := ok__law_good T
  have G__law_row_right : FnG P w K mg base CX0 _ _ _ _ _ := ok__law_row_right T
  have G__law_widths : FnOk P w K mg base CX0 _ _ _ _ _ := ok__law_widths T
  have G__law_widths_told : FnOk P w K mg base CX0 _ _ _ _ _ := ok__law_widths_told T
  have G__law_words_right : FnOk P w K mg base CX0 _ _ _ _ _ := ok__law_words_right T
  have G_row_at : FnOk P w K mg base CX0 _ _ _ _ _ := ok_row_at T
  have G_row_count : FnOk P w K mg base CX0 _ _ _ _ _ := ok_row_count T
  have G_row_number : FnOk P w K mg base CX0 _ _ _ _ _ := ok_row_number T
  refine fnG_of T.f_law sc_law (fun vs H Q E h => spM_len (calmF_len defM_len) h) (fun cdv A outer s H vs Q E ga hr h => ?_)
  refine ⟨_, PSs.nox (pss_cons (ps_set (i := 1) sc_law.nd rfl (by first | exact Or.inl rfl | exact Or.inr rfl) (pe_call (G__law_bag) (hr.mono (by decide)) rfl T.g__law_bag T.f__law_bag.kp T.bd__law_bag .nil pass0 (pa_cons (pv 0) pa_nil)))
  (pss_cons (ps_set (i := 2) sc_law.nd rfl (by first | exact Or.inl rfl | exact Or.inr rfl) (pe_call (G__law_widths) (hr.mono (by decide)) rfl T.g__law_widths T.f__law_widths.kp T.bd__law_widths .nil pass0 (pa_cons (pv 1) pa_nil)))
  (pss_cons (ps_set (i := 3) sc_law.nd rfl (by first | exact Or.inl rfl | exact Or.inr rfl) (pe_call (G__law_widths_told) (hr.mono (by decide)) rfl T.g__law_widths_told T.f__law_widths_told.kp T.bd__law_widths_told .nil pass0 (pa_cons (pv 2) pa_nil)))
  (pss_cons (ps_if (pt_val (pe_call (G__law_good) (hr.mono (by decide)) rfl T.g__law_good T.f__law_good.kp T.bd__law_good .nil pass0 (pa_cons (pv 2) pa_nil))) (pss_one (ps_if (PW.pt (pw_or (pt_not (pt_val (pe_callB (r := rIsi K) call_isi (by rfl) T.b_isinstance (by decide +kernel) (pa_cons (pv 3) (pa_cons (pe_bltn (v := .ty "tuple") (by rfl) T.b_tuple (by decide +kernel) rfl) pa_nil))))) (pw_or (pt_cmpR (r := rNeA K) (op_neA (by exact hr.units)) (pv 3) (pe_callTy (r := rTupO K) call_tupO (by rfl) T.b_tuple (by decide +kernel) (pa_cons (pv 2) pa_nil)) (nomark _)) (pw_or1 (pt_cmpR (r := rNeA K) (op_neA (by exact hr.units)) (pe_call (G__law_widths_told) (hr.mono (by decide)) rfl T.g__law_widths_told T.f__law_widths_told.kp T.bd__law_widths_told .nil pass0 (pa_cons (pe_callTy (r := rTupO K) call_tupO (by rfl) T.b_tuple (by decide +kernel) (pa_cons (pv 2) pa_nil)) pa_nil)) (pv 3) (nomark _)))))) (pss_one (ps_ret pe_bl)) pss_nil)) (pss_one (ps_if (pt_cmpR op_notN1 (pv 3) pe_non (nomark _)) (pss_one (ps_ret pe_bl)) pss_nil)))
  (pss_cons (ps_set (i := 4) sc_law.nd rfl (by first | exact Or.inl rfl | exact Or.inr rfl) (pe_callTy (r := rLstO K) call_lstO (by rfl) T.b_list (by decide +kernel) (pa_cons (pv 2) pa_nil)))
  (pss_cons (ps_asg (pe_ix (r := rIx K) ix_seq (pe_lst (pa_cons pe_int (pa_cons pe_int (pa_cons (pe_un un_neg pe_int) (pa_cons pe_bl (pa_cons pe_non (pa_cons pe_str (pa_cons (pe_tup (pa_cons pe_int pa_nil)) (pa_cons (pe_op (r := rAddA K) op_addA pe_int (pe_call (G__law_draw) (hr.mono (by decide)) rfl T.g__law_draw T.f__law_draw.kp T.bd__law_draw .nil pass0 (pa_cons (pv 1) (pa_cons (pe_op op_pow pe_int pe_int) pa_nil)))) pa_nil))))))))) (pe_call (G__law_draw) (hr.mono (by decide)) rfl T.g__law_draw T.f__law_draw.kp T.bd__law_draw .nil pass0 (pa_cons (pv 1) (pa_cons pe_int pa_nil))) (fun _ _ => rfl)) (pg_sub (pv 4) (pe_call (G__law_draw) (hr.mono (by decide)) rfl T.g__law_draw T.f__law_draw.kp T.bd__law_draw .nil pass0 (pa_cons (pv 1) (pa_cons (pe_callB (r := rLenA K) call_lenA (by rfl) T.b_len (by decide +kernel) (pa_cons (pv 4) pa_nil)) pa_nil))) set_list))
  (pss_cons (ps_for PassesOwn.never rfl (pi_seq (pe_lst (pa_cons (pv 4) (pa_cons (pe_lst pa_nil) (pa_cons (pe_tup (pa_cons pe_int (pa_cons pe_int (pa_cons pe_int (pa_cons pe_int pa_nil))))) (pa_cons pe_non (pa_cons pe_int (pa_cons pe_str (pa_cons (pe_lst (pa_cons pe_int (pa_cons pe_int pa_nil))) (pa_cons (pe_lst (pa_cons pe_int (pa_cons pe_int (pa_cons pe_int pa_nil)))) (pa_cons (pe_op (r := rAddA K) op_addA (pv 2) (pe_lst (pa_cons pe_int pa_nil))) pa_nil))))))))))) (pg_name (i := 5) sc_law.nd rfl (by first | exact Or.inl rfl | exact Or.inr rfl)) (pss_cons (ps_set (i := 6) sc_law.nd rfl (by first | exact Or.inl rfl | exact Or.inr rfl) (pe_call (G__law_widths_told) (hr.mono (by decide)) rfl T.g__law_widths_told T.f__law_widths_told.kp T.bd__law_widths_told .nil pass0 (pa_cons (pv 5) pa_nil)))
  (pss_one (ps_if (pt_cmpR (r := rNeA K) (op_neA (by exact hr.units)) (pe_cmpR op_notN1 (pv 6) pe_non (nomark _)) (pe_call (G__law_good) (hr.mono (by decide)) rfl T.g__law_good T.f__law_good.kp T.bd__law_good .nil pass0 (pa_cons (pv 5) pa_nil)) (nomark _)) (pss_one (ps_ret pe_bl)) pss_nil))))
  (pss_cons (ps_if (pt_not (pt_val (pe_call (G__law_good) (hr.mono (by decide)) rfl T.g__law_good T.f__law_good.kp T.bd__law_good .nil pass0 (pa_cons (pv 2) pa_nil)))) (pss_one (ps_set (i := 2) sc_law.nd rfl (by first | exact Or.inl rfl | exact Or.inr rfl) (pe_lst (pa_cons pe_int (pa_cons (pe_op (r := rAddA K) op_addA pe_int (pe_call (G__law_draw) (hr.mono (by decide)) rfl T.g__law_draw T.f__law_draw.kp T.bd__law_draw .nil pass0 (pa_cons (pv 1) (pa_cons pe_int pa_nil)))) pa_nil))))) pss_nil)
  (pss_cons (ps_set (i := 7) sc_law.nd rfl (by first | exact Or.inl rfl | exact Or.inr rfl) pe_int)
  (pss_cons (ps_for PassesOwn.never rfl (pi_seq (pv 2)) (pg_name (i := 8) sc_law.nd rfl (by first | exact Or.inl rfl | exact Or.inr rfl)) (pss_one (ps_set (i := 7) sc_law.nd rfl (by first | exact Or.inl rfl | exact Or.inr rfl) (pe_op op_mul (pv 7) (pv 8)))))
  (pss_cons (ps_if (PW.pt (pw_or (pt_cmpR (r := rNeA K) (op_neA (by exact hr.units)) (pe_call (G_row_count) (hr.mono (by decide)) rfl T.g_row_count T.f_row_count.kp T.bd_row_count .nil pass0 (pa_cons (pv 2) pa_nil)) (pv 7) (nomark _)) (pw_or (pt_cmpR (r := rNeA K) (op_neA (by exact hr.units)) (pe_call (G_row_count) (hr.mono (by decide)) rfl T.g_row_count T.f_row_count.kp T.bd_row_count .nil pass0 (pa_cons (pe_callTy (r := rTupO K) call_tupO (by rfl) T.b_tuple (by decide +kernel) (pa_cons (pv 2) pa_nil)) pa_nil)) (pv 7) (nomark _)) (pw_or1 (pt_cmpR (r := rNeA K) (op_neA (by exact hr.units)) (pe_call (G_row_count) (hr.mono (by decide)) rfl T.g_row_count T.f_row_count.kp T.bd_row_count .nil pass0 (pa_cons (pe_lst pa_nil) pa_nil)) pe_int (nomark _)))))) (pss_one (ps_ret pe_bl)) pss_nil)
  (pss_cons (ps_set (i := 9) sc_law.nd rfl (by first | exact Or.inl rfl | exact Or.inr rfl) (pe_ifExp (pt_cmpR op_le (pv 7) pe_int (nomark _)) (pe_call (G__law_all) (hr.mono (by decide)) rfl T.g__law_all T.f__law_all.kp T.bd__law_all .nil pass0 (pa_cons (pv 2) pa_nil)) (pe_lc (own := [("k", 10)]) rfl sc_law.nd (pi_range1 (by rfl) T.b_range (pa_cons pe_int pa_nil)) (blkOk_by (own := [("k", 10)]) (N := ["script", "bag", "widths", "good", "bad", "odd", "made", "many", "width", "rows", "k", "row", "number", "ahead", "wide", "every", "spot", "at", "wrong"]) (sc := defScope s_law) (by decide +kernel)) (fun _ _ _ _ _ => (pg_name (i := 10) sc_law.nd rfl (by first | exact Or.inl rfl | exact Or.inr rfl))) (fun _ _ _ _ _ => pts_nil) (fun _ _ _ _ _ => (pe_callTy (r := rTupO K) call_tupO (by rfl) T.b_tuple (by decide +kernel) (pa_cons (pe_lc (own := [("width", 8)]) rfl sc_law.nd (pi_seqK (K := K) rfl (pv 2)) (blkOk_by (own := [("width", 8)]) (by kernel_rfl)) (fun _ _ _ _ _ => (pg_name (i := 8) sc_law.nd rfl (by first | exact Or.inl rfl | exact Or.inr rfl))) (fun _ _ _ _ _ => pts_nil) (fun _ _ _ _ _ => (pe_call (G__law_draw) (hr.mono (by decide)) rfl T.g__law_draw T.f__law_draw.kp T.bd__law_draw .nil pass0 (pa_cons (pv 1) (pa_cons (pv 8) pa_nil))))) pa_nil))))))
  (pss_cons (ps_if (PW.pt (pw_and (pt_cmpR op_le (pv 7) pe_int (nomark _)) (pw_and1 (pt_cmpR (r := rNeA K) (op_neA (by exact hr.units)) (pe_lc (own := [("row", 11)]) rfl sc_law.nd (pi_seq (pv 9)) (blkOk_by (own := [("row", 11)]) (N := ["script", "bag", "widths", "good", "bad", "odd", "made", "many", "width", "rows", "k", "row", "number", "ahead", "wide", "every", "spot", "at", "wrong"]) (sc := defScope s_law) (by decide +kernel)) (fun _ _ _ _ _ => (pg_name (i := 11) sc_law.nd rfl (by first | exact Or.inl rfl | exact Or.inr rfl))) (fun _ _ _ _ _ => pts_nil) (fun _ _ _ _ _ => (pe_call (G_row_number) (hr.mono (by decide)) rfl T.g_row_number T.f_row_number.kp T.bd_row_number .nil pass0 (pa_cons (pv 2) (pa_cons (pv 11) pa_nil))))) (pe_listRg rfl (by rfl) T.b_list (prg_1 (by rfl) T.b_range (pv 7))) (nomark _))))) (pss_one (ps_ret pe_bl)) pss_nil)
  (pss_cons (ps_for PassesOwn.never rfl (pi_seq (pe_op (r := rAddA K) op_addA (pv 9) (pe_lst (pa_cons (pe_callTy (r := rTupO K) call_tupO (by rfl) T.b_tuple (by decide +kernel) (pa_cons (pe_lc (own := [("width", 8)]) rfl sc_law.nd (pi_seq (pv 2)) (blkOk_by (own := [("width", 8)]) (N := ["script", "bag", "widths", "good", "bad", "odd", "made", "many", "width", "rows", "k", "row", "number", "ahead", "wide", "every", "spot", "at", "wrong"]) (sc := defScope s_law) (by decide +kernel)) (fun _ _ _ _ _ => (pg_name (i := 8) sc_law.nd rfl (by first | exact Or.inl rfl | exact Or.inr rfl))) (fun _ _ _ _ _ => pts_nil) (fun _ _ _ _ _ => pe_int)) pa_nil)) (pa_cons (pe_callTy (r := rTupO K) call_tupO (by rfl) T.b_tuple (by decide +kernel) (pa_cons (pe_lc (own := [("width", 8)]) rfl sc_law.nd (pi_seq (pv 2)) (blkOk_by (own := [("width", 8)]) (N := ["script", "bag", "widths", "good", "bad", "odd", "made", "many", "width", "rows", "k", "row", "number", "ahead", "wide", "every", "spot", "at", "wrong"]) (sc := defScope s_law) (by decide +kernel)) (fun _ _ _ _ _ => (pg_name (i := 8) sc_law.nd rfl (by first | exact Or.inl rfl | exact Or.inr rfl))) (fun _ _ _ _ _ => pts_nil) (fun _ _ _ _ _ => (pe_op op_sub (pv 8) pe_int))) pa_nil)) pa_nil))))) (pg_name (i := 11) sc_law.nd rfl (by first | exact Or.inl rfl | exact Or.inr rfl)) (pss_cons (ps_set (i := 12) sc_law.nd rfl (by first | exact Or.inl rfl | exact Or.inr rfl) (pe_call (G_row_number) (hr.mono (by decide)) rfl T.g_row_number T.f_row_number.kp T.bd_row_number .nil pass0 (pa_cons (pe_callTy (r := rTupO K) call_tupO (by rfl) T.b_tuple (by decide +kernel) (pa_cons (pv 2) pa_nil)) (pa_cons (pv 11) pa_nil))))
  (pss_cons (ps_set (i := 13) sc_law.nd rfl (by first | exact Or.inl rfl | exact Or.inr rfl) pe_int)
  (pss_cons (ps_for PassesOwn.never rfl (pi_range1 (by rfl) T.b_range (pa_cons (pe_callB (r := rLenA K) call_lenA (by rfl) T.b_len (by decide +kernel) (pa_cons (pv 2) pa_nil)) pa_nil)) (pg_name (i := 10) sc_law.nd rfl (by first | exact Or.inl rfl | exact Or.inr rfl)) (pss_one (ps_set (i := 13) sc_law.nd rfl (by first | exact Or.inl rfl | exact Or.inr rfl) (pe_op (r := rAddA K) op_addA (pe_op op_mul (pv 13) (pe_ix (r := rIx K) ix_seq (pv 2) (pv 10) (fun _ _ => rfl))) (pe_ix (r := rIx K) ix_seq (pv 11) (pv 10) (fun _ _ => rfl))))))
  (pss_one (ps_if (PW.pt (pw_or (pt_cmpR (r := rNeA K) (op_neA (by exact hr.units)) (pv 12) (pv 13) (nomark _)) (pw_or (pt_cmpR (r := rNeA K) (op_neA (by exact hr.units)) (pe_call (G_row_at) (hr.mono (by decide)) rfl T.g_row_at T.f_row_at.kp T.bd_row_at .nil pass0 (pa_cons (pv 2) (pa_cons (pv 12) pa_nil))) (pv 11) (nomark _)) (pw_or1 (pt_not (pt_val (pe_callB (r := rIsi K) call_isi (by rfl) T.b_isinstance (by decide +kernel) (pa_cons (pe_call (G_row_at) (hr.mono (by decide)) rfl T.g_row_at T.f_row_at.kp T.bd_row_at .nil pass0 (pa_cons (pv 2) (pa_cons (pv 12) pa_nil))) (pa_cons (pe_bltn (v := .ty "tuple") (by rfl) T.b_tuple (by decide +kernel) rfl) pa_nil))))))))) (pss_one (ps_ret pe_bl)) pss_nil))))))
  (pss_cons (ps_set (i := 14) sc_law.nd rfl (by first | exact Or.inl rfl | exact Or.inr rfl) (pe_lc (own := [("k", 10)]) rfl sc_law.nd (pi_range1 (by rfl) T.b_range (pa_cons (pe_op (r := rAddA K) op_addA pe_int (pe_call (G__law_draw) (hr.mono (by decide)) rfl T.g__law_draw T.f__law_draw.kp T.bd__law_draw .nil pass0 (pa_cons (pv 1) (pa_cons pe_int pa_nil)))) pa_nil)) (blkOk_by (own := [("k", 10)]) (N := ["script", "bag", "widths", "good", "bad", "odd", "made", "many", "width", "rows", "k", "row", "number", "ahead", "wide", "every", "spot", "at", "wrong"]) (sc := defScope s_law) (by decide +kernel)) (fun _ _ _ _ _ => (pg_name (i := 10) sc_law.nd rfl (by first | exact Or.inl rfl | exact Or.inr rfl))) (fun _ _ _ _ _ => pts_nil) (fun _ _ _ _ _ => (pe_op (r := rAddA K) op_addA pe_int (pe_call (G__law_draw) (hr.mono (by decide)) rfl T.g__law_draw T.f__law_draw.kp T.bd__law_draw .nil pass0 (pa_cons (pv 1) (pa_cons pe_int pa_nil)))))))
  (pss_cons (ps_set (i := 15) sc_law.nd rfl (by first | exact Or.inl rfl | exact Or.inr rfl) (pe_call (G__law_all) (hr.mono (by decide)) rfl T.g__law_all T.f__law_all.kp T.bd__law_all .nil pass0 (pa_cons (pv 14) pa_nil)))
  (pss_cons (ps_if (PW.pt (pw_or (pt_cmpR (r := rNeA K) (op_neA (by exact hr.units)) (pe_lc (own := [("spot", 16)]) rfl sc_law.nd (pi_seq (pv 15)) (blkOk_by (own := [("spot", 16)]) (N := ["script", "bag", "widths", "good", "bad", "odd", "made", "many", "width", "rows", "k", "row", "number", "ahead", "wide", "every", "spot", "at", "wrong"]) (sc := defScope s_law) (by decide +kernel)) (fun _ _ _ _ _ => (pg_name (i := 16) sc_law.nd rfl (by first | exact Or.inl rfl | exact Or.inr rfl))) (fun _ _ _ _ _ => pts_nil) (fun _ _ _ _ _ => (pe_call (G_row_number) (hr.mono (by decide)) rfl T.g_row_number T.f_row_number.kp T.bd_row_number .nil pass0 (pa_cons (pv 14) (pa_cons (pv 16) pa_nil))))) (pe_listRg rfl (by rfl) T.b_list (prg_1 (by rfl) T.b_range (pe_callB (r := rLenA K) call_lenA (by rfl) T.b_len (by decide +kernel) (pa_cons (pv 15) pa_nil)))) (nomark _)) (pw_or1 (pt_cmpR (r := rNeA K) (op_neA (by exact hr.units)) (pe_lc (own := [("k", 10)]) rfl sc_law.nd (pi_range1 (by rfl) T.b_range (pa_cons (pe_callB (r := rLenA K) call_lenA (by rfl) T.b_len (by decide +kernel) (pa_cons (pv 15) pa_nil)) pa_nil)) (blkOk_by (own := [("k", 10)]) (N := ["script", "bag", "widths", "good", "bad", "odd", "made", "many", "width", "rows", "k", "row", "number", "ahead", "wide", "every", "spot", "at", "wrong"]) (sc := defScope s_law) (by decide +kernel)) (fun _ _ _ _ _ => (pg_name (i := 10) sc_law.nd rfl (by first | exact Or.inl rfl | exact Or.inr rfl))) (fun _ _ _ _ _ => pts_nil) (fun _ _ _ _ _ => (pe_call (G_row_at) (hr.mono (by decide)) rfl T.g_row_at T.f_row_at.kp T.bd_row_at .nil pass0 (pa_cons (pv 14) (pa_cons (pv 10) pa_nil))))) (pv 15) (nomark _))))) (pss_one (ps_ret pe_bl)) pss_nil)
  (pss_cons (ps_if (PW.pt (pw_or (pt_cmpR (r := rNeA K) (op_neA (by exact hr.units)) (pe_call (G_row_count) (hr.mono (by decide)) rfl T.g_row_count T.f_row_count.kp T.bd_row_count .nil pass0 (pa_cons (pv 14) pa_nil)) (pe_callB (r := rLenA K) call_lenA (by rfl) T.b_len (by decide +kernel) (pa_cons (pv 15) pa_nil)) (nomark _)) (pw_or (pt_cmpR (r := rNeA K) (op_neA (by exact hr.units)) (pe_call (G_row_number) (hr.mono (by decide)) rfl T.g_row_number T.f_row_number.kp T.bd_row_number .nil pass0 (pa_cons (pe_lst pa_nil) (pa_cons (pe_tup pa_nil) pa_nil))) pe_int (nomark _)) (pw_or1 (pt_cmpR (r := rNeA K) (op_neA (by exact hr.units)) (pe_call (G_row_at) (hr.mono (by decide)) rfl T.g_row_at T.f_row_at.kp T.bd_row_at .nil pass0 (pa_cons (pe_lst pa_nil) (pa_cons pe_int pa_nil))) (pe_tup pa_nil) (nomark _)))))) (pss_one (ps_ret pe_bl)) pss_nil)
  (pss_cons (ps_set (i := 11) sc_law.nd rfl (by first | exact Or.inl rfl | exact Or.inr rfl) (pe_callTy (r := rLstO K) call_lstO (by rfl) T.b_list (by decide +kernel) (pa_cons (pe_ix (r := rIx K) ix_seq (pv 9) (pe_call (G__law_draw) (hr.mono (by decide)) rfl T.g__law_draw T.f__law_draw.kp T.bd__law_draw .nil pass0 (pa_cons (pv 1) (pa_cons (pe_callB (r := rLenA K) call_lenA (by rfl) T.b_len (by decide +kernel) (pa_cons (pv 9) pa_nil)) pa_nil))) (fun _ _ => rfl)) pa_nil)))
  (pss_cons (ps_if (PW.pt (pw_or (pt_not (pt_val (pe_callG (G__law_row_right) ga (hr.mono (by decide)) rfl T.g__law_row_right T.f__law_row_right.kp T.bd__law_row_right .nil pass0 (pa_cons (pv 2) (pa_cons (pv 11) (pa_cons pe_bl pa_nil)))))) (pw_or1 (pt_not (pt_val (pe_callG (G__law_row_right) ga (hr.mono (by decide)) rfl T.g__law_row_right T.f__law_row_right.kp T.bd__law_row_right .nil pass0 (pa_cons (pe_callTy (r := rTupO K) call_tupO (by rfl) T.b_tuple (by decide +kernel) (pa_cons (pv 2) pa_nil)) (pa_cons (pe_callTy (r := rTupO K) call_tupO (by rfl) T.b_tuple (by decide +kernel) (pa_cons (pv 11) pa_nil)) (pa_cons pe_bl pa_nil))))))))) (pss_one (ps_ret pe_bl)) pss_nil)
  (pss_cons (ps_set (i := 17) sc_law.nd rfl (by first | exact Or.inl rfl | exact Or.inr rfl) (pe_call (G__law_draw) (hr.mono (by decide)) rfl T.g__law_draw T.f__law_draw.kp T.bd__law_draw .nil pass0 (pa_cons (pv 1) (pa_cons (pe_callB (r := rLenA K) call_lenA (by rfl) T.b_len (by decide +kernel) (pa_cons (pv 11) pa_nil)) pa_nil))))
  (pss_cons (ps_set (i := 18) sc_law.nd rfl (by first | exact Or.inl rfl | exact Or.inr rfl) (pe_callTy (r := rLstO K) call_lstO (by rfl) T.b_list (by decide +kernel) (pa_cons (pv 11) pa_nil)))
  (pss_cons (ps_asg (pe_ix (r := rIx K) ix_seq (pe_lst (pa_cons (pe_ix (r := rIx K) ix_seq (pv 2) (pv 17) (fun _ _ => rfl)) (pa_cons (pe_un un_neg pe_int) (pa_cons pe_bl (pa_cons pe_non (pa_cons pe_str (pa_cons (pe_tup (pa_cons pe_int pa_nil)) (pa_cons (pe_op (r := rAddA K) op_addA (pe_ix (r := rIx K) ix_seq (pv 2) (pv 17) (fun _ _ => rfl)) (pe_call (G__law_draw) (hr.mono (by decide)) rfl T.g__law_draw T.f__law_draw.kp T.bd__law_draw .nil pass0 (pa_cons (pv 1) (pa_cons (pe_op op_pow pe_int pe_int) pa_nil)))) pa_nil)))))))) (pe_call (G__law_draw) (hr.mono (by decide)) rfl T.g__law_draw T.f__law_draw.kp T.bd__law_draw .nil pass0 (pa_cons (pv 1) (pa_cons pe_int pa_nil))) (fun _ _ => rfl)) (pg_sub (pv 18) (pv 17) set_list))
  (pss_cons (ps_for PassesOwn.never rfl (pi_seq (pe_lst (pa_cons (pv 18) (pa_cons (pe_slice (r := rSlX K) sl_any (pv 11) po_none (po_some (pe_un un_neg pe_int))) (pa_cons (pe_op (r := rAddA K) op_addA (pv 11) (pe_lst (pa_cons pe_int pa_nil))) (pa_cons (pe_tup pa_nil) (pa_cons pe_non (pa_cons pe_int (pa_cons pe_str (pa_cons (pe_callTy (r := rTupO K) call_tupO (by rfl) T.b_tuple (by decide +kernel) (pa_cons (pv 18) pa_nil)) pa_nil)))))))))) (pg_name (i := 5) sc_law.nd rfl (by first | exact Or.inl rfl | exact Or.inr rfl)) (pss_one (ps_if (pt_not (pt_val (pe_callG (G__law_row_right) ga (hr.mono (by decide)) rfl T.g__law_row_right T.f__law_row_right.kp T.bd__law_row_right .nil pass0 (pa_cons (pv 2) (pa_cons (pv 5) (pa_cons pe_bl pa_nil)))))) (pss_one (ps_ret pe_bl)) pss_nil)))
  (pss_one (ps_ret (pe_call (G__law_words_right) (hr.mono (by decide)) rfl T.g__law_words_right T.f__law_words_right.kp T.bd__law_words_right .nil pass0 (pa_cons (pv 1) pa_nil)))))))))))))))))))))))))))), ?_⟩
  exact def_ok0 (N := ["script", "bag", "widths", "good", "bad", "odd", "made", "many", "width", "rows", "k", "row", "number", "ahead", "wide", "every", "spot", "at", "wrong"]) rfl ((rs_seq (rs_set (re_call0 (ra_cons re_var ra_nil) (fun _ => .nil)))
  (rs_seq (rs_set (re_call0 (ra_cons re_var ra_nil) (fun _ => .nil)))
  (rs_seq (rs_set (re_call0 (ra_cons re_var ra_nil) (fun _ => .nil)))
  (rs_seq (rs_if (rt_B (re_call0 (ra_cons re_var ra_nil) (fun _ => .nil))) (rs_if (rt_or (rt_not (rt_B (re_isi .tuple re_var))) (rt_or (rt_test (re_op re_var (re_cb (ra_cons re_var ra_nil) k_tuple) k_neA)) (rt_test (re_op (re_call0 (ra_cons (re_cb (ra_cons re_var ra_nil) k_tuple) ra_nil) (fun _ => .nil)) re_var k_neA)))) (rs_ret re_bl) rs_next) (rs_if (rt_test (re_op re_var re_non k_notN)) (rs_ret re_bl) rs_next))
  (rs_seq (rs_set (re_cb (ra_cons re_var ra_nil) k_listM))
  (rs_seq (rs_asg (re_op (re_lst (ra_cons re_int (ra_cons re_int (ra_cons (re_neg re_int) (ra_cons re_bl (ra_cons re_non (ra_cons re_str (ra_cons (re_tup (ra_cons re_int ra_nil)) (ra_cons (re_op re_int (re_call0 (ra_cons re_var (ra_cons (re_op re_int re_int k_pow) ra_nil)) (fun _ => .nil)) k_add) ra_nil))))))))) (re_call0 (ra_cons re_var (ra_cons re_int ra_nil)) (fun _ => .nil)) k_ix) (rg_sub re_var (re_call0 (ra_cons re_var (ra_cons (re_cb (ra_cons re_var ra_nil) k_len) ra_nil)) (fun _ => .nil))))
  (rs_seq (rs_for (ri_seq (re_lst (ra_cons re_var (ra_cons (re_lst ra_nil) (ra_cons (re_tup (ra_cons re_int (ra_cons re_int (ra_cons re_int (ra_cons re_int ra_nil))))) (ra_cons re_non (ra_cons re_int (ra_cons re_str (ra_cons (re_lst (ra_cons re_int (ra_cons re_int ra_nil))) (ra_cons (re_lst (ra_cons re_int (ra_cons re_int (ra_cons re_int ra_nil)))) (ra_cons (re_op re_var (re_lst (ra_cons re_int ra_nil)) k_add) ra_nil))))))))))) rg_name (RS.scope (rs_seq (rs_set (re_call0 (ra_cons re_var ra_nil) (fun _ => .nil)))
  (rs_if (rt_test (re_op (re_op re_var re_non k_notN) (re_call0 (ra_cons re_var ra_nil) (fun _ => .nil)) k_neA)) (rs_ret re_bl) rs_next))))
  (rs_seq (rs_if (rt_not (rt_B (re_call0 (ra_cons re_var ra_nil) (fun _ => .nil)))) (rs_set (re_lst (ra_cons re_int (ra_cons (re_op re_int (re_call0 (ra_cons re_var (ra_cons re_int ra_nil)) (fun _ => .nil)) k_add) ra_nil)))) rs_next)
  (rs_seq (rs_set re_int)
  (rs_seq (rs_for (ri_seq re_var) rg_name (RS.scope (rs_set (re_op re_var re_var k_mul))))
  (rs_seq (rs_if (rt_or (rt_test (re_op (re_call0 (ra_cons re_var ra_nil) (fun _ => .nil)) re_var k_neA)) (rt_or (rt_test (re_op (re_call0 (ra_cons (re_cb (ra_cons re_var ra_nil) k_tuple) ra_nil) (fun _ => .nil)) re_var k_neA)) (rt_test (re_op (re_call0 (ra_cons (re_lst ra_nil) ra_nil) (fun _ => .nil)) re_int k_neA)))) (rs_ret re_bl) rs_next)
  (rs_seq (rs_set (re_if (rt_test (re_op re_var re_int k_le)) (re_call0 (ra_cons re_var ra_nil) (fun _ => .nil)) (re_lc (ri_rng1 (ra_cons re_int ra_nil)) (rn_name (by decide)) rt_yes (re_cb (ra_cons (re_lc (ri_seq re_var) (rn_name (by decide)) rt_yes (re_call0 (ra_cons re_var (ra_cons re_var ra_nil)) (fun _ => .nil)) (fun _ _ _ _ _ z => z)) ra_nil) k_tuple) (fun _ _ _ _ _ z => z))))
  (rs_seq (rs_if (rt_and (rt_test (re_op re_var re_int k_le)) (rt_test (re_op (re_lc (ri_seq re_var) (rn_name (by decide)) rt_yes (re_call0 (ra_cons re_var (ra_cons re_var ra_nil)) (fun _ => .nil)) (fun _ _ _ _ _ z => z)) (re_lrg re_var) k_neA))) (rs_ret re_bl) rs_next)
  (rs_seq (rs_for (ri_seq (re_op re_var (re_lst (ra_cons (re_cb (ra_cons (re_lc (ri_seq re_var) (rn_name (by decide)) rt_yes re_int (fun _ _ _ _ _ z => z)) ra_nil) k_tuple) (ra_cons (re_cb (ra_cons (re_lc (ri_seq re_var) (rn_name (by decide)) rt_yes (re_op re_var re_int k_sub) (fun _ _ _ _ _ z => z)) ra_nil) k_tuple) ra_nil))) k_add)) rg_name (RS.scope (rs_seq (rs_set (re_call0 (ra_cons (re_cb (ra_cons re_var ra_nil) k_tuple) (ra_cons re_var ra_nil)) (fun _ => .nil)))
  (rs_seq (rs_set re_int)
  (rs_seq (rs_for (ri_rng1 (ra_cons (re_cb (ra_cons re_var ra_nil) k_len) ra_nil)) rg_name (RS.scope (rs_set (re_op (re_op re_var (re_op re_var re_var k_ix) k_mul) (re_op re_var re_var k_ix) k_add))))
  (rs_if (rt_or (rt_test (re_op re_var re_var k_neA)) (rt_or (rt_test (re_op (re_call0 (ra_cons re_var (ra_cons re_var ra_nil)) (fun _ => .nil)) re_var k_neA)) (rt_not (rt_B (re_isi .tuple (re_call0 (ra_cons re_var (ra_cons re_var ra_nil)) (fun _ => .nil))))))) (rs_ret re_bl) rs_next))))))
  (rs_seq (rs_set (re_lc (ri_rng1 (ra_cons (re_op re_int (re_call0 (ra_cons re_var (ra_cons re_int ra_nil)) (fun _ => .nil)) k_add) ra_nil)) (rn_name (by decide)) rt_yes (re_op re_int (re_call0 (ra_cons re_var (ra_cons re_int ra_nil)) (fun _ => .nil)) k_add) (fun _ _ _ _ _ z => z)))
  (rs_seq (rs_set (re_call0 (ra_cons re_var ra_nil) (fun _ => .nil)))
  (rs_seq (rs_if (rt_or (rt_test (re_op (re_lc (ri_seq re_var) (rn_name (by decide)) rt_yes (re_call0 (ra_cons re_var (ra_cons re_var ra_nil)) (fun _ => .nil)) (fun _ _ _ _ _ z => z)) (re_lrg (re_cb (ra_cons re_var ra_nil) k_len)) k_neA)) (rt_test (re_op (re_lc (ri_rng1 (ra_cons (re_cb (ra_cons re_var ra_nil) k_len) ra_nil)) (rn_name (by decide)) rt_yes (re_call0 (ra_cons re_var (ra_cons re_var ra_nil)) (fun _ => .nil)) (fun _ _ _ _ _ z => z)) re_var k_neA))) (rs_ret re_bl) rs_next)
  (rs_seq (rs_if (rt_or (rt_test (re_op (re_call0 (ra_cons re_var ra_nil) (fun _ => .nil)) (re_cb (ra_cons re_var ra_nil) k_len) k_neA)) (rt_or (rt_test (re_op (re_call0 (ra_cons (re_lst ra_nil) (ra_cons (re_tup ra_nil) ra_nil)) (fun _ => .nil)) re_int k_neA)) (rt_test (re_op (re_call0 (ra_cons (re_lst ra_nil) (ra_cons re_int ra_nil)) (fun _ => .nil)) (re_tup ra_nil) k_neA)))) (rs_ret re_bl) rs_next)
  (rs_seq (rs_set (re_cb (ra_cons (re_op re_var (re_call0 (ra_cons re_var (ra_cons (re_cb (ra_cons re_var ra_nil) k_len) ra_nil)) (fun _ => .nil)) k_ix) ra_nil) k_list))
  (rs_seq (rs_if (rt_or (rt_not (rt_B (re_call0 (ra_cons re_var (ra_cons re_var (ra_cons re_bl ra_nil))) (fun _ => .nil)))) (rt_not (rt_B (re_call0 (ra_cons (re_cb (ra_cons re_var ra_nil) k_tuple) (ra_cons (re_cb (ra_cons re_var ra_nil) k_tuple) (ra_cons re_bl ra_nil))) (fun _ => .nil))))) (rs_ret re_bl) rs_next)
  (rs_seq (rs_set (re_call0 (ra_cons re_var (ra_cons (re_cb (ra_cons re_var ra_nil) k_len) ra_nil)) (fun _ => .nil)))
  (rs_seq (rs_set (re_cb (ra_cons re_var ra_nil) k_listM))
  (rs_seq (rs_asg (re_op (re_lst (ra_cons (re_op re_var re_var k_ix) (ra_cons (re_neg re_int) (ra_cons re_bl (ra_cons re_non (ra_cons re_str (ra_cons (re_tup (ra_cons re_int ra_nil)) (ra_cons (re_op (re_op re_var re_var k_ix) (re_call0 (ra_cons re_var (ra_cons (re_op re_int re_int k_pow) ra_nil)) (fun _ => .nil)) k_add) ra_nil)))))))) (re_call0 (ra_cons re_var (ra_cons re_int ra_nil)) (fun _ => .nil)) k_ix) (rg_sub re_var re_var))
  (rs_seq (rs_for (ri_seq (re_lst (ra_cons re_var (ra_cons (re_sl re_var ro_none (ro_part (re_neg re_int))) (ra_cons (re_op re_var (re_lst (ra_cons re_int ra_nil)) k_add) (ra_cons (re_tup ra_nil) (ra_cons re_non (ra_cons re_int (ra_cons re_str (ra_cons (re_cb (ra_cons re_var ra_nil) k_tuple) ra_nil)))))))))) rg_name (RS.scope (rs_if (rt_not (rt_B (re_call0 (ra_cons re_var (ra_cons re_var (ra_cons re_bl ra_nil))) (fun _ => .nil)))) (rs_ret re_bl) rs_next)))
  (rs_ret (re_call0 (ra_cons re_var ra_nil) (fun _ => .nil)))))))))))))))))))))))))))) h
end
end K02
namespace K02
open PySem L2 Co
def small (n : Int) : Prop := -(2 ^ 63) < n ∧ n < 2 ^ 63
def prodI (ns : List Int) : Int := ns.foldl (· * ·) 1
theorem prodI_snoc (ns : List Int) (n : Int) : prodI (ns ++ [n]) = prodI ns * n := by simp [prodI, List.foldl_append]
def numI : List Int → List Int → Int → Int
  | r :: rs, w :: ws, n => numI rs ws (n * w + r)
  | _, _, n => n
def digs : List Int → Int → List Int
  | [], _ => []
  | w :: ws, n => n % w :: digs ws (n / w)
def restI : List Int → Int → Int
  | [], n => n
  | w :: ws, n => restI ws (n / w)
theorem digs_snoc : ∀ (ws : List Int) (w n : Int), digs (ws ++ [w]) n = digs ws n ++ [restI ws n % w]
  | [], w, n => rfl
  | a :: ws, w, n => by simp [digs, restI, digs_snoc ws w]
theorem restI_snoc : ∀ (ws : List Int) (w n : Int), restI (ws ++ [w]) n = restI ws n / w
  | [], w, n => rfl
  | a :: ws, w, n => by simp [restI, restI_snoc ws w]
theorem digs_len : ∀ (ws : List Int) (n : Int), (digs ws n).length = ws.length
  | [], _ => rfl
  | _ :: ws, n => by simp [digs, digs_len ws]
def ext1 (w : Int) (r : List Int) : List (List Int) := (List.range w.toNat).map fun (v : Nat) => r ++ [(v : Int)]
def allI (ws : List Int) : List (List Int) := ws.foldl (fun rows w => rows.flatMap (ext1 w)) [[]]
theorem allI_snoc (ws : List Int) (w : Int) : allI (ws ++ [w]) = (allI ws).flatMap (ext1 w) := by simp [allI, List.foldl_append]
theorem ext1_len (w : Int) (r : List Int) : (ext1 w r).length = w.toNat := by simp [ext1]
theorem flat_len (w : Int) : ∀ rows : List (List Int), (rows.flatMap (ext1 w)).length = rows.length * w.toNat
  | [] => by simp
  | r :: rs => by rw [List.flatMap_cons, List.length_append, flat_len w rs, ext1_len, List.length_cons, Nat.add_mul, Nat.one_mul, Nat.add_comm]
theorem allI_row {ws : List Int} : ∀ r ∈ allI ws, r.length = ws.length := by
  induction ws using snoc_ind with
  | h0 => intro r hr; simp [allI] at hr; subst hr; rfl
  | h1 ws w ih =>
    intro r hr
    rw [allI_snoc, List.mem_flatMap] at hr
    obtain ⟨q, hq, hr⟩ := hr
    simp [ext1] at hr
    obtain ⟨v, _, rfl⟩ := hr
    simp [ih q hq]
theorem allI_len {ws : List Int} (h : ∀ z ∈ ws, 1 ≤ z) : ((allI ws).length : Int) = prodI ws := by
  induction ws using snoc_ind with
  | h0 => rfl
  | h1 ws w ih =>
    rw [allI_snoc, flat_len, prodI_snoc, Int.natCast_mul, ih fun z hz => h z (List.mem_append_left _ hz)]
    have := h w (by simp)
    rw [Int.toNat_of_nonneg (by omega)]
theorem prodI_pos {ws : List Int} (h : ∀ z ∈ ws, 1 ≤ z) : 1 ≤ prodI ws := by
  induction ws using snoc_ind with
  | h0 => decide
  | h1 ws w ih =>
    rw [prodI_snoc]
    have h1 := ih fun z hz => h z (List.mem_append_left _ hz)
    have h2 := h w (by simp)
    have := Int.mul_le_mul h1 h2 (by decide) (by omega)
    omega
theorem prodI_take {ws : List Int} (h : ∀ z ∈ ws, 1 ≤ z) (i : Nat) : prodI (ws.take i) ≤ prodI ws := by
  have h1 : prodI ws = prodI (ws.take i) * prodI (ws.drop i) := by
    have : ∀ xs ys : List Int, prodI (xs ++ ys) = prodI xs * prodI ys := by
      intro xs ys
      induction ys using snoc_ind with
      | h0 => simp [prodI]
      | h1 ys y ih => rw [← List.append_assoc, prodI_snoc, prodI_snoc, ih, Int.mul_assoc]
    rw [← this, List.take_append_drop]
  have h2 := prodI_pos (ws := ws.take i) fun z hz => h z (List.mem_of_mem_take hz)
  have h3 := prodI_pos (ws := ws.drop i) fun z hz => h z (List.mem_of_mem_drop hz)
  rw [h1]
  have := Int.mul_le_mul_of_nonneg_left h3 (show 0 ≤ prodI (ws.take i) by omega)
  omega
/-! ### rows and their numbers -/
theorem numI_snoc : ∀ (r ws : List Int) (v w n : Int), r.length = ws.length → numI (r ++ [v]) (ws ++ [w]) n = numI r ws n * w + v
  | [], [], v, w, n, _ => rfl
  | [], _ :: _, _, _, _, h => by simp at h
  | _ :: _, [], _, _, _, h => by simp at h
  | a :: r, b :: ws, v, w, n, h => by
    show numI (r ++ [v]) (ws ++ [w]) (n * b + a) = numI r ws (n * b + a) * w + v
    exact numI_snoc r ws v w _ (by simpa using h)
/-- a row of a table -/
inductive Val : List Int → List Int → Prop
  | nil : Val [] []
  | cons {v w : Int} {r ws : List Int} : 0 ≤ v → v < w → Val r ws → Val (v :: r) (w :: ws)
theorem Val.len {r ws : List Int} (h : Val r ws) : r.length = ws.length := by
  induction h with
  | nil => rfl
  | cons _ _ _ ih => simp [ih]
theorem Val.snoc {r ws : List Int} {v w : Int} (h : Val r ws) (h0 : 0 ≤ v) (h1 : v < w) : Val (r ++ [v]) (ws ++ [w]) := by
  induction h with
  | nil => exact .cons h0 h1 .nil
  | cons a b _ ih => exact .cons a b ih
theorem Val.of_snoc {r ws : List Int} {v w : Int} (hl : r.length = ws.length) (h : Val (r ++ [v]) (ws ++ [w])) : Val r ws ∧ 0 ≤ v ∧ v < w := by
  induction r generalizing ws with
  | nil =>
    cases ws with
    | nil => cases h with | cons a b _ => exact ⟨.nil, a, b⟩
    | cons => simp at hl
  | cons x r ih =>
    cases ws with
    | nil => simp at hl
    | cons y ws =>
      cases h with
      | cons a b c =>
        obtain ⟨h1, h2⟩ := ih (by simpa using hl) c
        exact ⟨.cons a b h1, h2⟩
theorem allI_val {ws : List Int} : ∀ r ∈ allI ws, Val r ws := by
  induction ws using snoc_ind with
  | h0 => intro r hr; simp [allI] at hr; subst hr; exact .nil
  | h1 ws w ih =>
    intro r hr
    rw [allI_snoc, List.mem_flatMap] at hr
    obtain ⟨q, hq, hr⟩ := hr
    simp [ext1] at hr
    obtain ⟨v, hv, rfl⟩ := hr
    exact (ih q hq).snoc (by omega) (by omega)
theorem range_mul (n w : Nat) : (List.range n).flatMap (fun x => (List.range w).map fun v => x * w + v) = List.range (n * w) := by
  induction n with
  | zero => simp
  | succ n ih =>
    rw [List.range_succ, List.flatMap_append, ih, Nat.add_mul, Nat.one_mul, List.range_add]
    simp
theorem nums_all {ws : List Int} (h : ∀ z ∈ ws, 1 ≤ z) : (allI ws).map (fun r => numI r ws 0) = (List.range (prodI ws).toNat).map fun (n : Nat) => (n : Int) := by
  induction ws using snoc_ind with
  | h0 => rfl
  | h1 ws w ih =>
    have h' := ih fun z hz => h z (List.mem_append_left _ hz)
    have hw := h w (by simp)
    have hp := prodI_pos (ws := ws) fun z hz => h z (List.mem_append_left _ hz)
    have e1 : (allI ws).map (fun r => (ext1 w r).map fun q => numI q (ws ++ [w]) 0) = ((allI ws).map fun r => numI r ws 0).map fun x => (List.range w.toNat).map fun (v : Nat) => x * w + (v : Int) := by
      rw [List.map_map]
      refine List.map_congr_left fun r hr => ?_
      simp only [ext1, List.map_map, Function.comp]
      refine List.map_congr_left fun v _ => ?_
      exact numI_snoc r ws _ w 0 (allI_row r hr)
    rw [allI_snoc, List.map_flatMap, List.flatMap_def, e1, h', List.map_map, ← List.flatMap_def, prodI_snoc]
    have e2 : (prodI ws * w).toNat = (prodI ws).toNat * w.toNat := by
      rw [Int.toNat_mul (by omega) (by omega)]
    rw [e2, ← range_mul, List.map_flatMap]
    have e3 : ∀ x : Nat, ((fun x : Int => (List.range w.toNat).map fun (v : Nat) => x * w + (v : Int)) ∘ fun (n : Nat) => (n : Int)) x = ((List.range w.toNat).map fun v => x * w.toNat + v).map fun (n : Nat) => (n : Int) := fun x => by
      simp only [Function.comp, List.map_map]
      refine List.map_congr_left fun v _ => ?_
      simp only [Function.comp, Int.natCast_add, Int.natCast_mul]
      rw [Int.toNat_of_nonneg (by omega)]
    exact congrArg (fun f => List.flatMap f (List.range (prodI ws).toNat)) (funext e3)
/-- the row of a number -/
def rowI (ws : List Int) (n : Int) : List Int := (digs ws.reverse n).reverse
theorem rowI_snoc (ws : List Int) (w n : Int) : rowI (ws ++ [w]) n = rowI ws (n / w) ++ [n % w] := by
  simp [rowI, digs]
theorem rowI_num {ws : List Int} : ∀ r, Val r ws → rowI ws (numI r ws 0) = r := by
  induction ws using snoc_ind with
  | h0 => intro r h; cases h; rfl
  | h1 ws w ih =>
    intro r h
    have hl := h.len
    have hne : r ≠ [] := by intro z; rw [z] at hl; simp at hl
    have hq : r = r.dropLast ++ [r.getLast hne] := (List.dropLast_concat_getLast hne).symm
    rw [hq] at h ⊢
    have hl' : r.dropLast.length = ws.length := by rw [List.length_dropLast, hl]; simp
    obtain ⟨h1, h2, h3⟩ := h.of_snoc hl'
    rw [numI_snoc _ _ _ _ _ hl', rowI_snoc]
    have e1 : (numI r.dropLast ws 0 * w + r.getLast hne) / w = numI r.dropLast ws 0 := by
      rw [Int.add_comm, Int.add_mul_ediv_right _ _ (by omega), Int.ediv_eq_zero_of_lt h2 h3, Int.zero_add]
    have e2 : (numI r.dropLast ws 0 * w + r.getLast hne) % w = r.getLast hne := by
      rw [Int.add_comm, Int.add_mul_emod_self_right, Int.emod_eq_of_lt h2 h3]
    rw [e1, e2, ih _ h1]
theorem rows_all {ws : List Int} (h : ∀ z ∈ ws, 1 ≤ z) : (List.range (prodI ws).toNat).map (fun (n : Nat) => rowI ws (n : Int)) = allI ws := by
  have e := nums_all h
  have : (List.range (prodI ws).toNat).map (fun (n : Nat) => rowI ws (n : Int)) = ((List.range (prodI ws).toNat).map fun (n : Nat) => (n : Int)).map (rowI ws) := by rw [List.map_map]; rfl
  rw [this, ← e, List.map_map]
  have e3 : (allI ws).map (rowI ws ∘ fun r => numI r ws 0) = (allI ws).map id := List.map_congr_left fun r hr => rowI_num r (allI_val r hr)
  rw [e3, List.map_id]
end K02
namespace K02
open PySem L2 Co Fx
/-! ### the bag -/
theorem v_draw {b : BS} {lim : Int} {T : Sta} (h : Bi b) (hcn : b.c < 1000000000) (h1 : 1 ≤ lim) (h2 : lim ≤ 10 ^ 30) : m__law_draw [.mu 0, .int lim] (bagC b :: T) = .ok (.int (dv b lim)) (bagC (db b lim) :: T) := by
  obtain ⟨p, ns, i, g, c, s⟩ := b
  obtain ⟨h0i, h0g, h0c, h0s, hs⟩ := h
  dsimp only at h0i h0g h0c hcn h0s hs
  have hl := lim_log h1 h2
  have c64 : -18446744073709551616 < c + 1 ∧ c + 1 < 18446744073709551616 := ⟨by omega, by omega⟩
  unfold bagC
  by_cases hg : 0 < g
  · simp [m__law_draw, envOf, hg, hl, ixN, drw, dv, db]
  · by_cases hi : i < (ns.length : Int)
    · obtain ⟨z, hz⟩ : ∃ z, ns[i.toNat]? = some z := ⟨_, List.getElem?_eq_getElem (by omega)⟩
      have hix : atI (ns.map PV.int) i = some (.int z) := atI_get h0i (by rw [List.getElem?_map, hz]; rfl)
      by_cases hb : 10 ^ 18 ≤ absI z
      · have hb' : 1000000000000000000 ≤ if z < 0 then -z else z := hb
        simp [m__law_draw, envOf, hg, hi, hl, hix, ixN, drw, dv, db, hz, absI, hb']
      · have hb' : ¬ 1000000000000000000 ≤ if z < 0 then -z else z := hb
        simp [m__law_draw, envOf, hg, hi, hl, hix, ixN, drw, dv, db, hz, absI, hb', mix1, mix2, log65536, log7, c64]
    · simp [m__law_draw, envOf, hg, hi, hl, ixN, drw, dv, db, mix1, mix2, log65536, log7, c64]
/-- a draw: some number in the range, some bag -/
theorem v_drawE {b : BS} {n : Nat} {lim : Int} (T : Sta) (h : BOk b (n + 1)) (h1 : 1 ≤ lim) (h2 : lim ≤ 10 ^ 30) : ∃ r b', m__law_draw [.mu 0, .int lim] (bagC b :: T) = .ok (.int r) (bagC b' :: T) ∧ 0 ≤ r ∧ r < lim ∧ BOk b' n :=
  ⟨_, _, v_draw h.i (by have := h.c; omega) h1 h2, (draw_range h1).1, (draw_range h1).2, bok_db h h1⟩
theorem v_bag {ns : List Int} (h : ns.length ≤ 63) : ∃ b, m__law_bag [.kls (ns.map .int)] [] = .ok (.mu 0) [bagC b] ∧ BOk b 900000000 := by
  refine ⟨⟨0, ns, 0, 0, 0, 20021⟩, ?_, ⟨(by decide : (0 : Int) ≤ 0), (by decide : (0 : Int) ≤ 0), (by decide : (0 : Int) ≤ 0), (by decide : (0 : Int) ≤ 20021), (by decide : (20021 : Int) < 2147483647)⟩, (by decide : (0 : Int) + (900000000 : Nat) ≤ 1000000000)⟩
  have hc : cutP (ns.map PV.int) none (some 63) = ns.map .int := by
    unfold cutP
    have : HT.sIx (ns.map PV.int).length 0 none = 0 := rfl
    rw [this, List.drop_zero, Nat.sub_zero, List.take_of_length_le]
    rw [List.length_map]
    show ns.length ≤ HT.sIx ns.length ns.length (some 63)
    simp [HT.sIx]
    omega
  have hl : lcLoop (NameG 1) YesT (CbE fInt (ConsA (VarE 1) NilA)) [] [some (.kls (ns.map .int)), none] (ns.map .int) [] [] = .ok ([] ++ (ns.map PV.int).map fun x => x) [] := by
    refine lcLoop_map (fun x => x) rfl _ _ (fun x hx => ?_) (by simp; omega)
    obtain ⟨z, hz, rfl⟩ := List.mem_map.mp hx
    exact ⟨_, rfl, rfl, rfl⟩
  simp [m__law_bag, fSl, hc, hl, newL, bagC]
end K02
namespace K02
open PySem L2 Co Fx
/-! ### is_whole, is_sequence -/
def loP : PV → Int → Bool
  | .int l, i => decide (l ≤ i)
  | _, _ => true
def hiP : PV → Int → Bool
  | .int h, i => decide (i ≤ h)
  | _, _ => true
def bndP : PV → Bool
  | .non => true
  | .int _ => true
  | _ => false
@[simp] theorem bndP_1 : bndP .non = true := id rfl
@[simp] theorem bndP_2 {i : Int} : bndP (.int i) = true := id rfl
@[simp] theorem loP_1 {i : Int} : loP .non i = true := id rfl
@[simp] theorem loP_2 {l i : Int} : loP (.int l) i = decide (l ≤ i) := id rfl
@[simp] theorem hiP_1 {i : Int} : hiP .non i = true := id rfl
@[simp] theorem hiP_2 {l i : Int} : hiP (.int l) i = decide (i ≤ l) := id rfl
def wholeP : PV → PV → PV → Bool
  | .int i, lo, hi => loP lo i && hiP hi i
  | _, _, _ => false
@[simp] theorem wholeP_int {i : Int} {lo hi : PV} : wholeP (.int i) lo hi = (loP lo i && hiP hi i) := id rfl
@[simp] theorem wholeP_bl {i : Bool} {lo hi : PV} : wholeP (.bl i) lo hi = false := id rfl
@[simp] theorem wholeP_str {i : Str} {lo hi : PV} : wholeP (.str i) lo hi = false := id rfl
@[simp] theorem wholeP_tup {i : List PV} {lo hi : PV} : wholeP (.tup i) lo hi = false := id rfl
@[simp] theorem wholeP_lst {i : List PV} {lo hi : PV} : wholeP (.lst i) lo hi = false := id rfl
@[simp] theorem wholeP_non {lo hi : PV} : wholeP .non lo hi = false := id rfl
theorem v_is_whole {x lo hi : PV} {S : Sta} (hx : (tyP S x).isSome = true) (h1 : bndP lo = true) (h2 : bndP hi = true) : m_is_whole [x, lo, hi] S = .ok (.bl (wholeP x lo hi)) S := by
  cases x with
  | int i =>
    cases lo <;> first | (cases h1; done) | skip
    all_goals cases hi <;> first | (cases h2; done) | skip
    all_goals simp [m_is_whole]
  | mu n =>
    simp only [tyP_mu] at hx
    split at hx
    · rename_i xs e; simp [m_is_whole, e, wholeP]
    · cases hx
  | obj => cases hx
  | xv => cases hx
  | non => simp [m_is_whole]
  | bl => simp [m_is_whole]
  | str => simp [m_is_whole]
  | tup => simp [m_is_whole]
  | lst => simp [m_is_whole]
  | kls => simp [m_is_whole, wholeP]
def lenP (S : Sta) (x : PV) : Option Nat := (items S x).map fun q => q.2.length
def seqP (S : Sta) (x lo hi : PV) : Bool := match items S x with
  | some (_, xs) => wholeP (.int (xs.length : Int)) lo hi
  | none => false
theorem v_is_sequence {x lo hi : PV} {S : Sta} (hx : (tyP S x).isSome = true) (h1 : bndP lo = true) (h2 : bndP hi = true) : m_is_sequence [x, lo, hi] S = .ok (.bl (seqP S x lo hi)) S := by
  cases x with
  | mu n =>
    simp only [tyP_mu] at hx
    split at hx
    · rename_i xs e; simp [m_is_sequence, e, seqP, v_is_whole, h1, h2]
    · cases hx
  | obj => cases hx
  | xv => cases hx
  | non => simp [m_is_sequence, seqP, items]
  | bl => simp [m_is_sequence, seqP, items]
  | str => simp [m_is_sequence, seqP, items]
  | int => simp [m_is_sequence, seqP, items]
  | tup => simp [m_is_sequence, seqP, v_is_whole, h1, h2]
  | lst => simp [m_is_sequence, seqP, v_is_whole, h1, h2]
  | kls => simp [m_is_sequence, seqP, v_is_whole, h1, h2]
/-! ### row_count -/
theorem prodI_cons (m w : Int) (ws : List Int) : m * prodI (w :: ws) = m * w * prodI ws := by
  have : ∀ (l : List Int) (a : Int), l.foldl (· * ·) a = a * l.foldl (· * ·) 1 := by
    intro l
    induction l with
    | nil => intro a; simp
    | cons y l ih => intro a; rw [List.foldl_cons, List.foldl_cons, ih, ih (1 * y), Int.one_mul, Int.mul_assoc]
  show m * (List.foldl (· * ·) (1 * w) ws) = _
  rw [this ws (1 * w), Int.one_mul, ← Int.mul_assoc]
  rfl
theorem count_loop {S : Sta} {x : PV} {pins : List (Nat × List PV)} (hp : pinsOk S pins = true) : ∀ (ws : List Int) (m : Int) (u : Option PV), (∀ z ∈ ws, small z) →
    ∃ u', loop (NameG 2) (scopeS (SetS 1 (OpE fMul (VarE 1) (VarE 2)))) pins (ws.map .int) [some x, some (.int m), u] S = .nx [some x, some (.int (m * prodI ws)), u'] S
  | [], m, u, _ => ⟨u, by simp [loop, hp, prodI]⟩
  | w :: ws, m, u, h => by
    have hw := h w (by simp)
    obtain ⟨u', e⟩ := count_loop (x := x) hp ws (m * w) (some (.int w)) fun z hz => h z (List.mem_cons_of_mem _ hz)
    refine ⟨u', ?_⟩
    have hc : (-18446744073709551616 < m ∧ m < 18446744073709551616) ∨ (-18446744073709551616 < w ∧ w < 18446744073709551616) := by
      have h1 : -(2 ^ 63) < w := hw.1
      have h2 : w < 2 ^ 63 := hw.2
      omega
    have e2 : m * prodI (w :: ws) = m * w * prodI ws := prodI_cons m w ws
    rw [e2, ← e]
    simp [loop, hp, hc]
theorem v_row_count {S : Sta} {x : PV} {k : Bool} {ws : List Int} (hx : items S x = some (k, ws.map .int)) (h : ∀ z ∈ ws, small z) : m_row_count [x] S = .ok (.int (prodI ws)) S := by
  obtain ⟨pins, e⟩ := items_it hx
  obtain ⟨u', e2⟩ := count_loop (x := x) (seqIt_pin e) ws 1 none h
  simp [m_row_count, e, e2]
end K02
namespace K02
open PySem L2 Co Fx
def asIP : PV → Int
  | .int i => i
  | _ => 0
def wid (p : PV) : Bool := wholeP p (.int 1) (.int 64)
def goodL (xs : List PV) : Bool := decide (1 ≤ xs.length ∧ xs.length ≤ 3) && xs.all wid && decide (prodI (xs.map asIP) ≤ 4096)
def goodP (S : Sta) (x : PV) : Bool := match items S x with
  | some (_, xs) => goodL xs
  | none => false
theorem wid_int {p : PV} (h : wid p = true) : ∃ i : Int, p = .int i ∧ 1 ≤ i ∧ i ≤ 64 := by
  cases p <;> first | (cases h; done) | skip
  rename_i i
  unfold wid at h
  simp at h
  exact ⟨i, rfl, h.1, h.2⟩
theorem all_wid {xs : List PV} (h : xs.all wid = true) : xs = (xs.map asIP).map .int ∧ ∀ z ∈ xs.map asIP, 1 ≤ z ∧ z ≤ 64 := by
  induction xs with
  | nil => exact ⟨rfl, fun z h => by cases h⟩
  | cons x xs ih =>
    rw [List.all_cons, Bool.and_eq_true] at h
    obtain ⟨i, rfl, h1, h2⟩ := wid_int h.1
    obtain ⟨h3, h4⟩ := ih h.2
    refine ⟨?_, fun z hz => ?_⟩
    · rw [List.map_cons, List.map_cons, ← h3]; rfl
    · rw [List.map_cons] at hz
      rcases List.mem_cons.mp hz with rfl | hz
      · exact ⟨h1, h2⟩
      · exact h4 z hz
structure Plain (S : Sta) (x : PV) : Prop where
  t : (tyP S x).isSome = true
  i : ∀ k xs, items S x = some (k, xs) → xs.length ≤ 1000 ∧ ∀ p ∈ xs, (tyP S p).isSome = true
theorem v_check_widths {S : Sta} {x : PV} (h : Plain S x) : m_check_widths [x] S = if goodP S x = true then .ok (.tup ((items S x).getD (true, [])).2) S else .ex "BadWidths" [] S := by
  cases e : items S x with
  | none => simp [m_check_widths, v_is_sequence, h.t, seqP, e, goodP]
  | some q =>
    obtain ⟨k, xs⟩ := q
    obtain ⟨pins, e2⟩ := items_it e
    obtain ⟨hl, hp⟩ := h.i k xs e
    by_cases h1 : 1 ≤ xs.length ∧ xs.length ≤ 3
    · have hs : seqP S x (.int 1) (.int 3) = true := by simp [seqP, e]; omega
      have hl : lcLoop (NameG 1) YesT (CallE m_is_whole [] (ConsA (VarE 1) (ConsA (Fx.CE (.int 1)) (ConsA (Fx.CE (.int 64)) NilA)))) pins [some x, none] xs [] S = .ok ([] ++ xs.map fun p => .bl (wid p)) S := by
        refine lcLoop_map _ (seqIt_pin e2) _ _ (fun p hpx => ?_) (by simp; omega)
        exact ⟨[some x, some p], rfl, rfl, by simp [v_is_whole, hp p hpx, wid]⟩
      by_cases h2 : xs.all wid = true
      · obtain ⟨h3, h4⟩ := all_wid h2
        have h5 : m_row_count [x] S = .ok (.int (prodI (xs.map asIP))) S := by
          refine v_row_count (k := k) (by rw [← h3]; exact e) fun z hz => ?_
          have := h4 z hz
          unfold small
          omega
        by_cases h6 : prodI (xs.map asIP) ≤ 4096
        · have h7 : ¬ 4096 < prodI (xs.map asIP) := by omega
          simp [m_check_widths, v_is_sequence, h.t, hs, e2, hl, bools_map, h2, h5, h6, h7, fTuple_it e, goodP, e, goodL, h1]
        · have h7 : 4096 < prodI (xs.map asIP) := by omega
          simp [m_check_widths, v_is_sequence, h.t, hs, e2, hl, bools_map, h2, h5, h6, h7, fTuple_it e, goodP, e, goodL, h1]
      · simp [m_check_widths, v_is_sequence, h.t, hs, e2, hl, bools_map, h2, fTuple_it e, goodP, e, goodL, h1]
    · have hs : seqP S x (.int 1) (.int 3) = false := by simp [seqP, e]; omega
      simp [m_check_widths, v_is_sequence, h.t, hs, goodP, e, goodL, h1]
def toldP (S : Sta) (x : PV) : PV := if goodP S x = true then .tup ((items S x).getD (true, [])).2 else .non
theorem v_told {S : Sta} {x : PV} (h : Plain S x) : m__law_widths_told [x] S = .ok (toldP S x) S := by
  have e := v_check_widths h
  unfold toldP
  by_cases hg : goodP S x = true
  · rw [if_pos hg] at e ⊢
    simp [m__law_widths_told, e]
  · rw [if_neg hg] at e ⊢
    simp [m__law_widths_told, e]
/-! ### _law_good -/
theorem good_loop {S : Sta} {x : PV} {pins : List (Nat × List PV)} (hp : pinsOk S pins = true) : ∀ (xs : List PV) (m : Int) (u : Option PV), (∀ p ∈ xs, (tyP S p).isSome = true) →
    if xs.all wid = true then ∃ u', loop (NameG 2) (scopeS (SeqS (IfS (TOr (TNot (TestE (IsiE .int (VarE 2)))) (TOr (TestE (IsiE .bool (VarE 2))) (TNot (TestE (ChainE fLe fLe (Fx.CE (.int 1)) (VarE 2) (Fx.CE (.int 64))))))) (RetS (Fx.CE (.bl false))) NextS) (SetS 1 (OpE fMul (VarE 1) (VarE 2))))) pins xs [some x, some (.int m), u] S = .nx [some x, some (.int (m * prodI (xs.map asIP))), u'] S
    else loop (NameG 2) (scopeS (SeqS (IfS (TOr (TNot (TestE (IsiE .int (VarE 2)))) (TOr (TestE (IsiE .bool (VarE 2))) (TNot (TestE (ChainE fLe fLe (Fx.CE (.int 1)) (VarE 2) (Fx.CE (.int 64))))))) (RetS (Fx.CE (.bl false))) NextS) (SetS 1 (OpE fMul (VarE 1) (VarE 2))))) pins xs [some x, some (.int m), u] S = .rt (.bl false) S
  | [], m, u, _ => ⟨u, by simp [loop, hp, prodI]⟩
  | p :: xs, m, u, h => by
    by_cases hw : wid p = true
    · obtain ⟨i, rfl, h1, h2⟩ := wid_int hw
      have ih := good_loop (x := x) hp xs (m * i) (some (.int i)) fun z hz => h z (List.mem_cons_of_mem _ hz)
      have e2 : m * prodI (i :: xs.map asIP) = m * i * prodI (xs.map asIP) := prodI_cons m i _
      have hc : (-18446744073709551616 < m ∧ m < 18446744073709551616) ∨ (-18446744073709551616 < i ∧ i < 18446744073709551616) := by omega
      by_cases ha : xs.all wid = true
      · rw [if_pos ha] at ih
        have ha' : (PV.int i :: xs).all wid = true := by rw [List.all_cons, hw, ha]; rfl
        rw [if_pos ha']
        obtain ⟨u', e⟩ := ih
        refine ⟨u', ?_⟩
        rw [List.map_cons]
        show _ = Flow.nx [some x, some (.int (m * prodI (i :: xs.map asIP))), u'] S
        rw [e2, ← e]
        simp [loop, hp, hc, h1, h2]
      · rw [if_neg ha] at ih
        have ha' : ¬ (PV.int i :: xs).all wid = true := by rw [List.all_cons, hw]; simpa using ha
        rw [if_neg ha', ← ih]
        simp [loop, hp, hc, h1, h2]
    · have ha' : ¬ (p :: xs).all wid = true := by rw [List.all_cons]; simp [hw]
      rw [if_neg ha']
      have ht := h p (by simp)
      cases p with
      | int i =>
        by_cases h1 : 1 ≤ i
        · have h2 : ¬ i ≤ 64 := fun z => hw (by simp [wid, h1, z])
          simp [loop, hp, h1, h2]
        · simp [loop, hp, h1]
      | mu n =>
        simp only [tyP_mu] at ht
        split at ht
        · rename_i ys e; simp [loop, hp, e]
        · cases ht
      | obj => cases ht
      | xv => cases ht
      | non => simp [loop, hp]
      | bl => simp [loop, hp]
      | str => simp [loop, hp]
      | tup => simp [loop, hp]
      | lst => simp [loop, hp]
      | kls => simp [loop, hp]
theorem v_good {S : Sta} {x : PV} (h : Plain S x) : m__law_good [x] S = .ok (.bl (goodP S x)) S := by
  cases e : items S x with
  | none =>
    have ht := h.t
    cases x with
    | mu n =>
      simp only [tyP_mu] at ht
      split at ht
      · rename_i ys e1; simp [e1] at e
      · cases ht
    | obj => cases ht
    | xv => cases ht
    | non => simp [m__law_good, goodP, e]
    | bl => simp [m__law_good, goodP, e]
    | str => simp [m__law_good, goodP, e]
    | int => simp [m__law_good, goodP, e]
    | tup => cases e
    | lst => cases e
    | kls => cases e
  | some q =>
    obtain ⟨k, xs⟩ := q
    obtain ⟨pins, e2⟩ := items_it e
    obtain ⟨hl, hp⟩ := h.i k xs e
    have ht : tyP S x = some (if k = true then "list" else "tuple") := by
      unfold tyP
      rw [items_look e]
      cases k <;> rfl
    have hi : (isT (if k = true then "list" else "tuple") .list || isT (if k = true then "list" else "tuple") .tuple) = true := by cases k <;> decide
    have hl2 := fLen_it e
    have hg := good_loop (x := x) (seqIt_pin e2) xs 1 none hp
    by_cases h1 : 1 ≤ xs.length
    · have h1' : (1 : Int) ≤ xs.length := by omega
      by_cases h2 : xs.length ≤ 3
      · have h2' : (xs.length : Int) ≤ 3 := by omega
        by_cases ha : xs.all wid = true
        · rw [if_pos ha] at hg
          obtain ⟨u', hg⟩ := hg
          have hw : goodP S x = decide (prodI (xs.map asIP) ≤ 4096) := by simp [goodP, e, goodL, h1, h2, ha]
          rw [hw]
          simp [m__law_good, ht, hi, h1', h2', hl2, e2, hg, -fLen_ap]
        · rw [if_neg ha] at hg
          have hw : goodP S x = false := by simp [goodP, e, goodL, h1, h2, ha]
          rw [hw]
          simp [m__law_good, ht, hi, h1', h2', hl2, e2, hg, -fLen_ap]
      · have h2' : ¬ (xs.length : Int) ≤ 3 := by omega
        have hw : goodP S x = false := by simp [goodP, e, goodL, h1, h2]
        rw [hw]
        simp [m__law_good, ht, hi, h1', h2', hl2, e2, -fLen_ap]
    · have h1' : ¬ (1 : Int) ≤ xs.length := by omega
      have hw : goodP S x = false := by simp [goodP, e, goodL, h1]
      rw [hw]
      simp [m__law_good, ht, hi, h1', hl2, e2, -fLen_ap]
/-! ### row_number -/
theorem num_loop {S : Sta} {x y : PV} {pins : List (Nat × List PV)} (hp : pinsOk S pins = true) : ∀ (rs ws : List Int) (n : Int) (u v : Option PV), rs.length = ws.length → (∀ z ∈ ws, small z) →
    ∃ u' v', loop (TupG 2 (ConsG (NameG 3) (ConsG (NameG 4) NilG))) (scopeS (SetS 2 (OpE fAdd (OpE fMul (VarE 2) (VarE 4)) (VarE 3)))) pins (((rs.map PV.int).zip (ws.map PV.int)).map fun q => .tup [q.1, q.2]) [some x, some y, some (.int n), u, v] S = .nx [some x, some y, some (.int (numI rs ws n)), u', v'] S
  | [], [], n, u, v, _, _ => ⟨u, v, by simp [loop, hp, numI]⟩
  | r :: rs, w :: ws, n, u, v, hl, h => by
    have hw := h w (by simp)
    obtain ⟨u', v', e⟩ := num_loop (x := x) (y := y) hp rs ws (n * w + r) (some (.int r)) (some (.int w)) (by simpa using hl) fun z hz => h z (List.mem_cons_of_mem _ hz)
    refine ⟨u', v', ?_⟩
    have hc : (-18446744073709551616 < n ∧ n < 18446744073709551616) ∨ (-18446744073709551616 < w ∧ w < 18446744073709551616) := by
      have h1 : -(2 ^ 63) < w := hw.1
      have h2 : w < 2 ^ 63 := hw.2
      omega
    show _ = Flow.nx [some x, some y, some (.int (numI rs ws (n * w + r))), u', v'] S
    rw [← e]
    simp [loop, hp, hc]
  | [], _ :: _, _, _, _, hl, _ => by simp at hl
  | _ :: _, [], _, _, _, hl, _ => by simp at hl
theorem v_row_number {S : Sta} {x y : PV} {k m : Bool} {ws rs : List Int} (hx : items S x = some (k, ws.map .int)) (hy : items S y = some (m, rs.map .int)) (hl : rs.length = ws.length) (h : ∀ z ∈ ws, small z) : m_row_number [x, y] S = .ok (.int (numI rs ws 0)) S := by
  obtain ⟨p1, e1⟩ := items_it hx
  obtain ⟨p2, e2⟩ := items_it hy
  have hp : pinsOk S (p2 ++ p1) = true := by
    have a := seqIt_pin e1
    have b := seqIt_pin e2
    simp only [pinsOk, List.all_append, Bool.and_eq_true] at a b ⊢
    exact ⟨b, a⟩
  obtain ⟨u', v', e⟩ := num_loop (x := x) (y := y) hp rs ws 0 none none hl h
  simp [m_row_number, e1, e2, zipIt, e]
/-! ### row_at -/
theorem at_loop {x y : PV} {T : Sta} {pins : List (Nat × List PV)} (hp : ∀ xs, pinsOk (T ++ [.lst xs]) pins = true) : ∀ (ws : List Int) (n : Int) (acc : List Int) (u : Option PV), (∀ z ∈ ws, 0 < z ∧ z < 2 ^ 63) → acc.length + ws.length ≤ 1000 →
    ∃ u' n', loop (NameG 4) (scopeS (SeqS (DropS (AppE (VarE 2) (OpE fMod (VarE 3) (VarE 4)))) (SetS 3 (OpE fDiv (VarE 3) (VarE 4))))) pins (ws.map .int) [some x, some y, some (.mu T.length), some (.int n), u] (T ++ [.lst (acc.map .int)]) = .nx [some x, some y, some (.mu T.length), n', u'] (T ++ [.lst ((acc ++ digs ws n).map .int)])
  | [], n, acc, u, _, _ => ⟨u, some (.int n), by simp [loop, hp, digs]⟩
  | w :: ws, n, acc, u, h, hl => by
    have hw := h w (by simp)
    have h1 : 0 < w := hw.1
    have h2 : w < 2 ^ 63 := hw.2
    obtain ⟨u', n', e⟩ := at_loop (x := x) (y := y) hp ws (n / w) (acc ++ [n % w]) (some (.int w)) (fun z hz => h z (List.mem_cons_of_mem _ hz)) (by simp at hl ⊢; omega)
    refine ⟨u', n', ?_⟩
    have hlog : w.natAbs.log2 < 9000 := (lim_wide (lim := w) (by omega) (by omega)).2
    have hlen : acc.length < 100000 := by simp at hl; omega
    have e2 : acc ++ digs (w :: ws) n = (acc ++ [n % w]) ++ digs ws (n / w) := by simp [digs]
    rw [e2, ← e]
    simp [loop, hp, h1, hlog, hlen]
theorem v_row_at {S : Sta} {x : PV} {k : Bool} {ws : List Int} {n : Int} (hx : items S x = some (k, ws.map .int)) (h : ∀ z ∈ ws, 0 < z ∧ z < 2 ^ 63) (hl : ws.length ≤ 1000) (hS : flatS S = true) : m_row_at [x, .int n] S = .ok (.tup ((rowI ws n).map .int)) S := by
  obtain ⟨p1, e1⟩ := items_it hx
  have hp : ∀ xs, pinsOk (S ++ [.lst xs]) p1 = true := fun xs => by
    have a := pinned_of (seqIt_pin e1)
    simp only [pinsOk, List.all_eq_true]
    intro q hq
    have hs := a q hq
    rw [List.getElem?_append_left (List.getElem?_eq_some_iff.mp hs).1, hs]
    exact beqs_rfl _
  obtain ⟨u', n', e⟩ := at_loop (x := x) (y := .int n) hp ws.reverse n [] none (fun z hz => h z (by simpa using hz)) (by simpa using hl)
  have e3 : seqIt (S ++ [.lst []]) x = some (k, ⟨ws.map .int, p1⟩) := by
    cases x <;> first | exact e1 | skip
    rename_i m
    simp only [seqIt] at e1 ⊢
    cases hs : S[m]? with
    | none => rw [hs] at e1; cases e1
    | some c => rw [List.getElem?_append_left (List.getElem?_eq_some_iff.mp hs).1, hs]; rw [hs] at e1; exact e1
  simp at e
  have hf : clean 0 (PV.tup (List.map PV.int (digs ws.reverse n)).reverse) = true := by
    rw [← List.map_reverse]
    exact flat_ints _
  simp [m_row_at, e3, newL, e, rowI, give_flat hS hf]
end K02
namespace K02
open PySem L2 Co Fx
/-! ### check_row -/
def rowOk : List PV → List Int → Bool
  | p :: ps, w :: ws => wholeP p (.int 0) (.int (w - 1)) && rowOk ps ws
  | _, _ => true
def goodR (S : Sta) (y : PV) (ws : List Int) : Bool := match items S y with
  | some (_, ys) => decide (ys.length = ws.length) && rowOk ys ws
  | none => false
theorem row_loop {S : Sta} {x y : PV} {pins : List (Nat × List PV)} (hp : pinsOk S pins = true) : ∀ (ys : List PV) (ws : List Int) (u v : Option PV), (∀ p ∈ ys, (tyP S p).isSome = true) →
    if rowOk ys ws = true then ∃ u' v', loop (TupG 2 (ConsG (NameG 2) (ConsG (NameG 3) NilG))) (scopeS (IfS (TNot (TestE (CallE m_is_whole [] (ConsA (VarE 2) (ConsA (Fx.CE (.int 0)) (ConsA (OpE fSub (VarE 3) (Fx.CE (.int 1))) NilA)))))) (RaiseS "BadRow" ["row"] (ConsA (VarE 1) NilA)) NextS)) pins ((ys.zip (ws.map PV.int)).map fun q => .tup [q.1, q.2]) [some x, some y, u, v] S = .nx [some x, some y, u', v'] S
    else ∃ ε', loop (TupG 2 (ConsG (NameG 2) (ConsG (NameG 3) NilG))) (scopeS (IfS (TNot (TestE (CallE m_is_whole [] (ConsA (VarE 2) (ConsA (Fx.CE (.int 0)) (ConsA (OpE fSub (VarE 3) (Fx.CE (.int 1))) NilA)))))) (RaiseS "BadRow" ["row"] (ConsA (VarE 1) NilA)) NextS)) pins ((ys.zip (ws.map PV.int)).map fun q => .tup [q.1, q.2]) [some x, some y, u, v] S = .ex "BadRow" [y] ε' S
  | [], [], u, v, _ => ⟨u, v, by simp [loop, hp]⟩
  | [], _ :: _, u, v, _ => ⟨u, v, by simp [loop, hp]⟩
  | _ :: _, [], u, v, _ => ⟨u, v, by simp [loop, hp]⟩
  | p :: ys, w :: ws, u, v, h => by
    have ht := h p (by simp)
    by_cases hw : wholeP p (.int 0) (.int (w - 1)) = true
    · have ih := row_loop (x := x) (y := y) hp ys ws (some p) (some (.int w)) fun z hz => h z (List.mem_cons_of_mem _ hz)
      by_cases ha : rowOk ys ws = true
      · rw [if_pos ha] at ih
        have ha' : rowOk (p :: ys) (w :: ws) = true := by simp only [rowOk, hw, ha, Bool.and_self]
        rw [if_pos ha']
        obtain ⟨u', v', e⟩ := ih
        exact ⟨u', v', by rw [← e]; simp [loop, hp, v_is_whole, ht, hw]⟩
      · rw [if_neg ha] at ih
        have ha' : ¬ rowOk (p :: ys) (w :: ws) = true := by simp only [rowOk, hw, Bool.true_and]; exact ha
        rw [if_neg ha']
        obtain ⟨ε', e⟩ := ih
        exact ⟨ε', by rw [← e]; simp [loop, hp, v_is_whole, ht, hw]⟩
    · have ha' : ¬ rowOk (p :: ys) (w :: ws) = true := by simp [rowOk, hw]
      rw [if_neg ha']
      exact ⟨[some x, some y, some p, some (.int w)], by simp [loop, hp, v_is_whole, ht, hw]⟩
theorem v_check_row {S : Sta} {x y : PV} {k : Bool} {ws : List Int} (hx : items S x = some (k, ws.map .int)) (h : Plain S y) : m_check_row [x, y] S = if goodR S y ws = true then .ok (.tup ((items S y).getD (true, [])).2) S else .ex "BadRow" [y] S := by
  obtain ⟨p1, e1⟩ := items_it hx
  have hlx := fLen_it hx
  rw [List.length_map] at hlx
  cases e : items S y with
  | none => simp [m_check_row, v_is_sequence, h.t, seqP, e, goodR, hlx, -fLen_ap]
  | some q =>
    obtain ⟨m, ys⟩ := q
    obtain ⟨p2, e2⟩ := items_it e
    obtain ⟨hl, hp⟩ := h.i m ys e
    have hpp : pinsOk S (p2 ++ p1) = true := by
      have a := seqIt_pin e1
      have b := seqIt_pin e2
      simp only [pinsOk, List.all_append, Bool.and_eq_true] at a b ⊢
      exact ⟨b, a⟩
    by_cases h1 : ys.length = ws.length
    · have hs : seqP S y (.int (ws.length : Int)) (.int (ws.length : Int)) = true := by simp [seqP, e]; omega
      have hg := row_loop (x := x) (y := y) hpp ys ws none none hp
      by_cases ha : rowOk ys ws = true
      · rw [if_pos ha] at hg
        obtain ⟨u', v', hg⟩ := hg
        simp [m_check_row, v_is_sequence, h.t, hs, e, goodR, hlx, -fLen_ap, h1, ha, e1, e2, ZipI_ap, zipIt, hg, fTuple_it e]
      · rw [if_neg ha] at hg
        obtain ⟨ε', hg⟩ := hg
        simp [m_check_row, v_is_sequence, h.t, hs, e, goodR, hlx, -fLen_ap, h1, ha, e1, e2, ZipI_ap, zipIt, hg]
    · have hs : seqP S y (.int (ws.length : Int)) (.int (ws.length : Int)) = false := by simp [seqP, e]; omega
      simp [m_check_row, v_is_sequence, h.t, hs, e, goodR, hlx, -fLen_ap, h1]
/-! ### _law_row_right -/
theorem v_row_good {S : Sta} {x y : PV} {k m : Bool} {ws : List Int} {ys : List PV} {d : D} (hx : items S x = some (k, ws.map .int)) (h : Plain S y) (hg : goodR S y ws = true) (hy : items S y = some (m, ys)) (hd : dat S (.tup ys) = some d) (hf : Fit d) : m__law_row_right [x, y, .bl true] S = .ok (.bl true) S := by
  have e := v_check_row hx h
  rw [if_pos hg, hy] at e
  have q : fEqA S (.tup ys) (.tup ys) = some (.bl true) := fEq_refl hd hf
  simp [m__law_row_right, e, fTuple_it hy, q, -fTuple_ap]
theorem v_row_bad {S : Sta} {x y : PV} {k : Bool} {ws : List Int} {d : D} (hx : items S x = some (k, ws.map .int)) (h : Plain S y) (hg : ¬ goodR S y ws = true) (hd : dat S y = some d) (hf : Fit d) (hS : flatS S = true) : m__law_row_right [x, y, .bl false] S = .ok (.bl true) S := by
  have e := v_check_row hx h
  rw [if_neg hg] at e
  have hd' : dat (S ++ [.dead]) y = some d := dat_app _ _ _ hd
  have q := fRepr_fit hd' hf
  simp [m__law_row_right, e, q, -fRepr_ap, give_flat hS (p := .bl true) rfl]
end K02
namespace K02
open PySem L2 Co Fx
/-! ### _law_all -/
abbrev tupI (r : List Int) : PV := .tup (r.map .int)
theorem all_in {S : Sta} {x l : PV} {wd : Int} (hw : 0 ≤ wd ∧ wd ≤ 5000) : ∀ (rs : List (List Int)) (acc : List (List Int)) (u v : Option PV), acc.length + rs.length * wd.toNat ≤ 5000 → (∀ r ∈ rs, r.length ≤ 1000) →
    ∃ u' v', loop (NameG 4) (scopeS (SetS 3 (OpE fAdd (VarE 3) (LcE (Rng1I (ConsA (VarE 2) NilA)) (NameG 5) YesT (OpE fAdd (VarE 4) (TupE (ConsA (VarE 5) NilA))) [5])))) [] (rs.map tupI) [some x, some l, some (.int wd), some (.lst (acc.map tupI)), u, v] S = .nx [some x, some l, some (.int wd), some (.lst ((acc ++ rs.flatMap (ext1 wd)).map tupI)), u', v'] S
  | [], acc, u, v, _, _ => ⟨u, v, by simp [loop]⟩
  | r :: rs, acc, u, v, hl, hr => by
    have hl' : acc.length + wd.toNat + rs.length * wd.toNat ≤ 5000 := by
      rw [List.length_cons, Nat.succ_mul] at hl; omega
    obtain ⟨u', v', e⟩ := all_in (S := S) (x := x) (l := l) hw rs (acc ++ ext1 wd r) (some (tupI r)) v (by rw [List.length_append, ext1_len]; omega) fun z hz => hr z (List.mem_cons_of_mem _ hz)
    refine ⟨u', v', ?_⟩
    have hrl : r.length + 1 ≤ 100000 := by have := hr r (by simp); omega
    have hlc : lcLoop (NameG 5) YesT (OpE fAdd (VarE 4) (TupE (ConsA (VarE 5) NilA))) [] [some x, some l, some (.int wd), some (.lst (acc.map tupI)), some (tupI r), none] (intsP 0 wd.toNat) [] S = .ok ([] ++ (intsP 0 wd.toNat).map fun p => tupI (r ++ [asIP p])) S := by
      refine lcLoop_map _ rfl _ _ (fun p hp => ?_) (by simp [intsP]; omega)
      simp only [intsP, List.mem_map] at hp
      obtain ⟨j, _, rfl⟩ := hp
      exact ⟨[some x, some l, some (.int wd), some (.lst (acc.map tupI)), some (tupI r), some (.int (0 + (j : Int)))], rfl, rfl, by simp [hrl, asIP]⟩
    have e2 : (intsP 0 wd.toNat).map (fun p => tupI (r ++ [asIP p])) = (ext1 wd r).map tupI := by
      simp [intsP, ext1, Function.comp_def, asIP]
    rw [e2] at hlc
    have hb : -(4611686018427387904 : Int) ≤ wd ∧ wd < 4611686018427387904 := by omega
    have hz : acc.length + (ext1 wd r).length ≤ 100000 := by rw [ext1_len]; omega
    rw [List.flatMap_cons, ← List.append_assoc, ← e]
    simp [loop, hb, hlc, hz]
theorem all_out {S : Sta} {x : PV} {pins : List (Nat × List PV)} (hp : pinsOk S pins = true) : ∀ (ws done : List Int) (u v t o : Option PV), (∀ z ∈ done ++ ws, 1 ≤ z) → prodI (done ++ ws) ≤ 4096 → (done ++ ws).length ≤ 900 →
    ∃ u' v' t' o', loop (NameG 2) (scopeS (SeqS (SetS 3 (LstE NilA)) (SeqS (ForS (SeqI (CbE fList (ConsA (VarE 1) NilA))) (NameG 4) (scopeS (SetS 3 (OpE fAdd (VarE 3) (LcE (Rng1I (ConsA (VarE 2) NilA)) (NameG 5) YesT (OpE fAdd (VarE 4) (TupE (ConsA (VarE 5) NilA))) [5]))))) (SetS 1 (VarE 3))))) pins (ws.map .int) [some x, some (.lst ((allI done).map tupI)), u, v, t, o] S = .nx [some x, some (.lst ((allI (done ++ ws)).map tupI)), u', v', t', o'] S
  | [], done, u, v, t, o, _, _, _ => ⟨u, v, t, o, by simp [loop, hp]⟩
  | w :: ws, done, u, v, t, o, h, hpr, hl => by
    have hw := h w (by simp)
    have e0 : done ++ w :: ws = (done ++ [w]) ++ ws := by simp
    rw [e0] at h hpr hl ⊢
    have h1 : ∀ z ∈ done ++ [w], 1 ≤ z := fun z hz => h z (List.mem_append_left _ hz)
    have hlen := allI_len h1
    have hle : prodI (done ++ [w]) ≤ 4096 := by
      have h2 := prodI_take h (done ++ [w]).length
      rw [List.take_left'] at h2
      · exact Int.le_trans h2 hpr
      · rfl
    have hd : ∀ z ∈ done, 1 ≤ z := fun z hz => h1 z (List.mem_append_left _ hz)
    have hw2 : w ≤ 4096 := by
      rw [prodI_snoc] at hle
      have h3 := prodI_pos hd
      have := Int.mul_le_mul_of_nonneg_right h3 (show 0 ≤ w by omega)
      omega
    have hsz : (allI done).length * w.toNat ≤ 5000 := by
      rw [allI_snoc, flat_len] at hlen
      omega
    obtain ⟨t1, o1, e1⟩ := all_in (S := S) (x := x) (l := .lst ((allI done).map tupI)) (wd := w) (by omega) (allI done) [] t o (by simpa using hsz) fun r hr => by
      rw [allI_row r hr]
      have : done.length ≤ (done ++ [w] ++ ws).length := by simp
      omega
    obtain ⟨u', v', t', o', e⟩ := all_out (x := x) hp ws (done ++ [w]) (some (.int w)) (some (.lst ((allI (done ++ [w])).map tupI))) t1 o1 h hpr hl
    refine ⟨u', v', t', o', ?_⟩
    rw [← e]
    simp at e1
    simp [loop, hp, e1, allI_snoc]
theorem v_all {S : Sta} {x : PV} {k : Bool} {ws : List Int} (hx : items S x = some (k, ws.map .int)) (h : ∀ z ∈ ws, 1 ≤ z) (hp : prodI ws ≤ 4096) (hl : ws.length ≤ 900) : m__law_all [x] S = .ok (.lst ((allI ws).map tupI)) S := by
  obtain ⟨p1, e1⟩ := items_it hx
  obtain ⟨u', v', t', o', e⟩ := all_out (x := x) (seqIt_pin e1) ws [] none none none none (by simpa using h) (by simpa using hp) (by simpa using hl)
  have e2 : tupI [] = PV.tup [] := rfl
  simp only [allI, List.foldl_nil, List.map_cons, List.map_nil, List.nil_append, e2] at e
  simp [m__law_all, e1, e, allI]
/-! ### widths that are drawn -/
theorem v_widths {T : Sta} {b : BS} {n : Nat} (h : BOk b (n + 4)) : ∃ (ns : List Int) (b' : BS), m__law_widths [.mu 0] (bagC b :: T) = .ok (.lst (ns.map .int)) (bagC b' :: T) ∧ BOk b' n ∧ 1 ≤ ns.length ∧ ns.length ≤ 3 ∧ ∀ z ∈ ns, 1 ≤ z ∧ z ≤ 65 := by
  obtain ⟨r, b1, e1, h1, h2, k1⟩ := v_drawE (lim := 4) T h (by decide) (by decide)
  by_cases c0 : r = 0
  · obtain ⟨r2, b2, e2, h3, h4, k2⟩ := v_drawE (lim := 2) T k1 (by decide) (by decide)
    by_cases c1 : r2 = 0
    · exact ⟨[64, 64], b2, by simp [m__law_widths, e1, e2, c0, c1], k2.less (by omega), by simp, by simp, by simp⟩
    · exact ⟨[16, 16, 16], b2, by simp [m__law_widths, e1, e2, c0, c1], k2.less (by omega), by simp, by simp, by simp⟩
  · by_cases c1 : r = 1
    · obtain ⟨r2, b2, e2, h3, h4, k2⟩ := v_drawE (lim := 64) T k1 (by decide) (by decide)
      exact ⟨[1 + r2], b2, by simp [m__law_widths, e1, e2, c1], k2.less (by omega), by simp, by simp, by simp; omega⟩
    · by_cases c2 : r = 2
      · obtain ⟨r2, b2, e2, h3, h4, k2⟩ := v_drawE (lim := 64) T k1 (by decide) (by decide)
        obtain ⟨r3, b3, e3, h5, h6, k3⟩ := v_drawE (lim := 64) T k2 (by decide) (by decide)
        exact ⟨[1 + r2, 1 + r3], b3, by simp [m__law_widths, e1, e2, e3, c2], k3.less (by omega), by simp, by simp, by simp; omega⟩
      · obtain ⟨r2, b2, e2, h3, h4, k2⟩ := v_drawE (lim := 7) T k1 (by decide) (by decide)
        obtain ⟨r3, b3, e3, h5, h6, k3⟩ := v_drawE (lim := 9) T k2 (by decide) (by decide)
        obtain ⟨r4, b4, e4, h7, h8, k4⟩ := v_drawE (lim := 65) T k3 (by decide) (by decide)
        exact ⟨[1 + r2, 1 + r3, 1 + r4], b4, by simp [m__law_widths, e1, e2, e3, e4, c0, c1, c2], k4.less (by omega), by simp, by simp, by simp; omega⟩
/-! ### words -/
theorem v_is {S : Sta} {a b : Bool} : m__law_is [.bl a, .bl b] S = .ok (.bl (decide (a = b))) S := by
  cases a <;> cases b <;> simp [m__law_is]
def lets : List Nat := ("abcdefghijklmnopqrstuvwxyz" : Str).cps.toList
theorem fInS_1 {S : Sta} {c : Nat} {z : Str} : fInS S (.str ⟨#[c]⟩) (.str z) = some (.bl (decide (c ∈ z.cps.toList))) := by simp [fInS]
def isLet : PV → PV
  | .str q => .bl (decide (q.cps.toList.headD 0 ∈ lets))
  | _ => .non
theorem v_is_name {S : Sta} {z : Str} (h : z.length ≤ 100000) : m_is_name [.str z] S = .ok (.bl (decide (1 ≤ z.length ∧ z.length ≤ 12) && z.cps.toList.all fun c => decide (c ∈ lets))) S := by
  by_cases h1 : 1 ≤ z.length
  · have h1' : (1 : Int) ≤ z.length := by omega
    by_cases h2 : z.length ≤ 12
    · have h2' : (z.length : Int) ≤ 12 := by omega
      have hl : lcLoop (NameG 1) YesT (OpE fInS (VarE 1) (Fx.CE (.str "abcdefghijklmnopqrstuvwxyz"))) [] [some (.str z), none] (z.cps.toList.map fun c => .str ⟨#[c]⟩) [] S = .ok ([] ++ (z.cps.toList.map fun c => PV.str ⟨#[c]⟩).map isLet) S := by
        refine lcLoop_map _ rfl _ _ (fun p hp => ?_) ?_
        · obtain ⟨c, _, rfl⟩ := List.mem_map.mp hp
          exact ⟨[some (.str z), some (.str ⟨#[c]⟩)], rfl, rfl, by simp [fInS_1, lets, isLet]⟩
        · have : z.cps.toList.length = z.length := by simp [Str.length]
          simp
          have : z.cps.size = z.length := rfl
          omega
      have e2 : (z.cps.toList.map fun c => PV.str ⟨#[c]⟩).map isLet = z.cps.toList.map fun c => PV.bl (decide (c ∈ lets)) := by
        rw [List.map_map]
        refine List.map_congr_left fun c _ => ?_
        rfl
      rw [e2] at hl
      simp only [List.nil_append] at hl
      simp [m_is_name, h, h1', h2', hl, bools_map, h1, h2, -List.map_map]
    · have h2' : ¬ (z.length : Int) ≤ 12 := by omega
      simp [m_is_name, h, h1', h2', h1, h2]
  · have h1' : ¬ (1 : Int) ≤ z.length := by omega
    simp [m_is_name, h, h1', h1]
theorem strsP_map : ∀ zs : List Str, strsP (zs.map PV.str) = some zs
  | [] => rfl
  | z :: zs => by simp only [List.map_cons, strsP, strsP_map zs]; rfl
def badc (r : Int) : Str := (["A", "1", "_", " ", "-"] : List Str).getD r.toNat "A"
theorem bad_get {r : Int} (h0 : 0 ≤ r) (h1 : r < 5) : atI [PV.str "A", .str "1", .str "_", .str " ", .str "-"] r = some (.str (badc r)) ∧ (badc r).length = 1 ∧ ∃ c, c ∈ (badc r).cps.toList ∧ c ∉ lets := by
  have : r = 0 ∨ r = 1 ∨ r = 2 ∨ r = 3 ∨ r = 4 := by omega
  rcases this with rfl | rfl | rfl | rfl | rfl
  · exact ⟨rfl, by decide +kernel, 65, by decide +kernel, by decide +kernel⟩
  · exact ⟨rfl, by decide +kernel, 49, by decide +kernel, by decide +kernel⟩
  · exact ⟨rfl, by decide +kernel, 95, by decide +kernel, by decide +kernel⟩
  · exact ⟨rfl, by decide +kernel, 32, by decide +kernel, by decide +kernel⟩
  · exact ⟨rfl, by decide +kernel, 45, by decide +kernel, by decide +kernel⟩
theorem cutS_len (z : Str) (l u : Option Int) : (cutS z l u).length ≤ z.length := by
  show (cutS z l u).cps.size ≤ z.cps.size
  unfold cutS
  simp
  omega
theorem app_mem {a b : Str} {c : Nat} : c ∈ (a ++ b).cps.toList ↔ c ∈ a.cps.toList ∨ c ∈ b.cps.toList := by
  show c ∈ (Str.append a b).cps.toList ↔ _
  rw [Str.append]
  simp
theorem app_len {a b : Str} : (a ++ b).length = a.length + b.length := by
  show (Str.append a b).cps.size = a.cps.size + b.cps.size
  rw [Str.append]
  simp
theorem chars_of {xs ys : List PV} (h : All2 (fun _ y => ∃ c, y = PV.str ⟨#[c]⟩ ∧ c ∈ lets) xs ys) : ∃ cs : List Nat, ys = (cs.map fun c => (⟨#[c]⟩ : Str)).map .str ∧ cs.length = xs.length ∧ ∀ c ∈ cs, c ∈ lets := by
  induction h with
  | nil => exact ⟨[], rfl, rfl, fun c h => by cases h⟩
  | cons h1 _ ih =>
    obtain ⟨c, rfl, hc⟩ := h1
    obtain ⟨cs, rfl, h3, h4⟩ := ih
    exact ⟨c :: cs, rfl, by simp [h3], fun d hd => by rcases List.mem_cons.mp hd with rfl | hd; exact hc; exact h4 d hd⟩
end K02
namespace K02
open PySem L2 Co Fx
theorem sum_ones : ∀ cs : List Nat, ((cs.map fun c => (⟨#[c]⟩ : Str)).map (·.length)).sum = cs.length
  | [] => rfl
  | c :: cs => by
    rw [List.map_cons, List.map_cons, List.sum_cons, sum_ones cs, List.length_cons]
    show 1 + cs.length = _
    omega
theorem v_name_int {S : Sta} {i : Int} : m_is_name [.int i] S = .ok (.bl false) S := by simp [m_is_name]
theorem v_name_non {S : Sta} : m_is_name [.non] S = .ok (.bl false) S := by simp [m_is_name]
theorem v_name_lst {S : Sta} {xs : List PV} : m_is_name [.lst xs] S = .ok (.bl false) S := by simp [m_is_name]
theorem v_words {T : Sta} {b : BS} {n : Nat} (h : BOk b (n + 25)) : ∃ b', m__law_words_right [.mu 0] (bagC b :: T) = .ok (.bl true) (bagC b' :: T) := by
  obtain ⟨r, b1, e1, h1, h2, k1⟩ := v_drawE (n := n + 10 + 14) (lim := 15) T (h.less (by omega)) (by decide) (by decide)
  have hr : (intsP 0 r.toNat).length = r.toNat := by simp [intsP]
  obtain ⟨ys, b2, e2, k2, hy⟩ := lcLoop_bag (g := NameG 2) (mc := YesT) (me := OpE fIx (Fx.CE (.str "abcdefghijklmnopqrstuvwxyz")) (CallE m__law_draw [] (ConsA (VarE 0) (ConsA (Fx.CE (.int 26)) NilA)))) (pins := []) (T := T) (k := 1) (ε := [some (.mu 0), none, none, none, none, none, none]) (fun _ y => ∃ c, y = PV.str ⟨#[c]⟩ ∧ c ∈ lets) (fun _ => rfl) (intsP 0 r.toNat) [] (n + 10) b1 (fun x b m hx hb => by
    obtain ⟨q, b', e, q1, q2, k⟩ := v_drawE (lim := 26) T hb (by decide) (by decide)
    have hl : lets.length = 26 := by decide +kernel
    obtain ⟨c, hc⟩ : ∃ c, lets[q.toNat]? = some c := ⟨_, List.getElem?_eq_getElem (by omega)⟩
    have ha : atI lets q = some c := atI_get q1 hc
    have ha' : atI (Str.ofString "abcdefghijklmnopqrstuvwxyz").cps.toList q = some c := ha
    have hz : (Str.ofString "abcdefghijklmnopqrstuvwxyz").length ≤ 100000 := by decide +kernel
    exact ⟨_, rfl, rfl, .str ⟨#[c]⟩, b', by simp [e, ha', hz], k, c, rfl, List.mem_of_getElem? hc⟩) (by rw [hr]; simp; omega) (k1.less (by rw [hr]; omega))
  obtain ⟨cs, rfl, hcl, hcm⟩ := chars_of hy
  rw [hr] at hcl
  have hb' : -(4611686018427387904 : Int) ≤ r ∧ r < 4611686018427387904 := by omega
  obtain ⟨z, hz⟩ : ∃ z : Str, z = ⟨cs.toArray⟩ := ⟨_, rfl⟩
  have hzl : z.length = cs.length := by rw [hz]; simp [Str.length]
  have hj : Txt.join (Str.ofString "") (cs.map fun c => (⟨#[c]⟩ : Str)) = z := by rw [hz]; exact join_chars cs
  have hzc : z.cps.toList = cs := by rw [hz]
  have c1 : decide (1 ≤ z.length ∧ z.length ≤ 12) = (decide ((1 : Int) ≤ z.length) && decide ((z.length : Int) ≤ 12)) := by
    rw [Bool.eq_iff_iff]; simp; omega
  have n1 : m_is_name [.str z] (bagC b2 :: T) = .ok (.bl (decide ((1 : Int) ≤ z.length) && decide ((z.length : Int) ≤ 12))) (bagC b2 :: T) := by
    rw [v_is_name (by omega)]
    have : (z.cps.toList.all fun c => decide (c ∈ lets)) = true := by
      rw [hzc, List.all_eq_true]
      exact fun c hc => decide_eq_true (hcm c hc)
    rw [this, Bool.and_true, c1]
  obtain ⟨a, b3, e3, h3, h4, k3⟩ := v_drawE (n := n + 9) (lim := z.length + 1) T k2 (by omega) (by omega)
  obtain ⟨s, b4, e4, h5, h6, k4⟩ := v_drawE (n := n + 8) (lim := 5) T k3 (by decide) (by decide)
  obtain ⟨g1, g2, g3⟩ := bad_get h5 h6
  obtain ⟨p, b5, e5, h7, h8, k5⟩ := v_drawE (n := n + 7) (lim := 10 ^ 30) T k4 (by decide) (by decide)
  obtain ⟨q, b6, e6, h9, h10, k6⟩ := v_drawE (n := n + 6) (lim := 10 ^ 30) T k5 (by decide) (by decide)
  obtain ⟨o, ho⟩ : ∃ o : Str, o = cutS z none (some a) ++ badc s ++ cutS z (some a) none := ⟨_, rfl⟩
  have l1 := cutS_len z none (some a)
  have l2 := cutS_len z (some a) none
  have hol : o.length ≤ 100000 := by rw [ho, app_len, app_len]; omega
  have n2 : m_is_name [.str o] (bagC b6 :: T) = .ok (.bl false) (bagC b6 :: T) := by
    rw [v_is_name hol]
    obtain ⟨c, c1, c2⟩ := g3
    have : (o.cps.toList.all fun c => decide (c ∈ lets)) = false := by
      rw [List.all_eq_false]
      refine ⟨c, ?_, by simpa using c2⟩
      rw [ho, app_mem, app_mem]
      exact .inl (.inr c1)
    rw [this, Bool.and_false]
  have sm := sum_ones cs
  have t30 : (10 : Int) ^ 30 = 1000000000000000000000000000000 := by decide
  rw [t30] at e5 e6
  have he : (Str.ofString "").length = 0 := by decide +kernel
  have hcs : cs.length ≤ 100000 := by omega
  have hz1 : z.length ≤ 100000 := by omega
  have hz2 : (cutS z none (some a)).length + 1 ≤ 100000 := by omega
  have hz3 : (cutS z none (some a)).length + 1 + (cutS z (some a) none).length ≤ 100000 := by omega
  have x1 : ∀ x : Int, ¬ x + 1 ≤ x := fun x => by omega
  have x2 : ∀ x : Int, ¬ x ≤ x - 1 := fun x => by omega
  refine ⟨b6, ?_⟩
  simp [m__law_words_right, e1, hb', e2, strsP_map, sm, -List.map_map, he, hcs, hj, n1, hz1, e3, e4, fSl, g1, app_len, g2, hz2, hz3, e5, e6, ← ho, n2, v_name_int, v_name_non, v_name_lst, v_is_whole, v_is, x1, x2]
end K02
namespace K02
open PySem L2 Co Fx
theorem plain_ints {S : Sta} {x : PV} {k : Bool} {ws : List Int} (hx : items S x = some (k, ws.map .int)) (hl : ws.length ≤ 1000) : Plain S x :=
  ⟨items_ty hx, fun k' xs e => by
    rw [hx] at e
    cases e
    exact ⟨by simpa using hl, fun p hp => by obtain ⟨z, _, rfl⟩ := List.mem_map.mp hp; rfl⟩⟩
theorem plain_of {S : Sta} {x : PV} {k : Bool} {xs : List PV} (hx : items S x = some (k, xs)) (hl : xs.length ≤ 1000) (h : ∀ p ∈ xs, (tyP S p).isSome = true) : Plain S x :=
  ⟨items_ty hx, fun k' ys e => by rw [hx] at e; cases e; exact ⟨hl, h⟩⟩
theorem plain_leaf {S : Sta} {x : PV} (ht : (tyP S x).isSome = true) (hx : items S x = none) : Plain S x := ⟨ht, fun k xs e => by rw [hx] at e; cases e⟩
theorem odd8 {n r : Int} (h0 : 0 ≤ r) (h1 : r < 8) : ∃ od, atI [PV.int 0, .int 65, .int (-1), .bl true, .non, .str "2", .tup [.int 2], .int (64 + n)] r = some od ∧ (∀ S, (tyP S od).isSome = true) ∧ clean 0 od = true := by
  have : r = 0 ∨ r = 1 ∨ r = 2 ∨ r = 3 ∨ r = 4 ∨ r = 5 ∨ r = 6 ∨ r = 7 := by omega
  rcases this with rfl | rfl | rfl | rfl | rfl | rfl | rfl | rfl <;> exact ⟨_, rfl, fun _ => rfl, rfl⟩
theorem flat_set : ∀ (xs : List PV) (i : Nat) (p : PV), cleans 0 xs = true → clean 0 p = true → cleans 0 (xs.set i p) = true
  | [], _, _, _, _ => rfl
  | x :: xs, 0, p, h, hp => by simp only [cleans, Bool.and_eq_true] at h; simp only [List.set, cleans, hp, h.2, Bool.and_self]
  | x :: xs, i + 1, p, h, hp => by
    simp only [cleans, Bool.and_eq_true] at h
    simp only [List.set, cleans, h.1, flat_set xs i p h.2 hp, Bool.and_self]
theorem mem_set {xs : List PV} {i : Nat} {p q : PV} (h : q ∈ xs.set i p) : q ∈ xs ∨ q = p := List.mem_or_eq_of_mem_set h
theorem val_of : ∀ {d : List Int} {zs : List PV}, All2 (fun p q => ∃ w r, p = PV.int w ∧ q = PV.int r ∧ 0 ≤ r ∧ r < w) (d.map .int) zs → ∃ r : List Int, zs = r.map .int ∧ Val r d
  | [], _, h => by cases h; exact ⟨[], rfl, .nil⟩
  | w :: d, _, h => by
    cases h with
    | cons h1 h2 =>
      obtain ⟨w', r, e1, rfl, h3, h4⟩ := h1
      cases e1
      obtain ⟨rs, rfl, hv⟩ := val_of h2
      exact ⟨r :: rs, rfl, .cons h3 h4 hv⟩
theorem rows_of {d : List Int} {xs ys : List PV} (h : All2 (fun _ y => ∃ r, y = tupI r ∧ Val r d) xs ys) : ∃ rs : List (List Int), ys = rs.map tupI ∧ rs.length = xs.length ∧ ∀ r ∈ rs, Val r d := by
  induction h with
  | nil => exact ⟨[], rfl, rfl, fun r h => by cases h⟩
  | cons h1 _ ih =>
    obtain ⟨r, rfl, hv⟩ := h1
    obtain ⟨rs, rfl, h3, h4⟩ := ih
    exact ⟨r :: rs, rfl, by simp [h3], fun q hq => by rcases List.mem_cons.mp hq with rfl | hq; exact hv; exact h4 q hq⟩
theorem val_zeros {ws : List Int} (h : ∀ z ∈ ws, 1 ≤ z) : Val (ws.map fun _ => 0) ws := by
  induction ws with
  | nil => exact .nil
  | cons w ws ih => exact .cons (by show (0 : Int) ≤ 0; omega) (by have := h w (by simp); show (0 : Int) < w; omega) (ih fun z hz => h z (List.mem_cons_of_mem _ hz))
theorem val_tops {ws : List Int} (h : ∀ z ∈ ws, 1 ≤ z) : Val (ws.map fun w => w - 1) ws := by
  induction ws with
  | nil => exact .nil
  | cons w ws ih => exact .cons (by have := h w (by simp); show (0 : Int) ≤ w - 1; omega) (by show w - 1 < w; omega) (ih fun z hz => h z (List.mem_cons_of_mem _ hz))
def rowP : PV → List Int
  | .tup xs => xs.map asIP
  | _ => []
theorem rowP_tup (r : List Int) : rowP (tupI r) = r := by
  show (r.map PV.int).map asIP = r
  rw [List.map_map]; exact (List.map_congr_left fun _ _ => rfl).trans (List.map_id r)
theorem tups_num (rs : List (List Int)) (d : List Int) : (rs.map tupI).map (fun p => PV.int (numI (rowP p) d 0)) = (rs.map fun r => numI r d 0).map .int := by
  rw [List.map_map, List.map_map]
  refine List.map_congr_left fun r _ => ?_
  simp only [Function.comp, rowP_tup]
theorem intsP_eq (n : Nat) : intsP 0 n = ((List.range n).map fun (i : Nat) => (i : Int)).map .int := by simp [intsP]
theorem val_small {r ws : List Int} (h : Val r ws) (hs : ∀ z ∈ ws, z ≤ 64) : ∀ z ∈ r, 0 ≤ z ∧ z < 64 := by
  induction h with
  | nil => intro z hz; cases hz
  | cons h1 h2 _ ih =>
    intro z hz
    have := hs _ (List.mem_cons_self ..)
    rcases List.mem_cons.mp hz with rfl | hz
    · omega
    · exact ih (fun y hy => hs y (List.mem_cons_of_mem _ hy)) z hz
theorem numI_take : ∀ (rs ws : List Int) (n : Int) (i : Nat) (r w : Int), rs[i]? = some r → ws[i]? = some w → numI (rs.take (i + 1)) (ws.take (i + 1)) n = numI (rs.take i) (ws.take i) n * w + r
  | a :: rs, b :: ws, n, 0, r, w, h1, h2 => by
    simp at h1 h2
    subst h1 h2
    simp [numI]
  | a :: rs, b :: ws, n, i + 1, r, w, h1, h2 => by
    have ih := numI_take rs ws (n * b + a) i r w (by simpa using h1) (by simpa using h2)
    simpa [numI] using ih
  | [], _, _, _, _, _, h1, _ => by simp at h1
  | _ :: _, [], _, _, _, _, _, h2 => by simp at h2
theorem intsP_succ (i : Int) (n : Nat) : intsP i (n + 1) = .int i :: intsP (i + 1) n := by
  simp only [intsP, List.range_succ_eq_map, List.map_cons, List.map_map]
  congr 1
  · simp
  · refine List.map_congr_left fun j _ => ?_
    show PV.int (i + ((j + 1 : Nat) : Int)) = PV.int (i + 1 + (j : Int))
    congr 1
    omega
theorem ahead_loop {S : Sta} {r d : List Int} {x0 x1 x3 x4 x5 x6 x7 x8 x9 x12 x14 x15 x16 x17 x18 : Option PV} (hl : r.length = d.length) (hs : ∀ z ∈ d, small z) : ∀ (n i : Nat) (u : Option PV), i + n = d.length → ∃ u', loop (NameG 10) (scopeS (SetS 13 (OpE fAdd (OpE fMul (VarE 13) (OpE fIx (VarE 2) (VarE 10))) (OpE fIx (VarE 11) (VarE 10))))) [] (intsP (i : Int) n) [x0, x1, some (.lst (d.map .int)), x3, x4, x5, x6, x7, x8, x9, u, some (tupI r), x12, some (.int (numI (r.take i) (d.take i) 0)), x14, x15, x16, x17, x18] S = .nx [x0, x1, some (.lst (d.map .int)), x3, x4, x5, x6, x7, x8, x9, u', some (tupI r), x12, some (.int (numI r d 0)), x14, x15, x16, x17, x18] S
  | 0, i, u, h => ⟨u, by
    have h1 : i = d.length := by omega
    subst h1
    have h2 : r.take d.length = r := by rw [← hl, List.take_length]
    simp [intsP, loop, h2]⟩
  | n + 1, i, u, h => by
    have hw : d[i]? = some (d[i]'(by omega)) := List.getElem?_eq_getElem (by omega)
    have hr : r[i]? = some (r[i]'(by omega)) := List.getElem?_eq_getElem (by omega)
    generalize (d[i]'(by omega)) = w at hw
    generalize (r[i]'(by omega)) = v at hr
    have hww := hs w (List.mem_of_getElem? hw)
    have h1 : -(2 ^ 63) < w := hww.1
    have h2 : w < 2 ^ 63 := hww.2
    have a1 : atI (d.map PV.int) (i : Int) = some (.int w) := atI_get (by omega) (by simp [hw])
    have a2 : atI (r.map PV.int) (i : Int) = some (.int v) := atI_get (by omega) (by simp [hr])
    obtain ⟨u', e⟩ := ahead_loop (S := S) (x0 := x0) (x1 := x1) (x3 := x3) (x4 := x4) (x5 := x5) (x6 := x6) (x7 := x7) (x8 := x8) (x9 := x9) (x12 := x12) (x14 := x14) (x15 := x15) (x16 := x16) (x17 := x17) (x18 := x18) hl hs n (i + 1) (some (.int (i : Int))) (by omega)
    refine ⟨u', ?_⟩
    have hc : (-18446744073709551616 < numI (r.take i) (d.take i) 0 ∧ numI (r.take i) (d.take i) 0 < 18446744073709551616) ∨ (-18446744073709551616 < w ∧ w < 18446744073709551616) := by omega
    rw [numI_take r d 0 i v w hr hw] at e
    have e3 : ((i + 1 : Nat) : Int) = (i : Int) + 1 := by omega
    rw [e3] at e
    rw [intsP_succ]
    simp [loop, a1, a2, hc, e]
theorem wides_of {xs ys : List PV} (h : All2 (fun _ y => ∃ z : Int, y = PV.int z ∧ 1 ≤ z ∧ z ≤ 3) xs ys) : ∃ wd : List Int, ys = wd.map .int ∧ wd.length = xs.length ∧ ∀ z ∈ wd, 1 ≤ z ∧ z ≤ 3 := by
  induction h with
  | nil => exact ⟨[], rfl, rfl, fun r h => by cases h⟩
  | cons h1 _ ih =>
    obtain ⟨r, rfl, hv⟩ := h1
    obtain ⟨rs, rfl, h3, h4⟩ := ih
    exact ⟨r :: rs, rfl, by simp [h3], fun q hq => by rcases List.mem_cons.mp hq with rfl | hq; exact hv; exact h4 q hq⟩
theorem prodI_le {ws : List Int} (h : ∀ z ∈ ws, 1 ≤ z ∧ z ≤ 3) : prodI ws ≤ 3 ^ ws.length := by
  induction ws using snoc_ind with
  | h0 => decide
  | h1 ws w ih =>
    have h1 := ih fun z hz => h z (List.mem_append_left _ hz)
    have h2 := h w (by simp)
    have h3 := prodI_pos (ws := ws) fun z hz => (h z (List.mem_append_left _ hz)).1
    rw [prodI_snoc, List.length_append, List.length_singleton, Int.pow_succ]
    exact Int.mul_le_mul h1 h2.2 (by omega) (by omega)
theorem good_val {r d : List Int} (h : Val r d) : rowOk (r.map .int) d = true := by
  induction h with
  | nil => rfl
  | cons h1 h2 _ ih =>
    simp only [List.map_cons, rowOk, ih, Bool.and_true]
    simp [h1]
    omega
theorem rowOk_get : ∀ {ps : List PV} {ws : List Int} {i : Nat} {p : PV} {w : Int}, rowOk ps ws = true → ps[i]? = some p → ws[i]? = some w → wholeP p (.int 0) (.int (w - 1)) = true
  | [], _, _, _, _, _, h, _ => by simp at h
  | _ :: _, [], _, _, _, _, _, h => by simp at h
  | q :: ps, v :: ws, 0, p, w, h, h1, h2 => by
    simp at h1 h2
    subst h1 h2
    simp only [rowOk, Bool.and_eq_true] at h
    exact h.1
  | q :: ps, v :: ws, i + 1, p, w, h, h1, h2 => by
    simp only [rowOk, Bool.and_eq_true] at h
    exact rowOk_get h.2 (by simpa using h1) (by simpa using h2)
theorem odd7 {w n r : Int} (hw : 1 ≤ w ∧ w ≤ 64) (hn : 0 ≤ n ∧ n < 10 ^ 30) (h0 : 0 ≤ r) (h1 : r < 7) : ∃ od dd, atI [PV.int w, .int (-1), .bl false, .non, .str "0", .tup [.int 0], .int (w + n)] r = some od ∧ (∀ S, (tyP S od).isSome = true) ∧ clean 0 od = true ∧ Dv od dd 2 ∧ wholeP od (.int 0) (.int (w - 1)) = false := by
  have : r = 0 ∨ r = 1 ∨ r = 2 ∨ r = 3 ∨ r = 4 ∨ r = 5 ∨ r = 6 := by omega
  rcases this with rfl | rfl | rfl | rfl | rfl | rfl | rfl
  · exact ⟨_, _, rfl, fun _ => rfl, rfl, dv_int (by omega), by simp; omega⟩
  · exact ⟨_, _, rfl, fun _ => rfl, rfl, dv_int (by decide), by simp⟩
  · exact ⟨_, _, rfl, fun _ => rfl, rfl, dv_bl, rfl⟩
  · exact ⟨_, _, rfl, fun _ => rfl, rfl, dv_non, rfl⟩
  · exact ⟨_, .str "0", rfl, fun _ => rfl, rfl, ⟨by simp only [toD], by decide +kernel, by decide +kernel, by decide +kernel⟩, rfl⟩
  · exact ⟨_, .tuple [.int 0], rfl, fun _ => rfl, rfl, ⟨by simp [toD, toDs], by decide +kernel, by decide +kernel, by decide +kernel⟩, rfl⟩
  · exact ⟨_, _, rfl, fun _ => rfl, rfl, dv_int (by omega), by simp; omega⟩
theorem dats_rows (S : Sta) : ∀ rs : List (List Int), dats S (rs.map tupI) = some (rs.map fun r => .tuple (r.map .int))
  | [] => by simp [dats]
  | r :: rs => by simp [dats, dat, dats_ints, dats_rows S rs]
theorem fit_rows {rs : List (List Int)} {k : Nat} (h : ∀ r ∈ rs, r.length ≤ k ∧ ∀ z ∈ r, z.natAbs < 10 ^ 40) (hl : rs.length * (k + 1) ≤ 10000) : Fit (.list (rs.map fun r => .tuple (r.map .int))) := by
  refine fit_L (k := k) (fun x hx => ?_) (fun x hx => ?_) (fun x hx => ?_) (by simpa using hl)
  · obtain ⟨r, hr, rfl⟩ := List.mem_map.mp hx
    simp only [modest]; exact modests_ints (h r hr).2
  · obtain ⟨r, hr, rfl⟩ := List.mem_map.mp hx
    simp [PyData.depth, depth_ints]
  · obtain ⟨r, hr, rfl⟩ := List.mem_map.mp hx
    have := (h r hr).1
    simp [PyData.bulk, bulk_ints]; omega
theorem ok_m_law {ns : List Int} (hns : ns.length ≤ 63) : ∃ T, m_law [.kls (ns.map .int)] [] = .ok (.bl true) T := by
  unfold m_law
  refine done_law rfl ?_
  obtain ⟨b0, e0, k0⟩ := v_bag hns
  obtain ⟨ws, b1, e1, k1, hw1, hw3, hwr⟩ := v_widths (T := []) (n := 800000000) (k0.less (by omega))
  have ix : ∀ S, items S (.lst (ws.map .int)) = some (true, ws.map .int) := fun S => rfl
  have ixt : ∀ S, items S (.tup (ws.map .int)) = some (false, ws.map .int) := fun S => rfl
  have p1 : ∀ S, Plain S (.lst (ws.map .int)) := fun S => plain_ints (ix S) (by omega)
  have p1t : ∀ S, Plain S (.tup (ws.map .int)) := fun S => plain_ints (ixt S) (by omega)
  have t1 := fun S => v_told (p1 S)
  have t1t := fun S => v_told (p1t S)
  have g1 := fun S => v_good (p1 S)
  have gp : ∀ S, goodP S (.lst (ws.map .int)) = goodL (ws.map .int) := fun S => rfl
  have gpt : ∀ S, goodP S (.tup (ws.map .int)) = goodL (ws.map .int) := fun S => rfl
  have fit : Fit (.tuple (ws.map .int)) := fit_intsT (fun n hn => by have := hwr n hn; omega) (by omega)
  have ne : ∀ S, fNeA S (.tup (ws.map .int)) (.tup (ws.map .int)) = some (.bl false) := fun S => fNe_refl (d := .tuple (ws.map .int)) (by simp [dat, dats_ints]) fit
  obtain ⟨sc, hsc⟩ : ∃ sc, sc = PV.kls (ns.map .int) := ⟨_, rfl⟩
  rw [← hsc] at e0
  rw [← hsc]
  refine done_seq (ε' := [some (sc), some (.mu 0), none, none, none, none, none, none, none, none, none, none, none, none, none, none, none, none, none]) (S' := [bagC b0]) (by simp [e0]) ?_
  refine done_seq (ε' := [some (sc), some (.mu 0), some (.lst (ws.map .int)), none, none, none, none, none, none, none, none, none, none, none, none, none, none, none, none]) (S' := [bagC b1]) (by simp [e1]) ?_
  refine done_seq (ε' := [some (sc), some (.mu 0), some (.lst (ws.map .int)), some (toldP [bagC b1] (.lst (ws.map .int))), none, none, none, none, none, none, none, none, none, none, none, none, none, none, none]) (S' := [bagC b1]) (by simp [t1]) ?_
  refine done_seq (ε' := [some (sc), some (.mu 0), some (.lst (ws.map .int)), some (toldP [bagC b1] (.lst (ws.map .int))), none, none, none, none, none, none, none, none, none, none, none, none, none, none, none]) (S' := [bagC b1]) ?_ ?_
  · by_cases hg : goodL (ws.map .int) = true
    · have a1 : ∀ S, toldP S (.lst (ws.map .int)) = .tup (ws.map .int) := fun S => by unfold toldP; rw [gp, if_pos hg]; rfl
      have a2 : ∀ S, toldP S (.tup (ws.map .int)) = .tup (ws.map .int) := fun S => by unfold toldP; rw [gpt, if_pos hg]; rfl
      simp [t1, t1t, g1, gp, hg, a1, a2, ne]
    · have a1 : ∀ S, toldP S (.lst (ws.map .int)) = .non := fun S => by unfold toldP; rw [gp, if_neg hg]
      simp [t1, g1, gp, hg, a1]
  obtain ⟨g, hg⟩ : ∃ g, g = toldP [bagC b1] (.lst (ws.map .int)) := ⟨_, rfl⟩
  rw [← hg]
  clear hg
  -- widths that are wrong
  refine done_seq (ε' := [some (sc), some (.mu 0), some (.lst (ws.map .int)), some (g), some (.mu 1), none, none, none, none, none, none, none, none, none, none, none, none, none, none]) (S' := [bagC b1, .lst (ws.map .int)]) (by simp) ?_
  obtain ⟨r1, b2, e2, _, _, k2⟩ := v_drawE (n := 799999999) (lim := 10 ^ 30) [.lst (ws.map .int)] k1 (by decide) (by decide)
  obtain ⟨r2, b3, e3, h3, h4, k3⟩ := v_drawE (n := 799999998) (lim := 8) [.lst (ws.map .int)] k2 (by decide) (by decide)
  obtain ⟨r3, b4, e4, h5, h6, k4⟩ := v_drawE (n := 799999997) (lim := ws.length) [.lst (ws.map .int)] k3 (by omega) (by omega)
  obtain ⟨od, o1, o2, o3⟩ := odd8 (n := r1) h3 h4
  have t30 : (10 : Int) ^ 30 = 1000000000000000000000000000000 := by decide
  rw [t30] at e2
  have hix : ixN ws.length r3 = some r3.toNat := by
    unfold ixN
    rw [if_pos h5, if_pos h6]
  obtain ⟨bad, hbad⟩ : ∃ bad, bad = (ws.map PV.int).set r3.toNat od := ⟨_, rfl⟩
  refine done_seq (ε' := [some (sc), some (.mu 0), some (.lst (ws.map .int)), some (g), some (.mu 1), none, none, none, none, none, none, none, none, none, none, none, none, none, none]) (S' := [bagC b4, .lst bad]) (by simp [e2, e3, e4, o1, hix, hbad]) ?_
  have bl : bad.length ≤ 1000 := by rw [hbad]; simp; omega
  have bt : ∀ S, ∀ p ∈ bad, (tyP S p).isSome = true := fun S p hp => by
    rw [hbad] at hp
    rcases mem_set hp with hp | rfl
    · obtain ⟨z, _, rfl⟩ := List.mem_map.mp hp; rfl
    · exact o2 S
  have bf : cleans 0 bad = true := by rw [hbad]; exact flat_set _ _ _ (flat_ints _) o3
  clear hbad
  refine done_for (fun xs ε S => S = [bagC b4, .lst bad] ∧ (∃ u v, ε = [some (sc), some (.mu 0), some (.lst (ws.map .int)), some (g), some (.mu 1), u, v, none, none, none, none, none, none, none, none, none, none, none, none]) ∧ ∀ p ∈ xs, Plain [bagC b4, .lst bad] p) (it := ⟨[.mu 1, .lst [], .tup [.int 2, .int 2, .int 2, .int 2], .non, .int 7, .str "ab", .lst [.int 64, .int 65], .lst [.int 17, .int 16, .int 16], .lst (ws.map .int ++ [.int 1])], []⟩) (S1 := [bagC b4, .lst bad]) ?_ ⟨rfl, ⟨none, none, rfl⟩, ?_⟩ (fun _ _ _ _ => rfl) ?_ ?_
  · have : (ws.map PV.int).length + 1 ≤ 100000 := by simp; omega
    simp at this
    simp [this]
  · intro p hp
    simp only [List.mem_cons, List.not_mem_nil, or_false] at hp
    rcases hp with rfl | rfl | rfl | rfl | rfl | rfl | rfl | rfl | rfl
    · exact plain_of (k := true) rfl bl (bt _)
    · exact plain_of (k := true) rfl (by simp) (by simp)
    · exact plain_of (k := false) rfl (by simp) (by simp)
    · exact plain_leaf rfl rfl
    · exact plain_leaf rfl rfl
    · exact plain_leaf rfl rfl
    · exact plain_of (k := true) rfl (by simp) (by simp)
    · exact plain_of (k := true) rfl (by simp) (by simp)
    · refine plain_of (k := true) rfl (by simp; omega) fun p hp => ?_
      rcases List.mem_append.mp hp with hp | hp
      · obtain ⟨z, _, rfl⟩ := List.mem_map.mp hp; rfl
      · rw [List.mem_singleton.mp hp]; rfl
  · rintro x xs ε S ⟨rfl, ⟨u, v, rfl⟩, hx⟩
    have px := hx x (by simp)
    have tx := v_told px
    have gx := v_good px
    have hn : (!isNonP (toldP [bagC b4, .lst bad] x)) = goodP [bagC b4, .lst bad] x := by
      unfold toldP
      split
      · rename_i h; rw [h]; rfl
      · rename_i h; simp at h; rw [h]; rfl
    refine ⟨_, _, rfl, [some (sc), some (.mu 0), some (.lst (ws.map .int)), some (g), some (.mu 1), some (x), some (toldP [bagC b4, .lst bad] x), none, none, none, none, none, none, none, none, none, none, none, none], [bagC b4, .lst bad], ?_, rfl, ⟨_, _, rfl⟩, fun p hp => hx p (List.mem_cons_of_mem _ hp)⟩
    simp [tx, gx, hn]
  rintro ε S ⟨rfl, ⟨u5, u6, rfl⟩, _⟩
  -- widths that are right
  obtain ⟨r4, b5, e5, h7, h8, k5⟩ := v_drawE (n := 799999996) (lim := 40) [.lst bad] k4 (by decide) (by decide)
  obtain ⟨us, b6, hus, k6, hgood⟩ : ∃ (us : List Int) (b6 : BS), ((goodL (ws.map .int) = true ∧ us = ws ∧ b6 = b4) ∨ (¬ goodL (ws.map .int) = true ∧ us = [3, 2 + r4] ∧ b6 = b5)) ∧ BOk b6 799999996 ∧ goodL (us.map .int) = true := by
    by_cases hg : goodL (ws.map .int) = true
    · exact ⟨ws, b4, .inl ⟨hg, rfl, rfl⟩, k4.less (by omega), hg⟩
    · refine ⟨[3, 2 + r4], b5, .inr ⟨hg, rfl, rfl⟩, k5, ?_⟩
      simp [goodL, wid, prodI, asIP]
      omega
  refine done_seq (ε' := [some (sc), some (.mu 0), some (.lst (us.map .int)), some (g), some (.mu 1), u5, u6, none, none, none, none, none, none, none, none, none, none, none, none]) (S' := [bagC b6, .lst bad]) ?_ ?_
  · rcases hus with ⟨hg, rfl, rfl⟩ | ⟨hg, rfl, rfl⟩ <;> simp [g1, gp, hg, e5]
  clear hus ix ixt p1 p1t t1 t1t g1 gp gpt fit ne hw1 hw3 hwr e1 e2 e3 e4 e5 k1 k2 k3 k4 k5 hix o1 o2 o3
  have asI' : ∀ l : List Int, (l.map PV.int).map asIP = l := fun l => by rw [List.map_map]; exact (List.map_congr_left fun _ _ => rfl).trans (List.map_id l)
  obtain ⟨hu1, hu3, hur, hup⟩ : 1 ≤ us.length ∧ us.length ≤ 3 ∧ (∀ z ∈ us, 1 ≤ z ∧ z ≤ 64) ∧ prodI us ≤ 4096 := by
    unfold goodL at hgood
    rw [asI'] at hgood
    simp only [Bool.and_eq_true, decide_eq_true_eq, List.length_map] at hgood
    have := (all_wid hgood.1.2).2
    rw [asI'] at this
    exact ⟨hgood.1.1.1, hgood.1.1.2, this, hgood.2⟩
  clear hgood
  have ge1 : ∀ z ∈ us, 1 ≤ z := fun z hz => (hur z hz).1
  have hsm : ∀ z ∈ us, small z := fun n hn => by have := hur n hn; unfold small; omega
  have hat : ∀ z ∈ us, 0 < z ∧ z < 2 ^ 63 := fun n hn => by have := hur n hn; omega
  have ixu : ∀ S, items S (.lst (us.map .int)) = some (true, us.map .int) := fun S => rfl
  have ixut : ∀ S, items S (.tup (us.map .int)) = some (false, us.map .int) := fun S => rfl
  have hpos := prodI_pos ge1
  have c1 := fun S => v_row_count (ixu S) hsm
  have c2 := fun S => v_row_count (ixut S) hsm
  have c3 : ∀ S, m_row_count [.lst []] S = .ok (.int 1) S := fun S => v_row_count (k := true) (ws := []) rfl (fun z hz => by cases hz)
  refine done_seq (ε' := [some (sc), some (.mu 0), some (.lst (us.map .int)), some (g), some (.mu 1), u5, u6, some (.int 1), none, none, none, none, none, none, none, none, none, none, none]) (S' := [bagC b6, .lst bad]) (by simp) ?_
  refine done_for (fun xs ε S => S = [bagC b6, .lst bad] ∧ ∃ (d t : List Int) (u : Option PV), xs = t.map .int ∧ d ++ t = us ∧ ε = [some (sc), some (.mu 0), some (.lst (us.map .int)), some (g), some (.mu 1), u5, u6, some (.int (prodI d)), u, none, none, none, none, none, none, none, none, none, none]) (it := ⟨us.map .int, []⟩) (S1 := [bagC b6, .lst bad]) (by simp) ⟨rfl, [], us, none, rfl, rfl, rfl⟩ (fun _ _ _ _ => rfl) ?_ ?_
  · rintro x xs ε S ⟨rfl, d, t, u, hx, hd, rfl⟩
    cases t with
    | nil => cases hx
    | cons z t =>
      cases hx
      have hz := hsm z (by rw [← hd]; simp)
      have hc : (-18446744073709551616 < prodI d ∧ prodI d < 18446744073709551616) ∨ (-18446744073709551616 < z ∧ z < 18446744073709551616) := by
        have h1 : -(2 ^ 63) < z := hz.1
        have h2 : z < 2 ^ 63 := hz.2
        omega
      refine ⟨_, _, rfl, [some (sc), some (.mu 0), some (.lst (us.map .int)), some (g), some (.mu 1), u5, u6, some (.int (prodI (d ++ [z]))), some (.int z), none, none, none, none, none, none, none, none, none, none], [bagC b6, .lst bad], ?_, rfl, d ++ [z], t, some (.int z), rfl, by simp [hd], rfl⟩
      rw [prodI_snoc]
      simp [hc]
  rintro ε S ⟨rfl, d, t, u8, ht, hd, rfl⟩
  cases t with
  | cons => cases ht
  | nil =>
  rw [List.append_nil] at hd
  subst hd
  refine done_seq (ε' := [some (sc), some (.mu 0), some (.lst (d.map .int)), some (g), some (.mu 1), u5, u6, some (.int (prodI d)), u8, none, none, none, none, none, none, none, none, none, none]) (S' := [bagC b6, .lst bad]) (by simp [c1, c2, c3]) ?_
  -- rows
  have dT : ∀ S (r : List Int), dat S (tupI r) = some (.tuple (r.map .int)) := fun S r => by simp [tupI, dat, dats_ints]
  obtain ⟨rs, b7, hrs, k7, hr1, hr3, hrv⟩ : ∃ (rs : List (List Int)) (b7 : BS), ((prodI d ≤ 300 ∧ rs = allI d ∧ b7 = b6) ∨ (¬ prodI d ≤ 300 ∧ lcLoop (NameG 10) YesT (CbE fTuple (ConsA (LcE (SeqI (VarE 2)) (NameG 8) YesT (CallE m__law_draw [] (ConsA (VarE 1) (ConsA (VarE 8) NilA))) [8]) NilA)) [] [some (sc), some (.mu 0), some (.lst (d.map .int)), some (g), some (.mu 1), u5, u6, some (.int (prodI d)), u8, none, none, none, none, none, none, none, none, none, none] (intsP 0 12) [] [bagC b6, .lst bad] = .ok (rs.map tupI) [bagC b7, .lst bad])) ∧ BOk b7 799999000 ∧ 1 ≤ rs.length ∧ rs.length ≤ 300 ∧ ∀ r ∈ rs, Val r d := by
    by_cases hp : prodI d ≤ 300
    · refine ⟨allI d, b6, .inl ⟨hp, rfl, rfl⟩, k6.less (by omega), ?_, ?_, allI_val⟩
      · have := allI_len ge1; omega
      · have := allI_len ge1; omega
    · have h12 : (intsP 0 12).length = 12 := by simp [intsP]
      obtain ⟨ys, b7, e, k, hy⟩ := lcLoop_bag (g := NameG 10) (mc := YesT) (me := CbE fTuple (ConsA (LcE (SeqI (VarE 2)) (NameG 8) YesT (CallE m__law_draw [] (ConsA (VarE 1) (ConsA (VarE 8) NilA))) [8]) NilA)) (pins := []) (T := [.lst bad]) (k := 3) (ε := [some (sc), some (.mu 0), some (.lst (d.map .int)), some (g), some (.mu 1), u5, u6, some (.int (prodI d)), u8, none, none, none, none, none, none, none, none, none, none]) (fun _ y => ∃ r, y = tupI r ∧ Val r d) (fun _ => rfl) (intsP 0 12) [] 799999000 b6 (fun x b m hx hb => by
        have hb' : BOk b (m + 1 * (d.map PV.int).length) := hb.less (by simp; omega)
        obtain ⟨zs, b', e, k, hz⟩ := lcLoop_bag (g := NameG 8) (mc := YesT) (me := CallE m__law_draw [] (ConsA (VarE 1) (ConsA (VarE 8) NilA))) (pins := []) (T := [.lst bad]) (k := 1) (ε := [some (sc), some (.mu 0), some (.lst (d.map .int)), some (g), some (.mu 1), u5, u6, some (.int (prodI d)), none, none, some (x), none, none, none, none, none, none, none, none]) (fun p q => ∃ w r, p = PV.int w ∧ q = PV.int r ∧ 0 ≤ r ∧ r < w) (fun _ => rfl) (d.map .int) [] m b (fun p c j hp hc => by
          obtain ⟨w, hw, rfl⟩ := List.mem_map.mp hp
          have hww := hur w hw
          obtain ⟨q, c', e, q1, q2, k⟩ := v_drawE (lim := w) [.lst bad] hc (by omega) (by omega)
          exact ⟨_, rfl, rfl, .int q, c', by simp [e], k, w, q, rfl, rfl, q1, q2⟩) (by simp; omega) hb'
        obtain ⟨r, rfl, hv⟩ := val_of hz
        refine ⟨_, rfl, rfl, tupI r, b', ?_, k, r, rfl, hv⟩
        simp [e]) (by rw [h12]; simp) (k6.less (by rw [h12]; omega))
      obtain ⟨rs, rfl, hl, hv⟩ := rows_of hy
      exact ⟨rs, b7, .inr ⟨hp, e⟩, k, by omega, by omega, hv⟩
  refine done_seq (ε' := [some (sc), some (.mu 0), some (.lst (d.map .int)), some (g), some (.mu 1), u5, u6, some (.int (prodI d)), u8, some (.lst (rs.map tupI)), none, none, none, none, none, none, none, none, none]) (S' := [bagC b7, .lst bad]) ?_ ?_
  · have va := fun S => v_all (ixu S) ge1 hup (by omega)
    rcases hrs with ⟨hp, rfl, rfl⟩ | ⟨hp, e⟩
    · simp [hp, va]
    · simp [hp, e]
  have hra : prodI d ≤ 300 → rs = allI d := fun hp => by
    rcases hrs with ⟨_, h, _⟩ | ⟨h, _⟩
    · exact h
    · exact absurd hp h
  clear hrs
  -- the numbers of all rows
  have vn : ∀ (S : Sta) (r : List Int), Val r d → m_row_number [.lst (d.map .int), tupI r] S = .ok (.int (numI r d 0)) S := fun S r h => v_row_number (ixu S) (k := true) (m := false) rfl h.len hsm
  have vnt : ∀ (S : Sta) (r : List Int), Val r d → m_row_number [.tup (d.map .int), tupI r] S = .ok (.int (numI r d 0)) S := fun S r h => v_row_number (ixut S) (k := false) (m := false) rfl h.len hsm
  have vat : ∀ (S : Sta) (r : List Int), Val r d → flatS S = true → m_row_at [.lst (d.map .int), .int (numI r d 0)] S = .ok (tupI r) S := fun S r h hS => by
    have := v_row_at (n := numI r d 0) (ixu S) hat (by omega) hS
    rw [rowI_num r h] at this
    exact this
  have fS : ∀ b, flatS [bagC b, .lst bad] = true := fun b => by
    simp only [flatS, List.all_cons, List.all_nil, flat_bag, Bool.true_and, Bool.and_true]
    exact bf
  refine done_seq (ε' := [some (sc), some (.mu 0), some (.lst (d.map .int)), some (g), some (.mu 1), u5, u6, some (.int (prodI d)), u8, some (.lst (rs.map tupI)), none, none, none, none, none, none, none, none, none]) (S' := [bagC b7, .lst bad]) ?_ ?_
  · by_cases hp : prodI d ≤ 300
    · have hl : lcLoop (NameG 11) YesT (CallE m_row_number [] (ConsA (VarE 2) (ConsA (VarE 11) NilA))) [] [some (sc), some (.mu 0), some (.lst (d.map .int)), some (g), some (.mu 1), u5, u6, some (.int (prodI d)), u8, some (.lst (rs.map tupI)), none, none, none, none, none, none, none, none, none] (rs.map tupI) [] [bagC b7, .lst bad] = .ok ([] ++ (rs.map tupI).map fun p => .int (numI (rowP p) d 0)) [bagC b7, .lst bad] := by
        refine lcLoop_map _ rfl _ _ (fun p hp => ?_) (by simp; omega)
        obtain ⟨r, hr, rfl⟩ := List.mem_map.mp hp
        exact ⟨_, rfl, rfl, by simp [vn _ r (hrv r hr), rowP_tup]⟩
      rw [tups_num, hra hp, nums_all ge1] at hl
      have hb : -1000 ≤ prodI d ∧ prodI d ≤ 90000 := by omega
      have hf : fNeA [bagC b7, .lst bad] (.lst (((List.range (prodI d).toNat).map fun (n : Nat) => (n : Int)).map .int)) (.lst (((List.range (prodI d).toNat).map fun (n : Nat) => (n : Int)).map .int)) = some (.bl false) := by
        refine fNe_refl (d := .list (((List.range (prodI d).toNat).map fun (n : Nat) => (n : Int)).map .int)) (by simp only [dat, dats_ints, Option.map_some]) (fit_intsL (fun n hn => ?_) (by simp; omega))
        simp at hn
        obtain ⟨j, hj, rfl⟩ := hn
        omega
      simp only [List.nil_append] at hl
      rw [hra hp]
      simp [hp, hl, hb, intsP_eq, hf, -List.map_map]
    · simp [hp]
  have hrows : ∀ r ∈ rs ++ [d.map fun _ => 0, d.map fun w => w - 1], Val r d := fun r hr => by
    rcases List.mem_append.mp hr with hr | hr
    · exact hrv r hr
    · simp at hr
      rcases hr with rfl | rfl
      · exact val_zeros ge1
      · exact val_tops ge1
  refine done_for (fun xs ε S => S = [bagC b7, .lst bad] ∧ (∃ u8 u10 u11 u12 u13, ε = [some (sc), some (.mu 0), some (.lst (d.map .int)), some (g), some (.mu 1), u5, u6, some (.int (prodI d)), u8, some (.lst (rs.map tupI)), u10, u11, u12, u13, none, none, none, none, none]) ∧ ∀ p ∈ xs, ∃ r, p = tupI r ∧ Val r d) (it := ⟨(rs ++ [d.map fun _ => 0, d.map fun w => w - 1]).map tupI, []⟩) (S1 := [bagC b7, .lst bad]) ?_ ⟨rfl, ⟨_, _, _, _, _, rfl⟩, fun p hp => ?_⟩ (fun _ _ _ _ => rfl) ?_ ?_
  · have z1 : lcLoop (NameG 8) YesT (Fx.CE (.int 0)) [] [some (sc), some (.mu 0), some (.lst (d.map .int)), some (g), some (.mu 1), u5, u6, some (.int (prodI d)), none, some (.lst (rs.map tupI)), none, none, none, none, none, none, none, none, none] (d.map .int) [] [bagC b7, .lst bad] = .ok ([] ++ (d.map PV.int).map fun _ => .int 0) [bagC b7, .lst bad] := by
      refine lcLoop_map _ rfl _ _ (fun p hp => ?_) (by simp; omega)
      exact ⟨_, rfl, rfl, rfl⟩
    have z2 : lcLoop (NameG 8) YesT (OpE fSub (VarE 8) (Fx.CE (.int 1))) [] [some (sc), some (.mu 0), some (.lst (d.map .int)), some (g), some (.mu 1), u5, u6, some (.int (prodI d)), none, some (.lst (rs.map tupI)), none, none, none, none, none, none, none, none, none] (d.map .int) [] [bagC b7, .lst bad] = .ok ([] ++ (d.map PV.int).map fun p => .int (asIP p - 1)) [bagC b7, .lst bad] := by
      refine lcLoop_map _ rfl _ _ (fun p hp => ?_) (by simp; omega)
      obtain ⟨z, _, rfl⟩ := List.mem_map.mp hp
      exact ⟨_, rfl, rfl, by simp [asIP]⟩
    have y1 : (d.map PV.int).map (fun _ => PV.int 0) = (d.map fun _ => (0 : Int)).map .int := by rw [List.map_map, List.map_map]; rfl
    have y2 : (d.map PV.int).map (fun p => PV.int (asIP p - 1)) = (d.map fun w => w - 1).map .int := by rw [List.map_map, List.map_map]; rfl
    rw [y1, List.nil_append] at z1
    rw [y2, List.nil_append] at z2
    have hz : rs.length + 2 ≤ 100000 := by omega
    simp [z1, z2, hz, -List.map_map]
  · obtain ⟨r, hr, rfl⟩ := List.mem_map.mp hp
    exact ⟨r, rfl, hrows r hr⟩
  · rintro x xs ε S ⟨rfl, ⟨u8, u10, u11, u12, u13, rfl⟩, hx⟩
    obtain ⟨r, rfl, hv⟩ := hx x (by simp)
    obtain ⟨u', e⟩ := ahead_loop (S := [bagC b7, .lst bad]) (r := r) (d := d) (x0 := some sc) (x1 := some (.mu 0)) (x3 := some g) (x4 := some (.mu 1)) (x5 := u5) (x6 := u6) (x7 := some (.int (prodI d))) (x8 := u8) (x9 := some (.lst (rs.map tupI))) (x12 := some (.int (numI r d 0))) (x14 := none) (x15 := none) (x16 := none) (x17 := none) (x18 := none) hv.len hsm d.length 0 u10 (by omega)
    have hb : -(4611686018427387904 : Int) ≤ d.length ∧ (d.length : Int) < 4611686018427387904 := by omega
    have hne : fNeA [bagC b7, .lst bad] (tupI r) (tupI r) = some (.bl false) := fNe_refl (dT _ r) (fit_intsT (fun n hn => by have := val_small hv (fun z hz => (hur z hz).2) n hn; omega) (by rw [hv.len]; omega))
    simp [numI] at e
    refine ⟨_, _, rfl, [some (sc), some (.mu 0), some (.lst (d.map .int)), some (g), some (.mu 1), u5, u6, some (.int (prodI d)), u8, some (.lst (rs.map tupI)), u', some (tupI r), some (.int (numI r d 0)), some (.int (numI r d 0)), none, none, none, none, none], [bagC b7, .lst bad], ?_, rfl, ⟨_, _, _, _, _, rfl⟩, fun p hp => hx p (List.mem_cons_of_mem _ hp)⟩
    simp [vnt _ r hv, hb, e, vat _ r hv (fS b7), hne]
  rintro ε S ⟨rfl, ⟨u8, u10, u11, u12, u13, rfl⟩, _⟩
  -- a wide table
  clear vn vnt vat hra c1 c2 c3
  obtain ⟨r6, b8, e8, h9, h10, k8⟩ := v_drawE (n := 799998999) (lim := 2) [.lst bad] k7 (by decide) (by decide)
  have h45 : (intsP 0 (4 + r6).toNat).length = (4 + r6).toNat := by simp [intsP]
  obtain ⟨ys, b9, e9, k9, hy⟩ := lcLoop_bag (g := NameG 10) (mc := YesT) (me := OpE fAdd (Fx.CE (.int 1)) (CallE m__law_draw [] (ConsA (VarE 1) (ConsA (Fx.CE (.int 3)) NilA)))) (pins := []) (T := [.lst bad]) (k := 1) (ε := [some (sc), some (.mu 0), some (.lst (d.map .int)), some (g), some (.mu 1), u5, u6, some (.int (prodI d)), u8, some (.lst (rs.map tupI)), none, u11, u12, u13, none, none, none, none, none]) (fun _ y => ∃ z : Int, y = PV.int z ∧ 1 ≤ z ∧ z ≤ 3) (fun _ => rfl) (intsP 0 (4 + r6).toNat) [] 799998000 b8 (fun x b m hx hb => by
    obtain ⟨q, b', e, q1, q2, k⟩ := v_drawE (lim := 3) [.lst bad] hb (by decide) (by decide)
    exact ⟨_, rfl, rfl, .int (1 + q), b', by simp [e], k, 1 + q, rfl, by omega, by omega⟩) (by rw [h45]; simp; omega) (k8.less (by rw [h45]; omega))
  obtain ⟨wd, rfl, wl, wr⟩ := wides_of hy
  rw [h45] at wl
  have hb46 : -(4611686018427387904 : Int) ≤ 4 + r6 ∧ 4 + r6 < 4611686018427387904 := by omega
  refine done_seq (ε' := [some (sc), some (.mu 0), some (.lst (d.map .int)), some (g), some (.mu 1), u5, u6, some (.int (prodI d)), u8, some (.lst (rs.map tupI)), u10, u11, u12, u13, some (.lst (wd.map .int)), none, none, none, none]) (S' := [bagC b9, .lst bad]) (by simp [e8, hb46, e9]) ?_
  have w1 : ∀ z ∈ wd, 1 ≤ z := fun z hz => (wr z hz).1
  have wp : prodI wd ≤ 243 := by
    have h3 := prodI_le wr
    have : wd.length = 4 ∨ wd.length = 5 := by omega
    rcases this with h4 | h4 <;> rw [h4] at h3 <;> omega
  have wsm : ∀ n ∈ wd, small n := fun n hn => by have := wr n hn; unfold small; omega
  have wat : ∀ k ∈ wd, 0 < k ∧ k < 2 ^ 63 := fun n hn => by have := wr n hn; omega
  have ixw : ∀ S, items S (.lst (wd.map .int)) = some (true, wd.map .int) := fun S => rfl
  have wlen := allI_len w1
  have wpos := prodI_pos w1
  refine done_seq (ε' := [some (sc), some (.mu 0), some (.lst (d.map .int)), some (g), some (.mu 1), u5, u6, some (.int (prodI d)), u8, some (.lst (rs.map tupI)), u10, u11, u12, u13, some (.lst (wd.map .int)), some (.lst ((allI wd).map tupI)), none, none, none]) (S' := [bagC b9, .lst bad]) (by simp [v_all (ixw _) w1 (by omega) (by omega)]) ?_
  refine done_seq (ε' := [some (sc), some (.mu 0), some (.lst (d.map .int)), some (g), some (.mu 1), u5, u6, some (.int (prodI d)), u8, some (.lst (rs.map tupI)), u10, u11, u12, u13, some (.lst (wd.map .int)), some (.lst ((allI wd).map tupI)), none, none, none]) (S' := [bagC b9, .lst bad]) ?_ ?_
  · have l1 : lcLoop (NameG 16) YesT (CallE m_row_number [] (ConsA (VarE 14) (ConsA (VarE 16) NilA))) [] [some (sc), some (.mu 0), some (.lst (d.map .int)), some (g), some (.mu 1), u5, u6, some (.int (prodI d)), u8, some (.lst (rs.map tupI)), u10, u11, u12, u13, some (.lst (wd.map .int)), some (.lst ((allI wd).map tupI)), none, none, none] ((allI wd).map tupI) [] [bagC b9, .lst bad] = .ok ([] ++ ((allI wd).map tupI).map fun p => .int (numI (rowP p) wd 0)) [bagC b9, .lst bad] := by
      refine lcLoop_map _ rfl _ _ (fun p hp => ?_) (by simp; omega)
      obtain ⟨r, hr, rfl⟩ := List.mem_map.mp hp
      have vn : m_row_number [.lst (wd.map .int), tupI r] [bagC b9, .lst bad] = .ok (.int (numI r wd 0)) [bagC b9, .lst bad] := v_row_number (ixw _) (k := true) (m := false) rfl (allI_val r hr).len wsm
      exact ⟨_, rfl, rfl, by simp [vn, rowP_tup]⟩
    have l2 : lcLoop (NameG 10) YesT (CallE m_row_at [] (ConsA (VarE 14) (ConsA (VarE 10) NilA))) [] [some (sc), some (.mu 0), some (.lst (d.map .int)), some (g), some (.mu 1), u5, u6, some (.int (prodI d)), u8, some (.lst (rs.map tupI)), none, u11, u12, u13, some (.lst (wd.map .int)), some (.lst ((allI wd).map tupI)), none, none, none] (intsP 0 (allI wd).length) [] [bagC b9, .lst bad] = .ok ([] ++ (intsP 0 (allI wd).length).map fun p => tupI (rowI wd (asIP p))) [bagC b9, .lst bad] := by
      refine lcLoop_map _ rfl _ _ (fun p hp => ?_) (by simp [intsP]; omega)
      simp only [intsP, List.mem_map] at hp
      obtain ⟨j, _, rfl⟩ := hp
      have va := v_row_at (S := [bagC b9, .lst bad]) (n := 0 + (j : Int)) (ixw _) wat (by omega) (fS b9)
      exact ⟨_, rfl, rfl, by simp [asIP]; simp at va; exact va⟩
    have wq : (prodI wd).toNat = (allI wd).length := by omega
    have y2 : (intsP 0 (allI wd).length).map (fun p => tupI (rowI wd (asIP p))) = (allI wd).map tupI := by
      have h := rows_all w1
      rw [wq] at h
      have h4 : (intsP 0 (allI wd).length).map (fun p => tupI (rowI wd (asIP p))) = ((List.range (allI wd).length).map fun (n : Nat) => rowI wd (n : Int)).map tupI := by
        rw [List.map_map]
        simp [intsP, asIP, Function.comp_def]
      rw [h4, h]
    rw [tups_num, nums_all w1, wq, ← intsP_eq, List.nil_append] at l1
    rw [y2, List.nil_append] at l2
    have hf : fNeA [bagC b9, .lst bad] (.lst (intsP 0 (allI wd).length)) (.lst (intsP 0 (allI wd).length)) = some (.bl false) := by
      rw [intsP_eq]
      refine fNe_refl (d := .list (((List.range (allI wd).length).map fun (n : Nat) => (n : Int)).map .int)) (by simp only [dat, dats_ints, Option.map_some]) (fit_intsL (fun n hn => ?_) (by simp; omega))
      simp at hn
      obtain ⟨j, hj, rfl⟩ := hn
      omega
    have hf2 : fNeA [bagC b9, .lst bad] (.lst ((allI wd).map tupI)) (.lst ((allI wd).map tupI)) = some (.bl false) := fNe_refl (d := .list ((allI wd).map fun r => .tuple (r.map .int))) (by simp only [dat, dats_rows, Option.map_some]) (fit_rows (k := 5) (fun r hr => by
      have hv := allI_val r hr
      refine ⟨by rw [hv.len]; omega, fun z hz => ?_⟩
      have := val_small hv (fun z hz => by have := wr z hz; omega) z hz
      omega) (by omega))
    have hb1 : -1000 ≤ ((allI wd).length : Int) ∧ ((allI wd).length : Int) ≤ 90000 := by omega
    have hb2 : -(4611686018427387904 : Int) ≤ (allI wd).length ∧ ((allI wd).length : Int) < 4611686018427387904 := by omega
    simp [l1, l2, hb1, hb2, hf, hf2, -List.map_map]
  have c0 : ∀ S, m_row_count [.lst (wd.map .int)] S = .ok (.int ((allI wd).length : Int)) S := fun S => by rw [wlen]; exact v_row_count (ixw S) wsm
  have c4 : ∀ S, m_row_number [.lst [], .tup []] S = .ok (.int 0) S := fun S => v_row_number (k := true) (m := false) (ws := []) (rs := []) rfl rfl rfl (fun z hz => by cases hz)
  have c5 : m_row_at [.lst [], .int 0] [bagC b9, .lst bad] = .ok (.tup []) [bagC b9, .lst bad] := v_row_at (k := true) (ws := []) (n := 0) rfl (fun z hz => by cases hz) (by simp) (fS b9)
  have ne0 : ∀ S, fNeA S (.tup []) (.tup []) = some (.bl false) := fun S => by
    show fNe S (.tup []) (.tup []) = _
    exact fNe_refl (d := .tuple []) (by simp [dat, dats]) ⟨rfl, by decide +kernel, by decide +kernel⟩
  refine done_seq (ε' := [some (sc), some (.mu 0), some (.lst (d.map .int)), some (g), some (.mu 1), u5, u6, some (.int (prodI d)), u8, some (.lst (rs.map tupI)), u10, u11, u12, u13, some (.lst (wd.map .int)), some (.lst ((allI wd).map tupI)), none, none, none]) (S' := [bagC b9, .lst bad]) (by simp [c0, c4, c5, ne0]) ?_
  -- one of the rows
  obtain ⟨r7, b10, e10, h11, h12, k10⟩ := v_drawE (n := 799997999) (lim := rs.length) [.lst bad] k9 (by omega) (by omega)
  obtain ⟨row, hrow⟩ : ∃ row, rs[r7.toNat]? = some row := ⟨_, List.getElem?_eq_getElem (by omega)⟩
  have hv := hrv row (List.mem_of_getElem? hrow)
  have ha7 : atI (rs.map tupI) r7 = some (tupI row) := atI_get h11 (by rw [List.getElem?_map, hrow]; rfl)
  refine done_seq (ε' := [some (sc), some (.mu 0), some (.lst (d.map .int)), some (g), some (.mu 1), u5, u6, some (.int (prodI d)), u8, some (.lst (rs.map tupI)), u10, some (.lst (row.map .int)), u12, u13, some (.lst (wd.map .int)), some (.lst ((allI wd).map tupI)), none, none, none]) (S' := [bagC b10, .lst bad]) (by simp [e10, ha7]) ?_
  have hvl := hv.len
  have hvs := val_small hv (fun z hz => (hur z hz).2)
  have ixr : ∀ S, items S (.lst (row.map .int)) = some (true, row.map .int) := fun S => rfl
  have ixrt : ∀ S, items S (.tup (row.map .int)) = some (false, row.map .int) := fun S => rfl
  have fitr : Fit (.tuple (row.map .int)) := fit_intsT (fun n hn => by have := hvs n hn; omega) (by omega)
  have g1 : ∀ S, m__law_row_right [.lst (d.map .int), .lst (row.map .int), .bl true] S = .ok (.bl true) S := fun S => v_row_good (ixu S) (plain_ints (ixr S) (by omega)) (by simp only [goodR, ixr, good_val hv, List.length_map, hvl, decide_true, Bool.and_self]) (ixr S) (dT S row) fitr
  have g2 : ∀ S, m__law_row_right [.tup (d.map .int), .tup (row.map .int), .bl true] S = .ok (.bl true) S := fun S => v_row_good (ixut S) (plain_ints (ixrt S) (by omega)) (by simp only [goodR, ixrt, good_val hv, List.length_map, hvl, decide_true, Bool.and_self]) (ixrt S) (dT S row) fitr
  refine done_seq (ε' := [some (sc), some (.mu 0), some (.lst (d.map .int)), some (g), some (.mu 1), u5, u6, some (.int (prodI d)), u8, some (.lst (rs.map tupI)), u10, some (.lst (row.map .int)), u12, u13, some (.lst (wd.map .int)), some (.lst ((allI wd).map tupI)), none, none, none]) (S' := [bagC b10, .lst bad]) (by simp [g1, g2]) ?_
  obtain ⟨at', b11, e11, h13, h14, k11⟩ := v_drawE (n := 799997998) (lim := row.length) [.lst bad] k10 (by omega) (by omega)
  refine done_seq (ε' := [some (sc), some (.mu 0), some (.lst (d.map .int)), some (g), some (.mu 1), u5, u6, some (.int (prodI d)), u8, some (.lst (rs.map tupI)), u10, some (.lst (row.map .int)), u12, u13, some (.lst (wd.map .int)), some (.lst ((allI wd).map tupI)), none, some (.int at'), none]) (S' := [bagC b11, .lst bad]) (by simp [e11]) ?_
  refine done_seq (ε' := [some (sc), some (.mu 0), some (.lst (d.map .int)), some (g), some (.mu 1), u5, u6, some (.int (prodI d)), u8, some (.lst (rs.map tupI)), u10, some (.lst (row.map .int)), u12, u13, some (.lst (wd.map .int)), some (.lst ((allI wd).map tupI)), none, some (.int at'), some (.mu 2)]) (S' := [bagC b11, .lst bad, .lst (row.map .int)]) (by simp) ?_
  obtain ⟨w, hw⟩ : ∃ w, d[at'.toNat]? = some w := ⟨_, List.getElem?_eq_getElem (by omega)⟩
  have hww := hur w (List.mem_of_getElem? hw)
  have haw : atI (d.map PV.int) at' = some (.int w) := atI_get h13 (by rw [List.getElem?_map, hw]; rfl)
  obtain ⟨r8, b12, e12, h15, h16, k12⟩ := v_drawE (n := 799997997) (lim := 10 ^ 30) [.lst bad, .lst (row.map .int)] k11 (by decide) (by decide)
  obtain ⟨r9, b13, e13, h17, h18, k13⟩ := v_drawE (n := 799997996) (lim := 7) [.lst bad, .lst (row.map .int)] k12 (by decide) (by decide)
  obtain ⟨od, dd, o1, o2, o3, o4, o5⟩ := odd7 hww ⟨h15, h16⟩ h17 h18
  rw [t30] at e12
  have hix : ixN row.length at' = some at'.toNat := by
    unfold ixN
    rw [if_pos h13, if_pos h14]
  obtain ⟨wr', hwr'⟩ : ∃ l, l = (row.map PV.int).set at'.toNat od := ⟨_, rfl⟩
  refine done_seq (ε' := [some (sc), some (.mu 0), some (.lst (d.map .int)), some (g), some (.mu 1), u5, u6, some (.int (prodI d)), u8, some (.lst (rs.map tupI)), u10, some (.lst (row.map .int)), u12, u13, some (.lst (wd.map .int)), some (.lst ((allI wd).map tupI)), none, some (.int at'), some (.mu 2)]) (S' := [bagC b13, .lst bad, .lst wr']) (by simp [haw, e12, e13, o1, hix, hwr']) ?_
  have wl1 : wr'.length = d.length := by rw [hwr', List.length_set, List.length_map, hvl]
  have wt : ∀ S, ∀ p ∈ wr', (tyP S p).isSome = true := fun S p hp => by
    rw [hwr'] at hp
    rcases mem_set hp with hp | rfl
    · obtain ⟨z, _, rfl⟩ := List.mem_map.mp hp; rfl
    · exact o2 S
  have wf : cleans 0 wr' = true := by rw [hwr']; exact flat_set _ _ _ (flat_ints _) o3
  have wdv : ∀ p ∈ wr', ∃ x, Dv p x 2 := fun p hp => by
    rw [hwr'] at hp
    rcases mem_set hp with hp | rfl
    · obtain ⟨z, hz, rfl⟩ := List.mem_map.mp hp
      have := hvs z hz
      exact ⟨_, dv_int (by omega)⟩
    · exact ⟨dd, o4⟩
  have wbad : rowOk wr' d = false := by
    cases hq : rowOk wr' d with
    | false => rfl
    | true =>
      have hget : wr'[at'.toNat]? = some od := by
        rw [hwr', List.getElem?_set_self (by rw [List.length_map]; omega)]
      have := rowOk_get hq hget hw
      rw [o5] at this
      cases this
  clear hwr'
  obtain ⟨ds, q1, q2, q3, q4, q5⟩ := toDs_all wdv
  have f3 : flatS [bagC b13, .lst bad, .lst wr'] = true := by
    simp only [flatS, List.all_cons, List.all_nil, flat_bag, Bool.true_and, Bool.and_true, Bool.and_eq_true]
    exact ⟨bf, wf⟩
  have hcut : cutP (row.map PV.int) none (some (-1)) = (row.dropLast).map .int := by
    unfold cutP
    have h1 : HT.sIx (row.map PV.int).length 0 none = 0 := rfl
    have h2 : HT.sIx (row.map PV.int).length (row.map PV.int).length (some (-1)) = row.length - 1 := by
      simp [HT.sIx]
      omega
    rw [h1, h2, List.drop_zero, Nat.sub_zero, ← List.map_take, List.dropLast_eq_take]
  have fi : ∀ r : List Int, r.length ≤ 9 → (∀ z ∈ r, 0 ≤ z ∧ z < 64) → Fit (.list (r.map .int)) := fun r hl h => fit_intsL (fun n hn => by have := h n hn; omega) (by omega)
  refine done_for (fun xs ε S => S = [bagC b13, .lst bad, .lst wr'] ∧ (∃ u5, ε = [some (sc), some (.mu 0), some (.lst (d.map .int)), some (g), some (.mu 1), u5, u6, some (.int (prodI d)), u8, some (.lst (rs.map tupI)), u10, some (.lst (row.map .int)), u12, u13, some (.lst (wd.map .int)), some (.lst ((allI wd).map tupI)), none, some (.int at'), some (.mu 2)]) ∧ ∀ p ∈ xs, Plain [bagC b13, .lst bad, .lst wr'] p ∧ goodR [bagC b13, .lst bad, .lst wr'] p d = false ∧ ∃ x, dat [bagC b13, .lst bad, .lst wr'] p = some x ∧ Fit x) (it := ⟨[.mu 2, .lst (row.dropLast.map .int), .lst (row.map .int ++ [.int 0]), .tup [], .non, .int 0, .str "0", .tup wr'], []⟩) (S1 := [bagC b13, .lst bad, .lst wr']) ?_ ⟨rfl, ⟨u5, rfl⟩, ?_⟩ (fun _ _ _ _ => rfl) ?_ ?_
  · have : row.length + 1 ≤ 100000 := by omega
    simp [fSl, hcut, this]
  · intro p hp
    simp only [List.mem_cons, List.not_mem_nil, or_false] at hp
    rcases hp with rfl | rfl | rfl | rfl | rfl | rfl | rfl | rfl
    · refine ⟨plain_of (k := true) (xs := wr') rfl (by omega) (wt _), ?_, .list ds, ?_, fit_L (k := 2) q3 q4 q5 (by omega)⟩
      · simp [goodR, wbad]
      · simp [dat, q1]
    · refine ⟨plain_ints (k := true) (ws := row.dropLast) rfl (by simp; omega), ?_, .list (row.dropLast.map .int), by simp only [dat, dats_ints, Option.map_some], fi _ (by simp; omega) fun z hz => hvs z (List.dropLast_subset _ hz)⟩
      have : ¬ row.length - 1 = d.length := by omega
      simp [goodR, this]
    · have e3 : row.map PV.int ++ [.int 0] = (row ++ [0]).map .int := by simp
      rw [e3]
      refine ⟨plain_ints (k := true) (ws := row ++ [0]) rfl (by simp; omega), ?_, .list ((row ++ [0]).map .int), by simp only [dat, dats_ints, Option.map_some], fi _ (by simp; omega) fun z hz => ?_⟩
      · have : ¬ row.length + 1 = d.length := by omega
        simp [goodR, this]
      · rcases List.mem_append.mp hz with hz | hz
        · exact hvs z hz
        · rw [List.mem_singleton.mp hz]; decide
    · have : ¬ 0 = d.length := by omega
      exact ⟨plain_of (k := false) (xs := []) rfl (by simp) (by simp), by simp [goodR, this], .tuple [], by simp [dat, dats], ⟨rfl, by decide +kernel, by decide +kernel⟩⟩
    · exact ⟨plain_leaf rfl rfl, rfl, .none, by simp only [dat], ⟨rfl, by decide +kernel, by decide +kernel⟩⟩
    · exact ⟨plain_leaf rfl rfl, rfl, .int 0, by simp only [dat], ⟨by decide +kernel, by decide +kernel, by decide +kernel⟩⟩
    · exact ⟨plain_leaf rfl rfl, rfl, .str "0", by simp only [dat], ⟨by decide +kernel, by decide +kernel, by decide +kernel⟩⟩
    · refine ⟨plain_of (k := false) (xs := wr') rfl (by omega) (wt _), ?_, .tuple ds, ?_, fit_T (k := 2) q3 q4 q5 (by omega)⟩
      · simp [goodR, wbad]
      · simp only [dat, dats_toDs _ _ _ q1, Option.map_some]
  · rintro x xs ε S ⟨rfl, ⟨u5, rfl⟩, hx⟩
    obtain ⟨a1, a2, x', a3, a4⟩ := hx x (by simp)
    have vb := v_row_bad (ixu _) a1 (by rw [a2]; simp) a3 a4 f3
    refine ⟨_, _, rfl, [some (sc), some (.mu 0), some (.lst (d.map .int)), some (g), some (.mu 1), some (x), u6, some (.int (prodI d)), u8, some (.lst (rs.map tupI)), u10, some (.lst (row.map .int)), u12, u13, some (.lst (wd.map .int)), some (.lst ((allI wd).map tupI)), none, some (.int at'), some (.mu 2)], [bagC b13, .lst bad, .lst wr'], ?_, rfl, ⟨some x, rfl⟩, fun p hp => hx p (List.mem_cons_of_mem _ hp)⟩
    simp [vb]
  rintro ε S ⟨rfl, ⟨u5, rfl⟩, _⟩
  obtain ⟨b', e14⟩ := v_words (n := 0) (T := [.lst bad, .lst wr']) (k13.less (by omega))
  exact done_end (S' := [bagC b', .lst bad, .lst wr']) (by simp [e14])
end K02
namespace K02
open PySem PyProof.Rows L2 Co Fx
theorem all_mk {P : Program} {w : World} {K : PySem.W.Frag} {h : Heap} {mg : Str → Option Value} {fa : Addr} (X : K.In h) (G : h.Ns mainGlobals mg) (hfa : mg "law" = some (.ref fa))
    {t_LETTERS : Tok}
    {t_LONGEST_NAME : Tok}
    {t_MOST_COLUMNS : Tok}
    {t_WIDEST : Tok}
    {t_MOST_ROWS : Tok}
    {f_BadRow___init__ : Addr} {od_BadRow___init__ an_BadRow___init__ : Option Addr} {os_BadRow___init__ : Array (Option Value)} {oc_BadRow___init__ kV_BadRow___init__ dc_BadRow___init__ pm_BadRow___init__ cd_BadRow___init__ ct_BadRow___init__ : Value}
    {f_is_whole : Addr} {od_is_whole an_is_whole : Option Addr} {os_is_whole : Array (Option Value)} {oc_is_whole kV_is_whole dc_is_whole pm_is_whole cd_is_whole ct_is_whole : Value}
    {dT_is_whole : Addr} {doc_is_whole : Value} {dod_is_whole : Option Addr} {dos_is_whole : Array (Option Value)} {dn_is_whole : _}
    {f_is_name : Addr} {od_is_name an_is_name : Option Addr} {os_is_name : Array (Option Value)} {oc_is_name kV_is_name dc_is_name pm_is_name cd_is_name ct_is_name : Value}
    {f_is_sequence : Addr} {od_is_sequence an_is_sequence : Option Addr} {os_is_sequence : Array (Option Value)} {oc_is_sequence kV_is_sequence dc_is_sequence pm_is_sequence cd_is_sequence ct_is_sequence : Value}
    {dT_is_sequence : Addr} {doc_is_sequence : Value} {dod_is_sequence : Option Addr} {dos_is_sequence : Array (Option Value)} {dn_is_sequence : _}
    {dk_is_sequence_0 : Tok}
    {f_check_widths : Addr} {od_check_widths an_check_widths : Option Addr} {os_check_widths : Array (Option Value)} {oc_check_widths kV_check_widths dc_check_widths pm_check_widths cd_check_widths ct_check_widths : Value}
    {f_check_row : Addr} {od_check_row an_check_row : Option Addr} {os_check_row : Array (Option Value)} {oc_check_row kV_check_row dc_check_row pm_check_row cd_check_row ct_check_row : Value}
    {f_row_count : Addr} {od_row_count an_row_count : Option Addr} {os_row_count : Array (Option Value)} {oc_row_count kV_row_count dc_row_count pm_row_count cd_row_count ct_row_count : Value}
    {f_row_number : Addr} {od_row_number an_row_number : Option Addr} {os_row_number : Array (Option Value)} {oc_row_number kV_row_number dc_row_number pm_row_number cd_row_number ct_row_number : Value}
    {f_row_at : Addr} {od_row_at an_row_at : Option Addr} {os_row_at : Array (Option Value)} {oc_row_at kV_row_at dc_row_at pm_row_at cd_row_at ct_row_at : Value}
    {f__law_bag : Addr} {od__law_bag an__law_bag : Option Addr} {os__law_bag : Array (Option Value)} {oc__law_bag kV__law_bag dc__law_bag pm__law_bag cd__law_bag ct__law_bag : Value}
    {f__law_draw : Addr} {od__law_draw an__law_draw : Option Addr} {os__law_draw : Array (Option Value)} {oc__law_draw kV__law_draw dc__law_draw pm__law_draw cd__law_draw ct__law_draw : Value}
    {f__law_good : Addr} {od__law_good an__law_good : Option Addr} {os__law_good : Array (Option Value)} {oc__law_good kV__law_good dc__law_good pm__law_good cd__law_good ct__law_good : Value}
    {f__law_widths_told : Addr} {od__law_widths_told an__law_widths_told : Option Addr} {os__law_widths_told : Array (Option Value)} {oc__law_widths_told kV__law_widths_told dc__law_widths_told pm__law_widths_told cd__law_widths_told ct__law_widths_told : Value}
    {f__law_row_right : Addr} {od__law_row_right an__law_row_right : Option Addr} {os__law_row_right : Array (Option Value)} {oc__law_row_right kV__law_row_right dc__law_row_right pm__law_row_right cd__law_row_right ct__law_row_right : Value}
    {f__law_widths : Addr} {od__law_widths an__law_widths : Option Addr} {os__law_widths : Array (Option Value)} {oc__law_widths kV__law_widths dc__law_widths pm__law_widths cd__law_widths ct__law_widths : Value}
    {f__law_all : Addr} {od__law_all an__law_all : Option Addr} {os__law_all : Array (Option Value)} {oc__law_all kV__law_all dc__law_all pm__law_all cd__law_all ct__law_all : Value}
    {f__law_is : Addr} {od__law_is an__law_is : Option Addr} {os__law_is : Array (Option Value)} {oc__law_is kV__law_is dc__law_is pm__law_is cd__law_is ct__law_is : Value}
    {f__law_words_right : Addr} {od__law_words_right an__law_words_right : Option Addr} {os__law_words_right : Array (Option Value)} {oc__law_words_right kV__law_words_right dc__law_words_right pm__law_words_right cd__law_words_right ct__law_words_right : Value}
    {f_law : Addr} {od_law an_law : Option Addr} {os_law : Array (Option Value)} {oc_law kV_law dc_law pm_law cd_law ct_law : Value}
    {f_FetchError : Addr}
    {f_BadWidths : Addr}
    {f_BadRow : Addr}
    {nm_BadRow q_BadRow : Str} {N_BadRow : Addr} {bs_BadRow bm_BadRow : List Value} {sn_BadRow : List Str} {sb_BadRow : List Value} {ab_BadRow : Bool} {co_BadRow : Option Bool} {dd_BadRow : Option Addr} {m0_BadRow m1_BadRow m2_BadRow m3_BadRow m5_BadRow : Option Value}
    (z_abs : PySem.W.nsIn K mainGlobals "abs" = some none)
    (z_all : PySem.W.nsIn K mainGlobals "all" = some none)
    (z_bool : PySem.W.nsIn K mainGlobals "bool" = some none)
    (z_int : PySem.W.nsIn K mainGlobals "int" = some none)
    (z_isinstance : PySem.W.nsIn K mainGlobals "isinstance" = some none)
    (z_len : PySem.W.nsIn K mainGlobals "len" = some none)
    (z_list : PySem.W.nsIn K mainGlobals "list" = some none)
    (z_range : PySem.W.nsIn K mainGlobals "range" = some none)
    (z_repr : PySem.W.nsIn K mainGlobals "repr" = some none)
    (z_reversed : PySem.W.nsIn K mainGlobals "reversed" = some none)
    (z_str : PySem.W.nsIn K mainGlobals "str" = some none)
    (z_tuple : PySem.W.nsIn K mainGlobals "tuple" = some none)
    (z_zip : PySem.W.nsIn K mainGlobals "zip" = some none)
    (c_LETTERS : PySem.W.nsIn K mainGlobals "LETTERS" = some (some (.str "abcdefghijklmnopqrstuvwxyz" t_LETTERS)))
    (c_LONGEST_NAME : PySem.W.nsIn K mainGlobals "LONGEST_NAME" = some (some (.int 12 t_LONGEST_NAME)))
    (c_MOST_COLUMNS : PySem.W.nsIn K mainGlobals "MOST_COLUMNS" = some (some (.int 3 t_MOST_COLUMNS)))
    (c_WIDEST : PySem.W.nsIn K mainGlobals "WIDEST" = some (some (.int 64 t_WIDEST)))
    (c_MOST_ROWS : PySem.W.nsIn K mainGlobals "MOST_ROWS" = some (some (.int 4096 t_MOST_ROWS)))
    (l_BadRow___init__ : K.lookup f_BadRow___init__ = some ⟨oc_BadRow___init__, od_BadRow___init__, .func (PySem.W.fnOf "__init__" "BadRow.__init__" (defArgs s_BadRow___init__) (defBody s_BadRow___init__) (defScope s_BadRow___init__) .none kV_BadRow___init__ dc_BadRow___init__ pm_BadRow___init__ an_BadRow___init__ cd_BadRow___init__ ct_BadRow___init__), os_BadRow___init__⟩)
    (k_BadRow___init__ : PySem.W.keepIn K (.ref f_BadRow___init__) = true)
    (x_BadRow___init__ : PySem.W.codeIn K cd_BadRow___init__ "BadRow.__init__" = true)
    (a_is_whole : PySem.W.nsIn K mainGlobals "is_whole" = some (some (.ref f_is_whole)))
    (l_is_whole : K.lookup f_is_whole = some ⟨oc_is_whole, od_is_whole, .func (PySem.W.fnOf "is_whole" "is_whole" (defArgs s_is_whole) (defBody s_is_whole) (defScope s_is_whole) (.ref dT_is_whole) kV_is_whole dc_is_whole pm_is_whole an_is_whole cd_is_whole ct_is_whole), os_is_whole⟩)
    (k_is_whole : PySem.W.keepIn K (.ref f_is_whole) = true)
    (x_is_whole : PySem.W.codeIn K cd_is_whole "is_whole" = true)
    (d_is_whole : K.lookup dT_is_whole = some ⟨doc_is_whole, dod_is_whole, .seq #[.none, .none] dn_is_whole, dos_is_whole⟩)
    (a_is_name : PySem.W.nsIn K mainGlobals "is_name" = some (some (.ref f_is_name)))
    (l_is_name : K.lookup f_is_name = some ⟨oc_is_name, od_is_name, .func (PySem.W.fnOf "is_name" "is_name" (defArgs s_is_name) (defBody s_is_name) (defScope s_is_name) .none kV_is_name dc_is_name pm_is_name an_is_name cd_is_name ct_is_name), os_is_name⟩)
    (k_is_name : PySem.W.keepIn K (.ref f_is_name) = true)
    (x_is_name : PySem.W.codeIn K cd_is_name "is_name" = true)
    (a_is_sequence : PySem.W.nsIn K mainGlobals "is_sequence" = some (some (.ref f_is_sequence)))
    (l_is_sequence : K.lookup f_is_sequence = some ⟨oc_is_sequence, od_is_sequence, .func (PySem.W.fnOf "is_sequence" "is_sequence" (defArgs s_is_sequence) (defBody s_is_sequence) (defScope s_is_sequence) (.ref dT_is_sequence) kV_is_sequence dc_is_sequence pm_is_sequence an_is_sequence cd_is_sequence ct_is_sequence), os_is_sequence⟩)
    (k_is_sequence : PySem.W.keepIn K (.ref f_is_sequence) = true)
    (x_is_sequence : PySem.W.codeIn K cd_is_sequence "is_sequence" = true)
    (d_is_sequence : K.lookup dT_is_sequence = some ⟨doc_is_sequence, dod_is_sequence, .seq #[.int 0 dk_is_sequence_0, .none] dn_is_sequence, dos_is_sequence⟩)
    (a_check_widths : PySem.W.nsIn K mainGlobals "check_widths" = some (some (.ref f_check_widths)))
    (l_check_widths : K.lookup f_check_widths = some ⟨oc_check_widths, od_check_widths, .func (PySem.W.fnOf "check_widths" "check_widths" (defArgs s_check_widths) (defBody s_check_widths) (defScope s_check_widths) .none kV_check_widths dc_check_widths pm_check_widths an_check_widths cd_check_widths ct_check_widths), os_check_widths⟩)
    (k_check_widths : PySem.W.keepIn K (.ref f_check_widths) = true)
    (x_check_widths : PySem.W.codeIn K cd_check_widths "check_widths" = true)
    (a_check_row : PySem.W.nsIn K mainGlobals "check_row" = some (some (.ref f_check_row)))
    (l_check_row : K.lookup f_check_row = some ⟨oc_check_row, od_check_row, .func (PySem.W.fnOf "check_row" "check_row" (defArgs s_check_row) (defBody s_check_row) (defScope s_check_row) .none kV_check_row dc_check_row pm_check_row an_check_row cd_check_row ct_check_row), os_check_row⟩)
    (k_check_row : PySem.W.keepIn K (.ref f_check_row) = true)
    (x_check_row : PySem.W.codeIn K cd_check_row "check_row" = true)
    (a_row_count : PySem.W.nsIn K mainGlobals "row_count" = some (some (.ref f_row_count)))
    (l_row_count : K.lookup f_row_count = some ⟨oc_row_count, od_row_count, .func (PySem.W.fnOf "row_count" "row_count" (defArgs s_row_count) (defBody s_row_count) (defScope s_row_count) .none kV_row_count dc_row_count pm_row_count an_row_count cd_row_count ct_row_count), os_row_count⟩)
    (k_row_count : PySem.W.keepIn K (.ref f_row_count) = true)
    (x_row_count : PySem.W.codeIn K cd_row_count "row_count" = true)
    (a_row_number : PySem.W.nsIn K mainGlobals "row_number" = some (some (.ref f_row_number)))
    (l_row_number : K.lookup f_row_number = some ⟨oc_row_number, od_row_number, .func (PySem.W.fnOf "row_number" "row_number" (defArgs s_row_number) (defBody s_row_number) (defScope s_row_number) .none kV_row_number dc_row_number pm_row_number an_row_number cd_row_number ct_row_number), os_row_number⟩)
    (k_row_number : PySem.W.keepIn K (.ref f_row_number) = true)
    (x_row_number : PySem.W.codeIn K cd_row_number "row_number" = true)
    (a_row_at : PySem.W.nsIn K mainGlobals "row_at" = some (some (.ref f_row_at)))
    (l_row_at : K.lookup f_row_at = some ⟨oc_row_at, od_row_at, .func (PySem.W.fnOf "row_at" "row_at" (defArgs s_row_at) (defBody s_row_at) (defScope s_row_at) .none kV_row_at dc_row_at pm_row_at an_row_at cd_row_at ct_row_at), os_row_at⟩)
    (k_row_at : PySem.W.keepIn K (.ref f_row_at) = true)
    (x_row_at : PySem.W.codeIn K cd_row_at "row_at" = true)
    (a__law_bag : PySem.W.nsIn K mainGlobals "_law_bag" = some (some (.ref f__law_bag)))
    (l__law_bag : K.lookup f__law_bag = some ⟨oc__law_bag, od__law_bag, .func (PySem.W.fnOf "_law_bag" "_law_bag" (defArgs s__law_bag) (defBody s__law_bag) (defScope s__law_bag) .none kV__law_bag dc__law_bag pm__law_bag an__law_bag cd__law_bag ct__law_bag), os__law_bag⟩)
    (k__law_bag : PySem.W.keepIn K (.ref f__law_bag) = true)
    (x__law_bag : PySem.W.codeIn K cd__law_bag "_law_bag" = true)
    (a__law_draw : PySem.W.nsIn K mainGlobals "_law_draw" = some (some (.ref f__law_draw)))
    (l__law_draw : K.lookup f__law_draw = some ⟨oc__law_draw, od__law_draw, .func (PySem.W.fnOf "_law_draw" "_law_draw" (defArgs s__law_draw) (defBody s__law_draw) (defScope s__law_draw) .none kV__law_draw dc__law_draw pm__law_draw an__law_draw cd__law_draw ct__law_draw), os__law_draw⟩)
    (k__law_draw : PySem.W.keepIn K (.ref f__law_draw) = true)
    (x__law_draw : PySem.W.codeIn K cd__law_draw "_law_draw" = true)
    (a__law_good : PySem.W.nsIn K mainGlobals "_law_good" = some (some (.ref f__law_good)))
    (l__law_good : K.lookup f__law_good = some ⟨oc__law_good, od__law_good, .func (PySem.W.fnOf "_law_good" "_law_good" (defArgs s__law_good) (defBody s__law_good) (defScope s__law_good) .none kV__law_good dc__law_good pm__law_good an__law_good cd__law_good ct__law_good), os__law_good⟩)
    (k__law_good : PySem.W.keepIn K (.ref f__law_good) = true)
    (x__law_good : PySem.W.codeIn K cd__law_good "_law_good" = true)
    (a__law_widths_told : PySem.W.nsIn K mainGlobals "_law_widths_told" = some (some (.ref f__law_widths_told)))
    (l__law_widths_told : K.lookup f__law_widths_told = some ⟨oc__law_widths_told, od__law_widths_told, .func (PySem.W.fnOf "_law_widths_told" "_law_widths_told" (defArgs s__law_widths_told) (defBody s__law_widths_told) (defScope s__law_widths_told) .none kV__law_widths_told dc__law_widths_told pm__law_widths_told an__law_widths_told cd__law_widths_told ct__law_widths_told), os__law_widths_told⟩)
    (k__law_widths_told : PySem.W.keepIn K (.ref f__law_widths_told) = true)
    (x__law_widths_told : PySem.W.codeIn K cd__law_widths_told "_law_widths_told" = true)
    (a__law_row_right : PySem.W.nsIn K mainGlobals "_law_row_right" = some (some (.ref f__law_row_right)))
    (l__law_row_right : K.lookup f__law_row_right = some ⟨oc__law_row_right, od__law_row_right, .func (PySem.W.fnOf "_law_row_right" "_law_row_right" (defArgs s__law_row_right) (defBody s__law_row_right) (defScope s__law_row_right) .none kV__law_row_right dc__law_row_right pm__law_row_right an__law_row_right cd__law_row_right ct__law_row_right), os__law_row_right⟩)
    (k__law_row_right : PySem.W.keepIn K (.ref f__law_row_right) = true)
    (x__law_row_right : PySem.W.codeIn K cd__law_row_right "_law_row_right" = true)
    (a__law_widths : PySem.W.nsIn K mainGlobals "_law_widths" = some (some (.ref f__law_widths)))
    (l__law_widths : K.lookup f__law_widths = some ⟨oc__law_widths, od__law_widths, .func (PySem.W.fnOf "_law_widths" "_law_widths" (defArgs s__law_widths) (defBody s__law_widths) (defScope s__law_widths) .none kV__law_widths dc__law_widths pm__law_widths an__law_widths cd__law_widths ct__law_widths), os__law_widths⟩)
    (k__law_widths : PySem.W.keepIn K (.ref f__law_widths) = true)
    (x__law_widths : PySem.W.codeIn K cd__law_widths "_law_widths" = true)
    (a__law_all : PySem.W.nsIn K mainGlobals "_law_all" = some (some (.ref f__law_all)))
    (l__law_all : K.lookup f__law_all = some ⟨oc__law_all, od__law_all, .func (PySem.W.fnOf "_law_all" "_law_all" (defArgs s__law_all) (defBody s__law_all) (defScope s__law_all) .none kV__law_all dc__law_all pm__law_all an__law_all cd__law_all ct__law_all), os__law_all⟩)
    (k__law_all : PySem.W.keepIn K (.ref f__law_all) = true)
    (x__law_all : PySem.W.codeIn K cd__law_all "_law_all" = true)
    (a__law_is : PySem.W.nsIn K mainGlobals "_law_is" = some (some (.ref f__law_is)))
    (l__law_is : K.lookup f__law_is = some ⟨oc__law_is, od__law_is, .func (PySem.W.fnOf "_law_is" "_law_is" (defArgs s__law_is) (defBody s__law_is) (defScope s__law_is) .none kV__law_is dc__law_is pm__law_is an__law_is cd__law_is ct__law_is), os__law_is⟩)
    (k__law_is : PySem.W.keepIn K (.ref f__law_is) = true)
    (x__law_is : PySem.W.codeIn K cd__law_is "_law_is" = true)
    (a__law_words_right : PySem.W.nsIn K mainGlobals "_law_words_right" = some (some (.ref f__law_words_right)))
    (l__law_words_right : K.lookup f__law_words_right = some ⟨oc__law_words_right, od__law_words_right, .func (PySem.W.fnOf "_law_words_right" "_law_words_right" (defArgs s__law_words_right) (defBody s__law_words_right) (defScope s__law_words_right) .none kV__law_words_right dc__law_words_right pm__law_words_right an__law_words_right cd__law_words_right ct__law_words_right), os__law_words_right⟩)
    (k__law_words_right : PySem.W.keepIn K (.ref f__law_words_right) = true)
    (x__law_words_right : PySem.W.codeIn K cd__law_words_right "_law_words_right" = true)
    (a_law : PySem.W.nsIn K mainGlobals "law" = some (some (.ref f_law)))
    (l_law : K.lookup f_law = some ⟨oc_law, od_law, .func (PySem.W.fnOf "law" "law" (defArgs s_law) (defBody s_law) (defScope s_law) .none kV_law dc_law pm_law an_law cd_law ct_law), os_law⟩)
    (k_law : PySem.W.keepIn K (.ref f_law) = true)
    (x_law : PySem.W.codeIn K cd_law "law" = true)
    (a_FetchError : PySem.W.nsIn K mainGlobals "FetchError" = some (some (.ref f_FetchError)))
    (e_FetchError : PySem.W.excIn K f_FetchError [.type "ValueError", .type "Exception", .type "BaseException", .type "object"] "ValueError.__new__" = true)
    (kc_FetchError : PySem.W.keepIn K (.ref f_FetchError) = true)
    (bc_FetchError : PySem.W.subIn K (.ref f_FetchError) (.type "BaseException") = some true)
    (tc_FetchError : PySem.W.typeIn K (.ref f_FetchError) = some (.type "type"))
    (ic_FetchError : PySem.W.isClsIn K f_FetchError = true)
    (sc_FetchError : PySem.W.subIn K (.ref f_FetchError) (.ref f_FetchError) = some true)
    (a_BadWidths : PySem.W.nsIn K mainGlobals "BadWidths" = some (some (.ref f_BadWidths)))
    (e_BadWidths : PySem.W.excIn K f_BadWidths [.type "ValueError", .type "Exception", .type "BaseException", .type "object"] "ValueError.__new__" = true)
    (kc_BadWidths : PySem.W.keepIn K (.ref f_BadWidths) = true)
    (bc_BadWidths : PySem.W.subIn K (.ref f_BadWidths) (.type "BaseException") = some true)
    (tc_BadWidths : PySem.W.typeIn K (.ref f_BadWidths) = some (.type "type"))
    (ic_BadWidths : PySem.W.isClsIn K f_BadWidths = true)
    (sc_BadWidths : PySem.W.subIn K (.ref f_BadWidths) (.ref f_BadWidths) = some true)
    (a_BadRow : PySem.W.nsIn K mainGlobals "BadRow" = some (some (.ref f_BadRow)))
    (xl_BadRow : K.lookup f_BadRow = some (excClassObj nm_BadRow q_BadRow f_BadRow N_BadRow bs_BadRow bm_BadRow true sn_BadRow sb_BadRow ab_BadRow co_BadRow dd_BadRow m0_BadRow m1_BadRow m2_BadRow m3_BadRow m5_BadRow "ValueError.__new__"))
    (xr_BadRow : HandSPX.refsVE bm_BadRow = true)
    (sa_BadRow : PySem.W.findIn K (.ref f_BadRow) "__setattr__" = some (some (.builtin "object.__setattr__")))
    (ga_BadRow : PySem.W.findIn K (.ref f_BadRow) "__getattribute__" = some (some (.builtin "BaseException.__getattribute__")))
    (gg_BadRow : PySem.W.findIn K (.ref f_BadRow) "__getattr__" = some none)
    (hd_BadRow : PySem.W.hasDictIn K f_BadRow = true)
    (i_BadRow : PySem.W.findIn K (.ref f_BadRow) "__init__" = some (some (.ref f_BadRow___init__)))
    (ti_BadRow : PySem.W.typeIn K (.ref f_BadRow___init__) = some (.type "function"))
    (n_BadRow_row : PySem.W.findIn K (.ref f_BadRow) "row" = some none)
    (kc_BadRow : PySem.W.keepIn K (.ref f_BadRow) = true)
    (bc_BadRow : PySem.W.subIn K (.ref f_BadRow) (.type "BaseException") = some true)
    (tc_BadRow : PySem.W.typeIn K (.ref f_BadRow) = some (.type "type"))
    (ic_BadRow : PySem.W.isClsIn K f_BadRow = true)
    (sc_BadRow : PySem.W.subIn K (.ref f_BadRow) (.ref f_BadRow) = some true) :
    ∃ fd : FuncData, (∀ (s : Shared) (u : Value), BindsTo s fd ⟨[u], []⟩ [("script", u)]) ∧ ∀ base : Heap, K.In base → base.Ns mainGlobals mg → FnG P w K mg base CX0 5 fa fd ["script"] (spScr K) := by
  have e := hfa.symm.trans (PySem.W.mg_of X G a_law)
  cases e
  have F_BadRow___init__ := fun_mk (st := s_BadRow___init__) l_BadRow___init__ x_BadRow___init__ k_BadRow___init__
  have F_is_whole : FunD K "is_whole" "is_whole" (defArgs s_is_whole) (defBody s_is_whole) (defScope s_is_whole) [.non, .non] [] f_is_whole _ := ⟨⟨_, _, _, _, _, _, _, _, _, _, rfl, l_is_whole, x_is_whole, .inr ⟨by decide, dT_is_whole, _, [.none, .none], _, rfl, d_is_whole, rfl, (.cons rfl (.cons rfl .nil))⟩, .inl rfl⟩, k_is_whole⟩
  have F_is_name := fun_mk (st := s_is_name) l_is_name x_is_name k_is_name
  have F_is_sequence : FunD K "is_sequence" "is_sequence" (defArgs s_is_sequence) (defBody s_is_sequence) (defScope s_is_sequence) [.int 0, .non] [] f_is_sequence _ := ⟨⟨_, _, _, _, _, _, _, _, _, _, rfl, l_is_sequence, x_is_sequence, .inr ⟨by decide, dT_is_sequence, _, [.int 0 dk_is_sequence_0, .none], _, rfl, d_is_sequence, rfl, (.cons ⟨_, rfl⟩ (.cons rfl .nil))⟩, .inl rfl⟩, k_is_sequence⟩
  have F_check_widths := fun_mk (st := s_check_widths) l_check_widths x_check_widths k_check_widths
  have F_check_row := fun_mk (st := s_check_row) l_check_row x_check_row k_check_row
  have F_row_count := fun_mk (st := s_row_count) l_row_count x_row_count k_row_count
  have F_row_number := fun_mk (st := s_row_number) l_row_number x_row_number k_row_number
  have F_row_at := fun_mk (st := s_row_at) l_row_at x_row_at k_row_at
  have F__law_bag := fun_mk (st := s__law_bag) l__law_bag x__law_bag k__law_bag
  have F__law_draw := fun_mk (st := s__law_draw) l__law_draw x__law_draw k__law_draw
  have F__law_good := fun_mk (st := s__law_good) l__law_good x__law_good k__law_good
  have F__law_widths_told := fun_mk (st := s__law_widths_told) l__law_widths_told x__law_widths_told k__law_widths_told
  have F__law_row_right := fun_mk (st := s__law_row_right) l__law_row_right x__law_row_right k__law_row_right
  have F__law_widths := fun_mk (st := s__law_widths) l__law_widths x__law_widths k__law_widths
  have F__law_all := fun_mk (st := s__law_all) l__law_all x__law_all k__law_all
  have F__law_is := fun_mk (st := s__law_is) l__law_is x__law_is k__law_is
  have F__law_words_right := fun_mk (st := s__law_words_right) l__law_words_right x__law_words_right k__law_words_right
  have F_law := fun_mk (st := s_law) l_law x_law k_law
  have B : ∀ (s : Shared) (u : Value), BindsTo s (PySem.W.fnOf "law" "law" (defArgs s_law) (defBody s_law) (defScope s_law) .none kV_law dc_law pm_law an_law cd_law ct_law) ⟨[u], []⟩ [("script", u)] := fun s u => .of_eq rfl
  generalize (PySem.W.fnOf _ _ _ _ _ _ _ _ _ _ _ _) = fd_BadRow___init__ at F_BadRow___init__
  generalize (PySem.W.fnOf _ _ _ _ _ _ _ _ _ _ _ _) = fd_is_whole at F_is_whole
  generalize (PySem.W.fnOf _ _ _ _ _ _ _ _ _ _ _ _) = fd_is_name at F_is_name
  generalize (PySem.W.fnOf _ _ _ _ _ _ _ _ _ _ _ _) = fd_is_sequence at F_is_sequence
  generalize (PySem.W.fnOf _ _ _ _ _ _ _ _ _ _ _ _) = fd_check_widths at F_check_widths
  generalize (PySem.W.fnOf _ _ _ _ _ _ _ _ _ _ _ _) = fd_check_row at F_check_row
  generalize (PySem.W.fnOf _ _ _ _ _ _ _ _ _ _ _ _) = fd_row_count at F_row_count
  generalize (PySem.W.fnOf _ _ _ _ _ _ _ _ _ _ _ _) = fd_row_number at F_row_number
  generalize (PySem.W.fnOf _ _ _ _ _ _ _ _ _ _ _ _) = fd_row_at at F_row_at
  generalize (PySem.W.fnOf _ _ _ _ _ _ _ _ _ _ _ _) = fd__law_bag at F__law_bag
  generalize (PySem.W.fnOf _ _ _ _ _ _ _ _ _ _ _ _) = fd__law_draw at F__law_draw
  generalize (PySem.W.fnOf _ _ _ _ _ _ _ _ _ _ _ _) = fd__law_good at F__law_good
  generalize (PySem.W.fnOf _ _ _ _ _ _ _ _ _ _ _ _) = fd__law_widths_told at F__law_widths_told
  generalize (PySem.W.fnOf _ _ _ _ _ _ _ _ _ _ _ _) = fd__law_row_right at F__law_row_right
  generalize (PySem.W.fnOf _ _ _ _ _ _ _ _ _ _ _ _) = fd__law_widths at F__law_widths
  generalize (PySem.W.fnOf _ _ _ _ _ _ _ _ _ _ _ _) = fd__law_all at F__law_all
  generalize (PySem.W.fnOf _ _ _ _ _ _ _ _ _ _ _ _) = fd__law_is at F__law_is
  generalize (PySem.W.fnOf _ _ _ _ _ _ _ _ _ _ _ _) = fd__law_words_right at F__law_words_right
  generalize (PySem.W.fnOf _ _ _ _ _ _ _ _ _ _ _ _) = fd_law at F_law B
  obtain ⟨AD, hAD_0, hAD_1, hAD_2, hAD_3, hAD_4, hAD_5, hAD_6, hAD_7, hAD_8, hAD_9, hAD_10, hAD_11, hAD_12, hAD_13, hAD_14, hAD_15, hAD_16, hAD_17, hAD_18, hAD_19, hAD_20, hAD_21⟩ : ∃ AD : String → Addr, AD "BadRow.__init__" = f_BadRow___init__ ∧ AD "is_whole" = f_is_whole ∧ AD "is_name" = f_is_name ∧ AD "is_sequence" = f_is_sequence ∧ AD "check_widths" = f_check_widths ∧ AD "check_row" = f_check_row ∧ AD "row_count" = f_row_count ∧ AD "row_number" = f_row_number ∧ AD "row_at" = f_row_at ∧ AD "_law_bag" = f__law_bag ∧ AD "_law_draw" = f__law_draw ∧ AD "_law_good" = f__law_good ∧ AD "_law_widths_told" = f__law_widths_told ∧ AD "_law_row_right" = f__law_row_right ∧ AD "_law_widths" = f__law_widths ∧ AD "_law_all" = f__law_all ∧ AD "_law_is" = f__law_is ∧ AD "_law_words_right" = f__law_words_right ∧ AD "law" = fa ∧ AD "FetchError" = f_FetchError ∧ AD "BadWidths" = f_BadWidths ∧ AD "BadRow" = f_BadRow := ⟨fun s => if s = "BadRow.__init__" then f_BadRow___init__ else if s = "is_whole" then f_is_whole else if s = "is_name" then f_is_name else if s = "is_sequence" then f_is_sequence else if s = "check_widths" then f_check_widths else if s = "check_row" then f_check_row else if s = "row_count" then f_row_count else if s = "row_number" then f_row_number else if s = "row_at" then f_row_at else if s = "_law_bag" then f__law_bag else if s = "_law_draw" then f__law_draw else if s = "_law_good" then f__law_good else if s = "_law_widths_told" then f__law_widths_told else if s = "_law_row_right" then f__law_row_right else if s = "_law_widths" then f__law_widths else if s = "_law_all" then f__law_all else if s = "_law_is" then f__law_is else if s = "_law_words_right" then f__law_words_right else if s = "law" then fa else if s = "FetchError" then f_FetchError else if s = "BadWidths" then f_BadWidths else if s = "BadRow" then f_BadRow else fa, by refine ⟨?_, ?_, ?_, ?_, ?_, ?_, ?_, ?_, ?_, ?_, ?_, ?_, ?_, ?_, ?_, ?_, ?_, ?_, ?_, ?_, ?_, ?_⟩ <;> simp⟩
  subst hAD_0
  subst hAD_1
  subst hAD_2
  subst hAD_3
  subst hAD_4
  subst hAD_5
  subst hAD_6
  subst hAD_7
  subst hAD_8
  subst hAD_9
  subst hAD_10
  subst hAD_11
  subst hAD_12
  subst hAD_13
  subst hAD_14
  subst hAD_15
  subst hAD_16
  subst hAD_17
  subst hAD_18
  subst hAD_19
  subst hAD_20
  subst hAD_21
  obtain ⟨FD, hFD_0, hFD_1, hFD_2, hFD_3, hFD_4, hFD_5, hFD_6, hFD_7, hFD_8, hFD_9, hFD_10, hFD_11, hFD_12, hFD_13, hFD_14, hFD_15, hFD_16, hFD_17, hFD_18⟩ : ∃ FD : String → FuncData, FD "BadRow.__init__" = fd_BadRow___init__ ∧ FD "is_whole" = fd_is_whole ∧ FD "is_name" = fd_is_name ∧ FD "is_sequence" = fd_is_sequence ∧ FD "check_widths" = fd_check_widths ∧ FD "check_row" = fd_check_row ∧ FD "row_count" = fd_row_count ∧ FD "row_number" = fd_row_number ∧ FD "row_at" = fd_row_at ∧ FD "_law_bag" = fd__law_bag ∧ FD "_law_draw" = fd__law_draw ∧ FD "_law_good" = fd__law_good ∧ FD "_law_widths_told" = fd__law_widths_told ∧ FD "_law_row_right" = fd__law_row_right ∧ FD "_law_widths" = fd__law_widths ∧ FD "_law_all" = fd__law_all ∧ FD "_law_is" = fd__law_is ∧ FD "_law_words_right" = fd__law_words_right ∧ FD "law" = fd_law := ⟨fun s => if s = "BadRow.__init__" then fd_BadRow___init__ else if s = "is_whole" then fd_is_whole else if s = "is_name" then fd_is_name else if s = "is_sequence" then fd_is_sequence else if s = "check_widths" then fd_check_widths else if s = "check_row" then fd_check_row else if s = "row_count" then fd_row_count else if s = "row_number" then fd_row_number else if s = "row_at" then fd_row_at else if s = "_law_bag" then fd__law_bag else if s = "_law_draw" then fd__law_draw else if s = "_law_good" then fd__law_good else if s = "_law_widths_told" then fd__law_widths_told else if s = "_law_row_right" then fd__law_row_right else if s = "_law_widths" then fd__law_widths else if s = "_law_all" then fd__law_all else if s = "_law_is" then fd__law_is else if s = "_law_words_right" then fd__law_words_right else if s = "law" then fd_law else fd_law, by refine ⟨?_, ?_, ?_, ?_, ?_, ?_, ?_, ?_, ?_, ?_, ?_, ?_, ?_, ?_, ?_, ?_, ?_, ?_, ?_⟩ <;> simp⟩
  subst hFD_0
  subst hFD_1
  subst hFD_2
  subst hFD_3
  subst hFD_4
  subst hFD_5
  subst hFD_6
  subst hFD_7
  subst hFD_8
  subst hFD_9
  subst hFD_10
  subst hFD_11
  subst hFD_12
  subst hFD_13
  subst hFD_14
  subst hFD_15
  subst hFD_16
  subst hFD_17
  subst hFD_18
  obtain ⟨TK, hTK_0, hTK_1, hTK_2, hTK_3, hTK_4⟩ : ∃ TK : String → Tok, TK "LETTERS" = t_LETTERS ∧ TK "LONGEST_NAME" = t_LONGEST_NAME ∧ TK "MOST_COLUMNS" = t_MOST_COLUMNS ∧ TK "WIDEST" = t_WIDEST ∧ TK "MOST_ROWS" = t_MOST_ROWS := ⟨fun s => if s = "LETTERS" then t_LETTERS else if s = "LONGEST_NAME" then t_LONGEST_NAME else if s = "MOST_COLUMNS" then t_MOST_COLUMNS else if s = "WIDEST" then t_WIDEST else if s = "MOST_ROWS" then t_MOST_ROWS else t_LETTERS, by refine ⟨?_, ?_, ?_, ?_, ?_⟩ <;> simp⟩
  subst hTK_0
  subst hTK_1
  subst hTK_2
  subst hTK_3
  subst hTK_4
  have T : Txt K mg AD FD TK := {
    b_abs := PySem.W.mg_none_of X G z_abs,
    b_all := PySem.W.mg_none_of X G z_all,
    b_bool := PySem.W.mg_none_of X G z_bool,
    b_int := PySem.W.mg_none_of X G z_int,
    b_isinstance := PySem.W.mg_none_of X G z_isinstance,
    b_len := PySem.W.mg_none_of X G z_len,
    b_list := PySem.W.mg_none_of X G z_list,
    b_range := PySem.W.mg_none_of X G z_range,
    b_repr := PySem.W.mg_none_of X G z_repr,
    b_reversed := PySem.W.mg_none_of X G z_reversed,
    b_str := PySem.W.mg_none_of X G z_str,
    b_tuple := PySem.W.mg_none_of X G z_tuple,
    b_zip := PySem.W.mg_none_of X G z_zip,
    g_LETTERS := PySem.W.mg_of X G c_LETTERS,
    g_LONGEST_NAME := PySem.W.mg_of X G c_LONGEST_NAME,
    g_MOST_COLUMNS := PySem.W.mg_of X G c_MOST_COLUMNS,
    g_WIDEST := PySem.W.mg_of X G c_WIDEST,
    g_MOST_ROWS := PySem.W.mg_of X G c_MOST_ROWS,
    f_BadRow___init__ := F_BadRow___init__,
    f_is_whole := F_is_whole,
    g_is_whole := PySem.W.mg_of X G a_is_whole,
    f_is_name := F_is_name,
    g_is_name := PySem.W.mg_of X G a_is_name,
    f_is_sequence := F_is_sequence,
    g_is_sequence := PySem.W.mg_of X G a_is_sequence,
    f_check_widths := F_check_widths,
    g_check_widths := PySem.W.mg_of X G a_check_widths,
    f_check_row := F_check_row,
    g_check_row := PySem.W.mg_of X G a_check_row,
    f_row_count := F_row_count,
    g_row_count := PySem.W.mg_of X G a_row_count,
    f_row_number := F_row_number,
    g_row_number := PySem.W.mg_of X G a_row_number,
    f_row_at := F_row_at,
    g_row_at := PySem.W.mg_of X G a_row_at,
    f__law_bag := F__law_bag,
    g__law_bag := PySem.W.mg_of X G a__law_bag,
    f__law_draw := F__law_draw,
    g__law_draw := PySem.W.mg_of X G a__law_draw,
    f__law_good := F__law_good,
    g__law_good := PySem.W.mg_of X G a__law_good,
    f__law_widths_told := F__law_widths_told,
    g__law_widths_told := PySem.W.mg_of X G a__law_widths_told,
    f__law_row_right := F__law_row_right,
    g__law_row_right := PySem.W.mg_of X G a__law_row_right,
    f__law_widths := F__law_widths,
    g__law_widths := PySem.W.mg_of X G a__law_widths,
    f__law_all := F__law_all,
    g__law_all := PySem.W.mg_of X G a__law_all,
    f__law_is := F__law_is,
    g__law_is := PySem.W.mg_of X G a__law_is,
    f__law_words_right := F__law_words_right,
    g__law_words_right := PySem.W.mg_of X G a__law_words_right,
    f_law := F_law,
    g_law := PySem.W.mg_of X G a_law,
    g_FetchError := PySem.W.mg_of X G a_FetchError,
    e_FetchError := exm_same bc_FetchError ic_FetchError tc_FetchError sc_FetchError,
    x_FetchError := e_FetchError,
    k_FetchError := kc_FetchError,
    s_FetchError := bc_FetchError,
    t_FetchError := tc_FetchError,
    g_BadWidths := PySem.W.mg_of X G a_BadWidths,
    e_BadWidths := exm_same bc_BadWidths ic_BadWidths tc_BadWidths sc_BadWidths,
    x_BadWidths := e_BadWidths,
    k_BadWidths := kc_BadWidths,
    s_BadWidths := bc_BadWidths,
    t_BadWidths := tc_BadWidths,
    g_BadRow := PySem.W.mg_of X G a_BadRow,
    e_BadRow := exm_same bc_BadRow ic_BadRow tc_BadRow sc_BadRow,
    o_BadRow := ⟨⟨_, _, _, _, _, _, _, _, _, _, _, _, _, _, _, xl_BadRow, xr_BadRow⟩, sa_BadRow, bc_BadRow, tc_BadRow, kc_BadRow⟩,
    i_BadRow := i_BadRow,
    ti_BadRow := ti_BadRow,
    xf_BadRow := ⟨ga_BadRow, gg_BadRow, bc_BadRow, hd_BadRow⟩,
    n_BadRow_row := n_BadRow_row }
  exact ⟨_, B, fun base _ _ => fnG_weak (ok_law T) (scr_of (M := md K AD) fun ns hl => ok_m_law hl)⟩
end K02
open PySem PySem.W PyProof.Rows
set_option maxRecDepth 100000 in
set_option maxHeartbeats 0 in
theorem PySem.Challenge.cw_fewfetches_k02_rows_by_their_numbers_holds : PySem.Challenge.rw_fewfetches_k02_rows_by_their_numbers.Holds := by
  w_on; o_law; k_head; (case hw => w_witness2)
  k_fill
  refine Co.walk_ofG (l := PySem.Challenge.rw_fewfetches_k02_rows_by_their_numbers) (n := 63) (k := 5) (x := "script") (sp := fun w => Fx.spScr _) rfl (by decide) rfl ⟨rfl, by decide, by decide⟩ (fun w h Y => PySem.W.kIn_of Y) ?F (fun w H a ns hl _ _ hs => ⟨a, ns, rfl, hs, hl, fun _ => rfl⟩)
  case F =>
    intro w mg fa h KX G hmg
    refine' K02.all_mk KX G hmg ?z_abs ?z_all ?z_bool ?z_int ?z_isinstance ?z_len ?z_list ?z_range ?z_repr ?z_reversed ?z_str ?z_tuple ?z_zip ?c_LETTERS ?c_LONGEST_NAME ?c_MOST_COLUMNS ?c_WIDEST ?c_MOST_ROWS ?l_BadRow___init__ ?k_BadRow___init__ ?x_BadRow___init__ ?a_is_whole ?l_is_whole ?k_is_whole ?x_is_whole ?d_is_whole ?a_is_name ?l_is_name ?k_is_name ?x_is_name ?a_is_sequence ?l_is_sequence ?k_is_sequence ?x_is_sequence ?d_is_sequence ?a_check_widths ?l_check_widths ?k_check_widths ?x_check_widths ?a_check_row ?l_check_row ?k_check_row ?x_check_row ?a_row_count ?l_row_count ?k_row_count ?x_row_count ?a_row_number ?l_row_number ?k_row_number ?x_row_number ?a_row_at ?l_row_at ?k_row_at ?x_row_at ?a__law_bag ?l__law_bag ?k__law_bag ?x__law_bag ?a__law_draw ?l__law_draw ?k__law_draw ?x__law_draw ?a__law_good ?l__law_good ?k__law_good ?x__law_good ?a__law_widths_told ?l__law_widths_told ?k__law_widths_told ?x__law_widths_told ?a__law_row_right ?l__law_row_right ?k__law_row_right ?x__law_row_right ?a__law_widths ?l__law_widths ?k__law_widths ?x__law_widths ?a__law_all ?l__law_all ?k__law_all ?x__law_all ?a__law_is ?l__law_is ?k__law_is ?x__law_is ?a__law_words_right ?l__law_words_right ?k__law_words_right ?x__law_words_right ?a_law ?l_law ?k_law ?x_law ?a_FetchError ?e_FetchError ?kc_FetchError ?bc_FetchError ?tc_FetchError ?ic_FetchError ?sc_FetchError ?a_BadWidths ?e_BadWidths ?kc_BadWidths ?bc_BadWidths ?tc_BadWidths ?ic_BadWidths ?sc_BadWidths ?a_BadRow ?xl_BadRow ?xr_BadRow ?sa_BadRow ?ga_BadRow ?gg_BadRow ?hd_BadRow ?i_BadRow ?ti_BadRow ?n_BadRow_row ?kc_BadRow ?bc_BadRow ?tc_BadRow ?ic_BadRow ?sc_BadRow
    (case z_abs => k_is)
    (case z_all => k_is)
    (case z_bool => k_is)
    (case z_int => k_is)
    (case z_isinstance => k_is)
    (case z_len => k_is)
    (case z_list => k_is)
    (case z_range => k_is)
    (case z_repr => k_is)
    (case z_reversed => k_is)
    (case z_str => k_is)
    (case z_tuple => k_is)
    (case z_zip => k_is)
    (case c_LETTERS => k_is)
    (case c_LONGEST_NAME => k_is)
    (case c_MOST_COLUMNS => k_is)
    (case c_WIDEST => k_is)
    (case c_MOST_ROWS => k_is)
    (case a_is_whole => k_is)
    (case a_is_name => k_is)
    (case a_is_sequence => k_is)
    (case a_check_widths => k_is)
    (case a_check_row => k_is)
    (case a_row_count => k_is)
    (case a_row_number => k_is)
    (case a_row_at => k_is)
    (case a__law_bag => k_is)
    (case a__law_draw => k_is)
    (case a__law_good => k_is)
    (case a__law_widths_told => k_is)
    (case a__law_row_right => k_is)
    (case a__law_widths => k_is)
    (case a__law_all => k_is)
    (case a__law_is => k_is)
    (case a__law_words_right => k_is)
    (case a_law => k_is)
    (case a_FetchError => k_is)
    (case a_BadWidths => k_is)
    (case a_BadRow => k_is)
    (case i_BadRow => k_is)
    (case l_BadRow___init__ => k_is)
    (case l_is_whole => k_is)
    (case l_is_name => k_is)
    (case l_is_sequence => k_is)
    (case l_check_widths => k_is)
    (case l_check_row => k_is)
    (case l_row_count => k_is)
    (case l_row_number => k_is)
    (case l_row_at => k_is)
    (case l__law_bag => k_is)
    (case l__law_draw => k_is)
    (case l__law_good => k_is)
    (case l__law_widths_told => k_is)
    (case l__law_row_right => k_is)
    (case l__law_widths => k_is)
    (case l__law_all => k_is)
    (case l__law_is => k_is)
    (case l__law_words_right => k_is)
    (case l_law => k_is)
    (case xl_BadRow => k_is)
    (case k_BadRow___init__ => k_is)
    (case x_BadRow___init__ => k_is)
    (case k_is_whole => k_is)
    (case x_is_whole => k_is)
    (case d_is_whole => k_is)
    (case k_is_name => k_is)
    (case x_is_name => k_is)
    (case k_is_sequence => k_is)
    (case x_is_sequence => k_is)
    (case d_is_sequence => k_is)
    (case k_check_widths => k_is)
    (case x_check_widths => k_is)
    (case k_check_row => k_is)
    (case x_check_row => k_is)
    (case k_row_count => k_is)
    (case x_row_count => k_is)
    (case k_row_number => k_is)
    (case x_row_number => k_is)
    (case k_row_at => k_is)
    (case x_row_at => k_is)
    (case k__law_bag => k_is)
    (case x__law_bag => k_is)
    (case k__law_draw => k_is)
    (case x__law_draw => k_is)
    (case k__law_good => k_is)
    (case x__law_good => k_is)
    (case k__law_widths_told => k_is)
    (case x__law_widths_told => k_is)
    (case k__law_row_right => k_is)
    (case x__law_row_right => k_is)
    (case k__law_widths => k_is)
    (case x__law_widths => k_is)
    (case k__law_all => k_is)
    (case x__law_all => k_is)
    (case k__law_is => k_is)
    (case x__law_is => k_is)
    (case k__law_words_right => k_is)
    (case x__law_words_right => k_is)
    (case k_law => k_is)
    (case x_law => k_is)
    (case e_FetchError => k_exc)
    (case kc_FetchError => k_is)
    (case bc_FetchError => k_is)
    (case tc_FetchError => k_is)
    (case ic_FetchError => k_is)
    (case sc_FetchError => first | rfl | k_is)
    (case e_BadWidths => k_exc)
    (case kc_BadWidths => k_is)
    (case bc_BadWidths => k_is)
    (case tc_BadWidths => k_is)
    (case ic_BadWidths => k_is)
    (case sc_BadWidths => first | rfl | k_is)
    (case xr_BadRow => decide +kernel)
    (case sa_BadRow => k_is)
    (case ga_BadRow => k_is)
    (case gg_BadRow => k_is)
    (case hd_BadRow => k_is)
    (case ti_BadRow => k_is)
    (case n_BadRow_row => k_is)
    (case kc_BadRow => k_is)
    (case bc_BadRow => k_is)
    (case tc_BadRow => k_is)
    (case ic_BadRow => k_is)
    (case sc_BadRow => first | rfl | k_is)

