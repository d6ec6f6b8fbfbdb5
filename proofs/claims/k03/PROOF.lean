import PyProof.Rows.All
import Wide.All
import OpenK.AllK
import Wide.FinOn
import HandS.ForMost
import HandS.ForExc
import HandS.EndBits
import HandS.Wide
import HandS.IsInst
import HandS.Defaults
import HandS.Deep
import HandS.Zip
import HandS.Rev
import HandS.TupAny
import HandS.Style
import HandS.Flow
import HandS.ExcInit
import HandS.Small
import HandS.Steps
import HandS.Conv
import KE.GoesNew
import KE.DatumIndex
import KE.GoesZip
import PyProof.ReprReads
import Flt.Len
import HandS.Evl
import HandS.ExcField
import HandS.ExcIs
import HandS.List
import KE.KExcIs
import HandS.ExcValue
import HandS.Head0
import HandS.Head1
import HandS.Head2
import HandS.HeadEnd
import HandS.HeadHook1
import HandS.HeadHook2
import PyProof.StrOps2
import HandS.Iter
import KE.IntTextLaws
import PySem.Challenge.RW_fewfetches_k03_data_texts_read_back
set_option Elab.async false
set_option linter.all false
set_option maxRecDepth 100000
set_option maxHeartbeats 4000000
set_option autoImplicit false
namespace Co
open PySem L2
abbrev D := PyData
/-! ### heaps that grow: a base B of things that never change, within the heap H -/
theorem seqT_up {K : PySem.W.Frag} {H H' : Hp} {a : Addr} {xs : List V} (e : Same H H') (h : SqT K H a xs) : SqT K H' a xs := by
  rcases h with (h | ⟨o, h⟩) | h
  · exact .inl (.inl (e _ _ h))
  · exact .inl (.inr ⟨o, e _ _ h⟩)
  · exact .inr h
mutual
theorem dp_up {K : PySem.W.Frag} {H H' : Hp} (e : Same H H') : ∀ (d : D) (v : V), Dp K H v d → Dp K H' v d
  | .none, _, h => by cases h; exact .non
  | .bool b, _, h => by cases h; exact .bl b
  | .int i, _, h => by cases h; exact .int i
  | .str x, _, h => by cases h; exact .str x
  | .list ds, _, h => by
    cases h with
    | lst hs ha => exact .lst (e.seq hs) (dps_up e ds _ ha)
  | .tuple ds, _, h => by
    cases h with
    | tup hs ha => exact .tup (seqT_up e hs) (dps_up e ds _ ha)
  | .dict _, _, h => by cases h
theorem dps_up {K : PySem.W.Frag} {H H' : Hp} (e : Same H H') : ∀ (ds : List D) (vs : List V), DpAll K H vs ds → DpAll K H' vs ds
  | [], _, h => by cases h; exact .nil
  | d :: ds, _, h => by
    cases h with
    | cons h1 h2 => exact .cons (dp_up e d _ h1) (dps_up e ds _ h2)
end
/-- from base B and heap H to B' and H': what is new in the base is new in the heap; nothing of the heap changes but at M -/
structure Gm (M : Addr → Prop) (B H B' H' : Hp) : Prop where
  b : Same B B'
  i : Same B' H'
  r : ∀ a o, ¬ M a → H a = some o → H' a = some o
  f : ∀ a, B a = none → H a ≠ none → B' a = none
abbrev M0 : Addr → Prop := fun _ => False
abbrev Gw (B H B' H' : Hp) : Prop := Gm M0 B H B' H'
theorem Gm.same {B H B' H' : Hp} (g : Gw B H B' H') : Same H H' := fun a o h => g.r a o (fun z => z) h
theorem Gm.refl {M : Addr → Prop} {B H : Hp} (e : Same B H) : Gm M B H B H := ⟨Same.refl _, e, fun _ _ _ h => h, fun _ h _ => h⟩
theorem Gm.trans {M : Addr → Prop} {B H B1 H1 B2 H2 : Hp} (g : Gm M B H B1 H1) (h : Gm M B1 H1 B2 H2) (st : ∀ a, M a → H a ≠ none → H1 a ≠ none) : Gm M B H B2 H2 :=
  ⟨g.b.trans h.b, h.i, fun a o n q => h.r a o n (g.r a o n q), fun a q n => by
    refine h.f a (g.f a q n) ?_
    by_cases m : M a
    · exact st a m n
    · cases e : H a with
      | none => exact absurd e n
      | some o =>
        rw [g.r a o m e]
        intro z; cases z⟩
theorem Gm.weak {M M' : Addr → Prop} {B H B' H' : Hp} (g : Gm M B H B' H') (h : ∀ a, M a → M' a) : Gm M' B H B' H' := ⟨g.b, g.i, fun a o n q => g.r a o (fun z => n (h a z)) q, g.f⟩
theorem Gw.trans {B H B1 H1 B2 H2 : Hp} (g : Gw B H B1 H1) (h : Gw B1 H1 B2 H2) : Gw B H B2 H2 := Gm.trans g h fun _ m => m.elim
/-- a new object of the base -/
theorem Gw.new {B H : Hp} {p : Addr} {o : HO} (e : Same B H) (h : H p = none) : Gw B H (upd B p o) (upd H p o) where
  b := fun a u q => by rw [upd_ne (ne_of_none (e a u q) h)]; exact q
  i := fun a u q => by
    by_cases z : a = p
    · subst z; rw [upd_same] at q ⊢; exact q
    · rw [upd_ne z] at q ⊢; exact e a u q
  r := fun a u _ q => by rw [upd_ne (ne_of_none q h)]; exact q
  f := fun a q n => by
    have z : a ≠ p := fun z => n (by rw [z]; exact h)
    rw [upd_ne z]; exact q
/-- a new object that is not of the base -/
theorem Gw.own {B H : Hp} {p : Addr} {o : HO} (e : Same B H) (h : H p = none) : Gw B H B (upd H p o) where
  b := Same.refl _
  i := fun a u q => by rw [upd_ne (ne_of_none (e a u q) h)]; exact e a u q
  r := fun a u _ q => by rw [upd_ne (ne_of_none q h)]; exact q
  f := fun a q n => q
theorem base_none {B H : Hp} {p : Addr} (e : Same B H) (h : H p = none) : B p = none := by
  cases q : B p with
  | none => rfl
  | some o => rw [e p o q] at h; cases h
/-- an object that is not of the base changes -/
theorem Gm.mut {B H : Hp} {p : Addr} {o : HO} (e : Same B H) (h : B p = none) : Gm (· = p) B H B (upd H p o) where
  b := Same.refl _
  i := fun a u q => by rw [upd_ne (ne_of_none q h)]; exact e a u q
  r := fun a u n q => by rw [upd_ne n]; exact q
  f := fun a q n => q
def join (B B' : Hp) : Hp := fun a => match B a with
  | some o => some o
  | none => B' a
theorem join_l {B B' : Hp} {a : Addr} {o : HO} (h : B a = some o) : join B B' a = some o := by unfold join; rw [h]
theorem join_r {B B' : Hp} {a : Addr} (h : B a = none) : join B B' a = B' a := by unfold join; rw [h]
/-- a greater base -/
theorem Gm.widen {B H B' H' B1 : Hp} (g : Gw B H B' H') (e1 : Same B B1) (e2 : Same B1 H) : Gw B1 H (join B1 B') H' ∧ Same B' (join B1 B') := by
  have k : Same B' (join B1 B') := fun a o q => by
    cases z : B1 a with
    | none => rw [join_r z]; exact q
    | some u =>
      rw [join_l z]
      have h1 := g.same a u (e2 a u z)
      rw [g.i a o q] at h1
      exact h1.symm
  refine ⟨⟨fun a o q => join_l q, fun a o q => ?_, g.r, fun a q n => ?_⟩, k⟩
  · cases z : B1 a with
    | none => rw [join_r z] at q; exact g.i a o q
    | some u =>
      rw [join_l z] at q
      cases q
      exact g.same a _ (e2 a _ z)
  · rw [join_r q]
    refine g.f a ?_ n
    cases z : B a with
    | none => rfl
    | some o => rw [e1 a o z] at q; cases q
/-! ### what evaluates to which data -/
section
variable {K : PySem.W.Frag}
def DE (K : PySem.W.Frag) (te : TE) (σ : St) (B : Hp) (d : D) : Prop := ∀ H, Same B H → ∀ Q : VK, (∀ v B' H', Gw B H B' H' → Dp K B' v d → Q v H') → te σ H Q
def DA (K : PySem.W.Frag) (ta : TA) (σ : St) (B : Hp) (ds : List D) : Prop := ∀ H, Same B H → ∀ Q : List V → Hp → Prop, (∀ vs B' H', Gw B H B' H' → DpAll K B' vs ds → Q vs H') → ta σ H Q
def DT (tt : TT) (σ : St) (B : Hp) (b : Bool) : Prop := ∀ H, Same B H → ∀ Q : Bool → Hp → Prop, (∀ B' H', Gw B H B' H' → Q b H') → tt σ H Q
def DO (to : TO) (σ : St) (B : Hp) (o : Option Int) : Prop := ∀ H, Same B H → ∀ Q : Option Int → Hp → Prop, (∀ B' H', Gw B H B' H' → Q o H') → to σ H Q
def RD (K : PySem.W.Frag) (r : R2) (x y d : D) : Prop := ∀ B H u v, Same B H → Dp K B u x → Dp K B v y → ∀ Q : VK, (∀ w B' H', Gw B H B' H' → Dp K B' w d → Q w H') → r u v H Q
def CD (K : PySem.W.Frag) (r : List V → Hp → VK → Prop) (ds : List D) (d : D) : Prop := ∀ B H vs, Same B H → DpAll K B vs ds → ∀ Q : VK, (∀ w B' H', Gw B H B' H' → Dp K B' w d → Q w H') → r vs H Q
def SD (K : PySem.W.Frag) (r : V → Option Int → Option Int → Hp → VK → Prop) (x : D) (l u : Option Int) (d : D) : Prop := ∀ B H v, Same B H → Dp K B v x → ∀ Q : VK, (∀ w B' H', Gw B H B' H' → Dp K B' w d → Q w H') → r v l u H Q
/-- a def whose answer is such data -/
def PD (K : PySem.W.Frag) (sp : Sp) (ds : List D) (d : D) : Prop := ∀ B H vs, Same B H → DpAll K B vs ds → ∀ (Q : VK) (E : XK), (∀ w B' H', Gw B H B' H' → Dp K B' w d → Q w H') → sp vs H Q E
variable {σ : St} {B B1 H : Hp} {d d1 d2 x y : D} {te ta tb : TE} {tt uu : TT}
theorem DE.up (h : DE K te σ B d) (e : Same B B1) : DE K te σ B1 d := fun H e1 Q q => h H (e.trans e1) Q fun v B' H' g r => by
  obtain ⟨g', k⟩ := g.widen e e1
  exact q v _ H' g' (dp_up k _ _ r)
theorem DA.up {ta : TA} {ds : List D} (h : DA K ta σ B ds) (e : Same B B1) : DA K ta σ B1 ds := fun H e1 Q q => h H (e.trans e1) Q fun v B' H' g r => by
  obtain ⟨g', k⟩ := g.widen e e1
  exact q v _ H' g' (dps_up k _ _ r)
theorem DT.up {b : Bool} (h : DT tt σ B b) (e : Same B B1) : DT tt σ B1 b := fun H e1 Q q => h H (e.trans e1) Q fun B' H' g => by
  obtain ⟨g', k⟩ := g.widen e e1
  exact q _ H' g'
theorem de_is (h : DE K te σ B d) (e : d = d1) : DE K te σ B d1 := e ▸ h
theorem dt_is {a b : Bool} (h : DT tt σ B a) (e : a = b) : DT tt σ B b := e ▸ h
theorem de_var {i : Nat} {v : V} (h : σ[i]? = some (some v)) (r : Dp K B v d) : DE K (tVar i) σ B d := fun H e _ q => ⟨v, h, q v B H (.refl e) r⟩
theorem de_c {v : V} (r : ∀ B, Dp K B v d) : DE K (tC v) σ B d := fun H e _ q => q v B H (.refl e) (r B)
theorem de_int {i : Int} : DE K (tC (.int i)) σ B (.int i) := de_c fun _ => .int i
theorem de_bl {i : Bool} : DE K (tC (.bl i)) σ B (.bool i) := de_c fun _ => .bl i
theorem de_str {i : Str} : DE K (tC (.str i)) σ B (.str i) := de_c fun _ => .str i
theorem de_non : DE K (tC .non) σ B .none := de_c fun _ => .non
theorem de_op {r : R2} (ha : DE K ta σ B x) (hb : DE K tb σ B y) (hr : RD K r x y d) : DE K (tOp r ta tb) σ B d := fun H e Q q =>
  ha H e _ fun u B1 H1 g1 r1 => hb.up g1.b H1 g1.i _ fun v B2 H2 g2 r2 => hr B2 H2 u v g2.i (dp_up g2.b _ _ r1) r2 Q fun w B3 H3 g3 r3 => q w B3 H3 ((g1.trans g2).trans g3) r3
theorem da_nil : DA K tNil σ B [] := fun H e _ q => q [] B H (.refl e) .nil
theorem da_cons {tr : TA} {ds : List D} (h : DE K te σ B d) (hr : DA K tr σ B ds) : DA K (tCons te tr) σ B (d :: ds) := fun H e Q q =>
  h H e _ fun u B1 H1 g1 r1 => hr.up g1.b H1 g1.i _ fun vs B2 H2 g2 r2 => q _ B2 H2 (g1.trans g2) (.cons (dp_up g2.b _ _ r1) r2)
theorem dpall_len {vs : List V} : ∀ {ds : List D}, DpAll K B vs ds → vs.length = ds.length := by
  induction vs with
  | nil => intro ds h; cases h; rfl
  | cons v vs ih => intro ds h; cases h with | cons h1 h2 => rw [List.length_cons, List.length_cons, ih h2]
theorem de_tup {t : TA} {ds : List D} (h : DA K t σ B ds) (hl : ds.length ≤ 100000) : DE K (tTup t) σ B (.tuple ds) := fun H e Q q =>
  h H e _ fun vs B1 H1 g1 r1 => ⟨Nat.le_trans (by rw [dpall_len r1]; exact hl) (by decide), fun p hp => q _ (upd B1 p (.tup vs)) _ (g1.trans (Gw.new g1.i hp)) (.tup (.inl (.inl upd_same)) (dps_up (Gw.new g1.i hp).b _ _ r1))⟩
theorem de_lst {t : TA} {ds : List D} (h : DA K t σ B ds) (hl : ds.length ≤ 100000) : DE K (tLst t) σ B (.list ds) := fun H e Q q =>
  h H e _ fun vs B1 H1 g1 r1 => ⟨Nat.le_trans (by rw [dpall_len r1]; exact hl) (by decide), fun p hp => q _ (upd B1 p (.lst vs)) _ (g1.trans (Gw.new g1.i hp)) (.lst (.inl (.inl upd_same)) (dps_up (Gw.new g1.i hp).b _ _ r1))⟩
theorem de_cb {r : List V → Hp → VK → Prop} {t : TA} {ds : List D} (h : DA K t σ B ds) (hr : CD K r ds d) : DE K (tCB r t) σ B d := fun H e Q q =>
  h H e _ fun vs B1 H1 g1 r1 => hr B1 H1 vs g1.i r1 Q fun w B2 H2 g2 r2 => q w B2 H2 (g1.trans g2) r2
theorem dpall_app {vs ws : List V} {ds es : List D} (h : DpAll K B vs ds) (k : DpAll K B ws es) : DpAll K B (vs ++ ws) (ds ++ es) := by
  induction vs generalizing ds with
  | nil => cases h; exact k
  | cons v vs ih => cases h with | cons h1 h2 => exact .cons h1 (ih h2)
theorem de_call {sp : Sp} {dvs : List V} {E : XK} {t : TA} {ds es : List D} (h : DA K t σ B ds) (hd : ∀ B, DpAll K B dvs es) (hs : PD K sp (ds ++ es) d) : DE K (tCall sp dvs E t) σ B d := fun H e Q q =>
  h H e _ fun vs B1 H1 g1 r1 => hs B1 H1 _ g1.i (dpall_app r1 (hd _)) Q E fun w B2 H2 g2 r2 => q w B2 H2 (g1.trans g2) r2
theorem de_andV {a b : Bool} (h1 : DE K ta σ B (.bool a)) (h2 : a = true → DE K tb σ B (.bool b)) : DE K (tAndV ta tb) σ B (.bool (a && b)) := fun H e Q q => h1 H e _ fun u B1 H1 g1 r1 => by
  cases r1
  refine ⟨a, rfl, ?_⟩
  cases a with
  | true => exact iteT ((h2 rfl).up g1.b H1 g1.i _ fun w B2 H2 g2 r2 => q w B2 H2 (g1.trans g2) r2)
  | false => exact iteF (q _ B1 H1 g1 (.bl false))
theorem de_orV {a b : Bool} (h1 : DE K ta σ B (.bool a)) (h2 : a = false → DE K tb σ B (.bool b)) : DE K (tOrV ta tb) σ B (.bool (a || b)) := fun H e Q q => h1 H e _ fun u B1 H1 g1 r1 => by
  cases r1
  refine ⟨a, rfl, ?_⟩
  cases a with
  | true => exact iteT (q _ B1 H1 g1 (.bl true))
  | false => exact iteF ((h2 rfl).up g1.b H1 g1.i _ fun w B2 H2 g2 r2 => q w B2 H2 (g1.trans g2) r2)
theorem de_notV {a : Bool} (h1 : DE K ta σ B (.bool a)) : DE K (tNotV ta) σ B (.bool (!a)) := fun H e Q q => h1 H e _ fun u B1 H1 g1 r1 => by
  cases r1
  exact ⟨a, rfl, q _ B1 H1 g1 (.bl _)⟩
theorem de_if {b : Bool} (h : DT tt σ B b) (h1 : b = true → DE K ta σ B d) (h2 : b = false → DE K tb σ B d) : DE K (tIf tt ta tb) σ B d := fun H e Q q => h H e _ fun B1 H1 g1 => by
  cases b with
  | true => exact iteT ((h1 rfl).up g1.b H1 g1.i _ fun w B2 H2 g2 r2 => q w B2 H2 (g1.trans g2) r2)
  | false => exact iteF ((h2 rfl).up g1.b H1 g1.i _ fun w B2 H2 g2 r2 => q w B2 H2 (g1.trans g2) r2)
theorem de_ifb {b : Bool} {e1 e2 : D} (h : DT tt σ B b) (h1 : b = true → DE K ta σ B e1) (h2 : b = false → DE K tb σ B e2) : DE K (tIf tt ta tb) σ B (if b = true then e1 else e2) := by
  refine de_if h (fun q => ?_) fun q => ?_
  · subst q; exact h1 rfl
  · subst q; exact h2 rfl
/-! tests -/
theorem dt_test {b : Bool} (h : DE K te σ B (.bool b)) : DT (tTest te) σ B b := fun H e _ q => h H e _ fun u B1 H1 g1 r1 => by
  cases r1; exact ⟨b, rfl, q B1 H1 g1⟩
theorem dt_B {b : Bool} (h : DE K te σ B (.bool b)) : DT (tB te) σ B b := fun H e _ q => h H e _ fun u B1 H1 g1 r1 => by
  cases r1; exact ⟨b, rfl, q B1 H1 g1⟩
theorem dt_and {a b : Bool} (h1 : DT tt σ B a) (h2 : a = true → DT uu σ B b) : DT (tAnd tt uu) σ B (a && b) := fun H e Q q => h1 H e _ fun B1 H1 g1 => by
  cases a with
  | true => exact iteT ((h2 rfl).up g1.b H1 g1.i _ fun B2 H2 g2 => q B2 H2 (g1.trans g2))
  | false => exact iteF (q B1 H1 g1)
theorem dt_or {a b : Bool} (h1 : DT tt σ B a) (h2 : a = false → DT uu σ B b) : DT (tOr tt uu) σ B (a || b) := fun H e Q q => h1 H e _ fun B1 H1 g1 => by
  cases a with
  | true => exact iteT (q B1 H1 g1)
  | false => exact iteF ((h2 rfl).up g1.b H1 g1.i _ fun B2 H2 g2 => q B2 H2 (g1.trans g2))
theorem dt_not {a : Bool} (h1 : DT tt σ B a) : DT (tNot tt) σ B (!a) := fun H e Q q => h1 H e _ fun B1 H1 g1 => q B1 H1 g1
theorem de_chain {r r' : R2} {tc : TE} {z : D} {a b : Bool} (ha : DE K ta σ B x) (hb : DE K tb σ B y) (hr : RD K r x y (.bool a)) (hc : a = true → DE K tc σ B z) (hr' : a = true → RD K r' y z (.bool b)) : DE K (tChain r r' ta tb tc) σ B (.bool (a && b)) := fun H e Q q =>
  ha H e _ fun u B1 H1 g1 r1 => hb.up g1.b H1 g1.i _ fun v B2 H2 g2 r2 => hr B2 H2 u v g2.i (dp_up g2.b _ _ r1) r2 _ fun w B3 H3 g3 r3 => by
    cases r3
    refine ⟨a, rfl, ?_⟩
    have g13 := (g1.trans g2).trans g3
    cases a with
    | true => exact iteT ((hc rfl).up g13.b H3 g13.i _ fun w B4 H4 g4 r4 => hr' rfl B4 H4 v w g4.i (dp_up (g3.b.trans g4.b) _ _ r2) r4 Q fun w' B5 H5 g5 r5 => q w' B5 H5 ((g13.trans g4).trans g5) r5)
    | false => exact iteF (q _ B3 H3 g13 (.bl false))
/-! ### operators on data -/
theorem rd_I0 {g : Int → Int → V} {i j : Int} (h : ∀ B, Dp K B (g i j) d) : RD K (rI0 g) (.int i) (.int j) d := fun B H u v e hu hv Q q => by
  cases hu; cases hv
  exact ⟨i, j, rfl, rfl, q _ B H (.refl e) (h B)⟩
theorem rd_I {C : Int → Int → Prop} {g : Int → Int → V} {i j : Int} (hc : C i j) (h : ∀ B, Dp K B (g i j) d) : RD K (rI C g) (.int i) (.int j) d := fun B H u v e hu hv Q q => by
  cases hu; cases hv
  exact ⟨i, j, rfl, rfl, hc, q _ B H (.refl e) (h B)⟩
def rAddA (K : PySem.W.Frag) : R2 := fun x y H Q => rI0 (fun i j => .int (i + j)) x y H Q ∨ (∃ i j, x = .str i ∧ y = .str j ∧ i.length + j.length ≤ sizeLine ∧ Q (.str (i ++ j)) H) ∨ rCat x y H Q ∨ rCatA K x y H Q
theorem op_addA {X : Cx} : OpR X (binaryOp .Add) (rAddA X.K) := OpR.or op_add (OpR.or op_add_str (OpR.or op_cat op_catA))
theorem rd_addI {i j : Int} : RD K (rAddA K) (.int i) (.int j) (.int (i + j)) := fun B H u v e hu hv Q q => .inl (rd_I0 (fun _ => .int _) B H u v e hu hv Q q)
theorem rd_addS {i j : Str} (h : i.length + j.length ≤ 100000) : RD K (rAddA K) (.str i) (.str j) (.str (i ++ j)) := fun B H u v e hu hv Q q => by
  cases hu; cases hv
  exact .inr (.inl ⟨i, j, rfl, rfl, Nat.le_trans h (by decide), q _ B H (.refl e) (.str _)⟩)
theorem rd_addT {xs ys : List D} (h : xs.length + ys.length ≤ 100000) : RD K (rAddA K) (.tuple xs) (.tuple ys) (.tuple (xs ++ ys)) := fun B H u v e hu hv Q q => by
  cases hu with
  | tup hs ha =>
    cases hv with
    | tup hs' ha' =>
      rename_i a us b vs
      have l1 := dpall_len ha
      have l2 := dpall_len ha'
      refine .inr (.inr (.inr ⟨a, b, us, vs, rfl, rfl, seqT_up e hs, seqT_up e hs', by rw [l1, l2]; exact Nat.le_trans h (by decide), fun z => ?_, fun n z => ?_, fun n1 n2 p hp => ?_⟩))
      · subst z
        cases ha
        exact q _ B H (.refl e) (.tup hs' ha')
      · subst z
        cases ha'
        rw [List.append_nil] at q
        exact q _ B H (.refl e) (.tup hs ha)
      · exact q _ (upd B p _) _ (Gw.new e hp) (.tup (.inl (.inl upd_same)) (dps_up (Gw.new e hp).b _ _ (dpall_app ha ha')))
theorem rd_sub {i j : Int} : RD K (rI0 fun i j => .int (i - j)) (.int i) (.int j) (.int (i - j)) := rd_I0 fun _ => .int _
theorem rd_lt {i j : Int} : RD K (rI0 fun i j => .bl (decide (i < j))) (.int i) (.int j) (.bool (decide (i < j))) := rd_I0 fun _ => .bl _
theorem rd_le {i j : Int} : RD K (rI0 fun i j => .bl (decide (i ≤ j))) (.int i) (.int j) (.bool (decide (i ≤ j))) := rd_I0 fun _ => .bl _
theorem rd_gt {i j : Int} : RD K (rI0 fun i j => .bl (decide (j < i))) (.int i) (.int j) (.bool (decide (j < i))) := rd_I0 fun _ => .bl _
theorem rd_ge {i j : Int} : RD K (rI0 fun i j => .bl (decide (j ≤ i))) (.int i) (.int j) (.bool (decide (j ≤ i))) := rd_I0 fun _ => .bl _
theorem rd_mul {i j : Int} (h : (-(2 ^ 64) < i ∧ i < 2 ^ 64) ∨ (-(2 ^ 64) < j ∧ j < 2 ^ 64)) : RD K (rI CMul fun i j => .int (i * j)) (.int i) (.int j) (.int (i * j)) := rd_I h fun _ => .int _
theorem rd_mod {i j : Int} (h : 0 < j) : RD K (rI (fun _ j => 0 < j) fun i j => .int (i % j)) (.int i) (.int j) (.int (i % j)) := rd_I h fun _ => .int _
theorem rd_div {i j : Int} (h : 0 < j) (h2 : j.natAbs.log2 < 9000) : RD K (rI CDivW fun i j => .int (i / j)) (.int i) (.int j) (.int (i / j)) := rd_I ⟨h, h2⟩ fun _ => .int _
theorem rd_eqD (h1 : SeqAt.shaped x = true) (h2 : SeqAt.shaped y = true) : RD K (rEqD K) x y (.bool (PyData.eqv x y)) := fun B H u v e hu hv Q q => ⟨x, y, dp_up e _ _ hu, dp_up e _ _ hv, h1, h2, q _ B H (.refl e) (.bl _)⟩
theorem rd_neD (h1 : SeqAt.shaped x = true) (h2 : SeqAt.shaped y = true) : RD K (rNeD K) x y (.bool (!PyData.eqv x y)) := fun B H u v e hu hv Q q => ⟨x, y, dp_up e _ _ hu, dp_up e _ _ hv, h1, h2, q _ B H (.refl e) (.bl _)⟩
def isNone : D → Bool
  | .none => true
  | _ => false
theorem dec_non {B : Hp} {v : V} (h : Dp K B v x) : decide (v = V.non) = isNone x := by
  cases h <;> first | rfl | exact decide_eq_false (fun z => nomatch z)
theorem rd_isN : RD K rIsN x .none (.bool (isNone x)) := fun B H u v e hu hv Q q => by
  cases hv
  refine ⟨rfl, ?_⟩
  rw [dec_non hu]
  exact q _ B H (.refl e) (.bl _)
theorem rd_notN : RD K rNotN x .none (.bool (!isNone x)) := fun B H u v e hu hv Q q => by
  cases hv
  refine ⟨rfl, ?_⟩
  rw [dec_non hu]
  exact q _ B H (.refl e) (.bl _)
end
end Co
namespace Co
open PySem PyProof.Rows L2
/-! ### for x in a list or a tuple -/
def iSeq (K : PySem.W.Frag) (te : TE) : TI := fun σ H R => te σ H fun v H1 => ∃ a xs, v = .ref a ∧ ((SqL K H1 a xs ∧ R (Itl K a) H1) ∨ (SqT K H1 a xs ∧ R (Itt K a) H1))
theorem pi_seq {X : Cx} {tg l : Expr} {tl : TE} (hl : PE X l tl) : PI X tg l (iSeq X.K tl) := by
  refine ⟨fun pins s σ H R I h => ?_⟩
  refine thn (hl.run pins s σ H _ I h) fun v s1 ⟨x, H1, I1, r1, a, xs, e, q⟩ => ?_
  subst e
  cases r1
  have fr : ∀ c ∈ [s1.heap.objs.size], FpOk X pins H1 c := fun c hc => by
    rw [List.mem_singleton.mp hc]
    exact I1.fpOk (Nat.le_refl _) (I1.hok.fresh (Nat.le_refl _))
  rcases q with ⟨hq, q⟩ | ⟨hq, q⟩
  · obtain ⟨its, rv, p, _⟩ := I1.list hq
    exact wpAny_pyIter_list p.isList ⟨s1.heap.objs.size, [s1.heap.objs.size], _, _, H1, rfl, I1.kept (t' := s1.toks) fun b o e => Heap.get?_push_of_some _ e, turn_list a _, ⟨_, Heap.get?_push_size _ rfl, rfl, rfl⟩, fr, q⟩
  · obtain ⟨its, rv, p, _⟩ := I1.tuple hq
    exact wpAny_pyIter_tuple (show s1.heap.IsTuple a its.toArray from p) ⟨s1.heap.objs.size, [s1.heap.objs.size], _, _, H1, rfl, I1.kept (t' := s1.toks) fun b o e => Heap.get?_push_of_some _ e, turn_tuple a _, ⟨_, Heap.get?_push_size _ rfl, rfl, rfl⟩, fr, q⟩
inductive SeqD : D → List D → Prop
  | l (ds : List D) : SeqD (.list ds) ds
  | t (ds : List D) : SeqD (.tuple ds) ds
section
variable {K : PySem.W.Frag} {σ : L2.St} {B B1 H : Hp} {d d1 d2 x y : D} {te ta tb tc : TE} {tt uu : TT}
/-! ### isinstance -/
def tyName : D → String
  | .none => "NoneType"
  | .bool _ => "bool"
  | .int _ => "int"
  | .str _ => "str"
  | .list _ => "list"
  | .tuple _ => "tuple"
  | .dict _ => "dict"
theorem tyx_of {v : V} (h : Dp K H v x) : TyX K H v (.type (tyName x)) := by
  cases h with
  | non => exact .base .non
  | bl b => exact .base (.bl b)
  | int i => exact .base (.int i)
  | str i => exact .base (.str i)
  | lst h _ =>
    rcases h with (h | ⟨o, h⟩) | ⟨o, its, n, hk, hc, _⟩
    · exact .base (.lst h)
    · exact .base (.frz h)
    · exact .kList hk hc
  | tup h _ =>
    rcases h with (h | ⟨o, h⟩) | ⟨o, its, n, hk, hc, _⟩
    · exact .base (.tup h)
    · exact .fTuple h
    · exact .kTuple hk hc
inductive Ty where
  | int | bool | str | list | tuple
def Ty.nm : Ty → String
  | .int => "int"
  | .bool => "bool"
  | .str => "str"
  | .list => "list"
  | .tuple => "tuple"
def isA : D → Ty → Bool
  | .int _, .int => true
  | .bool _, .int => true
  | .bool _, .bool => true
  | .str _, .str => true
  | .list _, .list => true
  | .tuple _, .tuple => true
  | _, _ => false
theorem kit_isA (k : Ty) : kitB (tyName x) k.nm = some (isA x k) := by
  cases k <;> cases x <;> (show kitB _ _ = _) <;> (simp only [tyName, Ty.nm, isA]) <;> decide +kernel
theorem de_isi (n : Ty) (ha : DE K ta σ B x) : DE K (tCB (rIsi K) (tCons ta (tCons (tC (.ty n.nm)) tNil))) σ B (.bool (isA x n)) := fun H e Q q =>
  ha H e _ fun u B1 H1 g1 r1 => ⟨u, .ty n.nm, .type (tyName x), .type n.nm, isA x n, rfl, .ty n.nm, tyx_of (dp_up g1.i _ _ r1), kit_ty (kit_isA n), q _ B1 H1 g1 (.bl _)⟩
theorem de_isiT (n m : Ty) (ha : DE K ta σ B x) : DE K (tCB (rIsiT K) (tCons ta (tCons (tTup (tCons (tC (.ty n.nm)) (tCons (tC (.ty m.nm)) tNil))) tNil))) σ B (.bool (isA x n || isA x m)) := fun H e Q q =>
  ha H e _ fun u B1 H1 g1 r1 => ⟨by show 2 ≤ sizeLine; decide, fun p hp => by
    have g2 : Gw B1 H1 (upd B1 p (.tup [.ty n.nm, .ty m.nm])) (upd H1 p (.tup [.ty n.nm, .ty m.nm])) := Gw.new g1.i hp
    refine ⟨u, p, _, .type (tyName x), [.type n.nm, .type m.nm], isA x n || isA x m, rfl, upd_same, .cons (.ty n.nm) (.cons (.ty m.nm) .nil), tyx_of (dp_up (g1.i.trans g2.same) _ _ r1), ?_, q _ _ _ (g1.trans g2) (.bl _)⟩
    refine kitAny_cons (kit_ty (kit_isA n)) (fun z => ?_) (fun z => by rw [z]; rfl)
    rw [z]
    refine kitAny_cons (kit_ty (kit_isA m)) (fun z' => ?_) (fun z' => by rw [z']; rfl)
    rw [z']
    exact kitAny_nil⟩
/-! ### subscripts, slices -/
theorem dpall_get {vs : List V} : ∀ {ds : List D} {i : Nat} {d : D}, DpAll K B vs ds → ds[i]? = some d → ∃ v, vs[i]? = some v ∧ Dp K B v d := by
  induction vs with
  | nil => intro ds i d h e; cases h; simp at e
  | cons v vs ih =>
    intro ds i d h e
    cases h with
    | cons h1 h2 =>
      cases i with
      | zero => simp at e; subst e; exact ⟨v, by simp, h1⟩
      | succ i => obtain ⟨w, a, b⟩ := ih (i := i) h2 (by simpa using e); exact ⟨w, by simpa using a, b⟩
theorem dpall_mk {vs : List V} : ∀ {ds : List D}, vs.length = ds.length → (∀ (i : Nat) (v : V) (d : D), vs[i]? = some v → ds[i]? = some d → Dp K B v d) → DpAll K B vs ds := by
  induction vs with
  | nil => intro ds h _; cases ds with
    | nil => exact .nil
    | cons => simp at h
  | cons v vs ih => intro ds h k; cases ds with
    | nil => simp at h
    | cons d ds => exact .cons (k 0 v d (by simp) (by simp)) (ih (by simpa using h) fun i v d a b => k (i + 1) v d (by simpa using a) (by simpa using b))
theorem dpall_take {vs : List V} : ∀ {ds : List D} (n : Nat), DpAll K B vs ds → DpAll K B (vs.take n) (ds.take n) := by
  induction vs with
  | nil => intro ds n h; cases h; simp; exact .nil
  | cons v vs ih => intro ds n h; cases h with
    | cons h1 h2 => cases n with
      | zero => exact .nil
      | succ n => exact .cons h1 (ih n h2)
theorem dpall_drop {vs : List V} : ∀ {ds : List D} (n : Nat), DpAll K B vs ds → DpAll K B (vs.drop n) (ds.drop n) := by
  induction vs with
  | nil => intro ds n h; cases h; simp; exact .nil
  | cons v vs ih => intro ds n h; cases n with
    | zero => exact h
    | succ n => cases h with | cons h1 h2 => exact ih n h2
theorem atI_get {α : Type} {xs : List α} {i : Int} {v : α} (h0 : 0 ≤ i) (h : xs[i.toNat]? = some v) : atI xs i = some v := by
  have e := atI_nat h
  have z : ((i.toNat : Nat) : Int) = i := Int.toNat_of_nonneg h0
  rw [z] at e
  exact e
theorem rd_ixL {xs : List D} {i : Int} (h0 : 0 ≤ i) (h : xs[i.toNat]? = some d) : RD K (rIx K) (.list xs) (.int i) d := fun B H u v e hu hv Q q => by
  cases hv
  cases hu with
  | lst hs ha =>
    obtain ⟨w, e1, r⟩ := dpall_get ha h
    exact .inl ⟨_, _, i, w, rfl, rfl, e.seq hs, atI_get h0 e1, q w B H (.refl e) r⟩
theorem rd_ixT {xs : List D} {i : Int} (h0 : 0 ≤ i) (h : xs[i.toNat]? = some d) : RD K (rIx K) (.tuple xs) (.int i) d := fun B H u v e hu hv Q q => by
  cases hv
  cases hu with
  | tup hs ha =>
    obtain ⟨w, e1, r⟩ := dpall_get ha h
    exact .inr (.inl ⟨_, _, i, w, rfl, rfl, seqT_up e hs, atI_get h0 e1, q w B H (.refl e) r⟩)
theorem rd_ixS {z : Str} {i : Int} {c : Nat} (hz : z.length ≤ 100000) (h : atI z.cps.toList i = some c) : RD K (rIx K) (.str z) (.int i) (.str ⟨#[c]⟩) := fun B H u v e hu hv Q q => by
  cases hv; cases hu
  exact .inr (.inr ⟨z, i, c, rfl, rfl, Nat.le_trans hz (by decide), h, q _ B H (.refl e) (.str _)⟩)
theorem do_none : DO tNoPart σ B none := fun H e _ q => q B H (.refl e)
theorem do_some {i : Int} (h : DE K te σ B (.int i)) : DO (tPart te) σ B (some i) := fun H e _ q => h H e _ fun u B1 H1 g1 r1 => by
  cases r1; exact ⟨i, rfl, q B1 H1 g1⟩
theorem DO.up {to : TO} {o : Option Int} (h : DO to σ B o) (e : Same B B1) : DO to σ B1 o := fun H e1 Q q => h H (e.trans e1) Q fun B' H' g => by
  obtain ⟨g', k⟩ := g.widen e e1
  exact q _ H' g'
theorem de_sl {r : V → Option Int → Option Int → Hp → VK → Prop} {tl th : TO} {l u : Option Int} (ha : DE K ta σ B x) (hl : DO tl σ B l) (hu : DO th σ B u) (hr : SD K r x l u d) : DE K (tSl r ta tl th) σ B d := fun H e Q q =>
  ha H e _ fun v B1 H1 g1 r1 => hl.up g1.b H1 g1.i _ fun B2 H2 g2 => hu.up (g1.b.trans g2.b) H2 g2.i _ fun B3 H3 g3 => hr B3 H3 v g3.i (dp_up (g2.b.trans g3.b) _ _ r1) Q fun w B4 H4 g4 r4 => q w B4 H4 (((g1.trans g2).trans g3).trans g4) r4
def rSlX (K : PySem.W.Frag) : V → Option Int → Option Int → Hp → VK → Prop := fun x l u H Q => rSlL K x l u H Q ∨ rSlA K x l u H Q ∨ rSlS x l u H Q
theorem sl_any {X : Cx} : SlR X (rSlX X.K) := SlR.or sl_list (SlR.or sl_tupA sl_str)
def cutD (xs : List D) (lo hi : Option Int) : List D := (xs.drop (HT.sIx xs.length 0 lo)).take (HT.sIx xs.length xs.length hi - HT.sIx xs.length 0 lo)
theorem cut_rel {vs : List V} {ds : List D} {l u : Option Int} (h : DpAll K B vs ds) : DpAll K B (cutV vs l u) (cutD ds l u) := by
  unfold cutV cutD
  rw [dpall_len h]
  exact dpall_take _ (dpall_drop _ h)
theorem sd_L {xs : List D} {l u : Option Int} : SD K (rSlX K) (.list xs) l u (.list (cutD xs l u)) := fun B H v e hv Q q => by
  cases hv with
  | lst hs ha => exact .inl ⟨_, _, rfl, e.seq hs, fun p hp => q _ (upd B p _) _ (Gw.new e hp) (.lst (.inl (.inl upd_same)) (dps_up (Gw.new e hp).b _ _ (cut_rel ha)))⟩
theorem sd_T {xs : List D} {l u : Option Int} : SD K (rSlX K) (.tuple xs) l u (.tuple (cutD xs l u)) := fun B H v e hv Q q => by
  cases hv with
  | tup hs ha =>
    refine .inr (.inl ⟨_, _, rfl, seqT_up e hs, fun ⟨z1, z2⟩ => ?_, fun _ p hp => q _ (upd B p _) _ (Gw.new e hp) (.tup (.inl (.inl upd_same)) (dps_up (Gw.new e hp).b _ _ (cut_rel ha)))⟩)
    have el := dpall_len ha
    rw [el] at z1 z2
    have ec : cutD xs l u = xs := by
      unfold cutD
      rw [z1, z2]
      simp
    rw [ec] at q
    exact q _ B H (.refl e) (.tup hs ha)
theorem sd_S {z : Str} {l u : Option Int} (h : z.length ≤ 100000) : SD K (rSlX K) (.str z) l u (.str (cutS z l u)) := fun B H v e hv Q q => by
  cases hv
  exact .inr (.inr ⟨z, rfl, Nat.le_trans h (by decide), q _ B H (.refl e) (.str _)⟩)
/-! ### built-ins -/
def rLenA (K : PySem.W.Frag) : List V → Hp → VK → Prop := fun xs H Q => ∃ x n, xs = [x] ∧ LenV K x H n ∧ Q (.int n) H
theorem call_lenA {X : Cx} : CallR X (.builtin "len") (rLenA X.K) := call_len
theorem cd_lenL {xs : List D} : CD K (rLenA K) [.list xs] (.int (xs.length : Int)) := fun B H vs e h Q q => by
  cases h with
  | cons h1 h2 =>
    cases h2
    cases h1 with
    | lst hs ha =>
      exact ⟨_, _, rfl, .inl ⟨_, e.seq hs, rfl⟩, by rw [dpall_len ha]; exact q _ B H (.refl e) (.int _)⟩
theorem cd_lenT {xs : List D} : CD K (rLenA K) [.tuple xs] (.int (xs.length : Int)) := fun B H vs e h Q q => by
  cases h with
  | cons h1 h2 =>
    cases h2
    cases h1 with
    | tup hs ha => exact ⟨_, _, rfl, .inr ⟨_, seqT_up e hs, rfl⟩, by rw [dpall_len ha]; exact q _ B H (.refl e) (.int _)⟩
theorem cd_lenS {z : Str} (h : z.length ≤ 100000) : CD K (rLenA K) [.str z] (.int (z.length : Int)) := fun B H vs e hh Q q => by
  cases hh with
  | cons h1 h2 =>
    cases h2; cases h1
    exact ⟨_, _, rfl, ⟨Nat.le_trans h (by decide), rfl⟩, q _ B H (.refl e) (.int _)⟩
def rTupO (K : PySem.W.Frag) : List V → Hp → VK → Prop := fun xs H Q => ∃ p ys, xs = [.ref p] ∧ ((SqL K H p ys ∧ ∀ l, H l = none → Q (.ref l) (upd H l (.tup ys))) ∨ (SqT K H p ys ∧ Q (.ref p) H))
theorem call_tupO {X : Cx} : CallR X (.type "tuple") (rTupO X.K) := call_tuple_of
theorem cd_tupL {xs : List D} : CD K (rTupO K) [.list xs] (.tuple xs) := fun B H vs e h Q q => by
  cases h with
  | cons h1 h2 =>
    cases h2
    cases h1 with
    | lst hs ha => exact ⟨_, _, rfl, .inl ⟨e.seq hs, fun p hp => q _ (upd B p _) _ (Gw.new e hp) (.tup (.inl (.inl upd_same)) (dps_up (Gw.new e hp).b _ _ ha))⟩⟩
theorem cd_tupT {xs : List D} : CD K (rTupO K) [.tuple xs] (.tuple xs) := fun B H vs e h Q q => by
  cases h with
  | cons h1 h2 =>
    cases h2
    cases h1 with
    | tup hs ha => exact ⟨_, _, rfl, .inr ⟨seqT_up e hs, q _ B H (.refl e) (.tup hs ha)⟩⟩
def rLstO (K : PySem.W.Frag) : List V → Hp → VK → Prop := fun xs H Q => ∃ p ys, xs = [.ref p] ∧ (SqL K H p ys ∨ SqT K H p ys) ∧ ∀ l, H l = none → Q (.ref l) (upd H l (.lst ys))
theorem call_lstO {X : Cx} : CallR X (.type "list") (rLstO X.K) := call_list_of
theorem cd_lstL {xs : List D} : CD K (rLstO K) [.list xs] (.list xs) := fun B H vs e h Q q => by
  cases h with
  | cons h1 h2 =>
    cases h2
    cases h1 with
    | lst hs ha => exact ⟨_, _, rfl, .inl (e.seq hs), fun p hp => q _ (upd B p _) _ (Gw.new e hp) (.lst (.inl (.inl upd_same)) (dps_up (Gw.new e hp).b _ _ ha))⟩
theorem cd_lstT {xs : List D} : CD K (rLstO K) [.tuple xs] (.list xs) := fun B H vs e h Q q => by
  cases h with
  | cons h1 h2 =>
    cases h2
    cases h1 with
    | tup hs ha => exact ⟨_, _, rfl, .inr (seqT_up e hs), fun p hp => q _ (upd B p _) _ (Gw.new e hp) (.lst (.inl (.inl upd_same)) (dps_up (Gw.new e hp).b _ _ ha))⟩
theorem dpall_bools {vs : List V} : ∀ {bs : List Bool}, DpAll K B vs (bs.map .bool) → vs = bs.map V.bl := by
  induction vs with
  | nil => intro bs h; cases bs with
    | nil => rfl
    | cons => cases h
  | cons v vs ih => intro bs h; cases bs with
    | nil => cases h
    | cons b bs => cases h with | cons h1 h2 => cases h1; rw [ih h2]; rfl
theorem dpall_ints {vs : List V} : ∀ {ns : List Int}, DpAll K B vs (ns.map .int) → vs = ns.map V.int := by
  induction vs with
  | nil => intro bs h; cases bs with
    | nil => rfl
    | cons => cases h
  | cons v vs ih => intro bs h; cases bs with
    | nil => cases h
    | cons b bs => cases h with | cons h1 h2 => cases h1; rw [ih h2]; rfl
theorem dpall_intsI : ∀ {ns : List Int}, DpAll K B (ns.map V.int) (ns.map .int)
  | [] => .nil
  | n :: ns => .cons (.int n) dpall_intsI
theorem cd_all {bs : List Bool} : CD K (rAll K) [.list (bs.map .bool)] (.bool (bs.all id)) := fun B H vs e h Q q => by
  cases h with
  | cons h1 h2 =>
    cases h2
    cases h1 with
    | lst hs ha =>
      have z := dpall_bools ha
      subst z
      exact ⟨_, bs, rfl, e.seq hs, q _ B H (.refl e) (.bl _)⟩
theorem cd_abs {i : Int} : CD K (fun xs H Q => ∃ i, xs = [.int i] ∧ Q (.int (if i < 0 then -i else i)) H) [.int i] (.int (if i < 0 then -i else i)) := fun B H vs e h Q q => by
  cases h with
  | cons h1 h2 => cases h2; cases h1; exact ⟨i, rfl, q _ B H (.refl e) (.int _)⟩
def rInt1 : List V → Hp → VK → Prop := fun xs H Q => (∃ i, xs = [.int i] ∧ Q (.int i) H) ∨ ∃ k, xs = [.bl k] ∧ Q (.int (if k then 1 else 0)) H
theorem call_int1A {X : Cx} : CallR X (.type "int") rInt1 := call_int1
theorem cd_int {i : Int} : CD K rInt1 [.int i] (.int i) := fun B H vs e h Q q => by
  cases h with
  | cons h1 h2 => cases h2; cases h1; exact .inl ⟨i, rfl, q _ B H (.refl e) (.int _)⟩
/-! ### statements -/
variable {Dn : Ends} {t u : TS} {i : Nat}
theorem st_asg (h : DE K te σ B d) (e : Same B H) (k : ∀ v B' H', Gw B H B' H' → Dp K B' v d → Dn.nx (σ.set i (some v)) H') : tAsg te (gName i) Dn σ H := h H e _ fun v B' H' g r => k v B' H' g r
theorem st_ret (h : DE K te σ B d) (e : Same B H) (k : ∀ v B' H', Gw B H B' H' → Dp K B' v d → Dn.rt v H') : tRet te Dn σ H := h H e _ fun v B' H' g r => k v B' H' g r
theorem st_drop (h : DE K te σ B d) (e : Same B H) (k : ∀ B' H', Gw B H B' H' → Dn.nx σ H') : tDrop te Dn σ H := h H e _ fun v B' H' g r => k B' H' g
theorem st_if {b : Bool} (h : DT tt σ B b) (e : Same B H) (k1 : b = true → ∀ B' H', Gw B H B' H' → t Dn σ H') (k2 : b = false → ∀ B' H', Gw B H B' H' → u Dn σ H') : tIfS tt t u Dn σ H := h H e _ fun B' H' g => by
  cases b with
  | true => exact iteT (k1 rfl B' H' g)
  | false => exact iteF (k2 rfl B' H' g)
/-- a for over a list or a tuple of such data -/
theorem st_for {tl : TE} {g : TG} {ds : List D} (h : DE K tl σ B x) (sd : SeqD x ds) (e : Same B H)
    (k : ∀ B1 H1, Gw B H B1 H1 → ∃ P : Nat → L2.St → Hp → Prop, P 0 σ H1 ∧ (∀ i σ' H', P i σ' H' → Same B1 H') ∧
      (∀ i d v σ' H', ds[i]? = some d → Dp K B1 v d → P i σ' H' → g v σ' H' fun σ2 H2 => t { Dn with nx := P (i + 1), ct := P (i + 1), bk := Dn.nx } σ2 H2) ∧
      (∀ σ' H', P ds.length σ' H' → Dn.nx σ' H')) : tFor (iSeq K tl) g t Dn σ H := h H e _ fun v B1 H1 g1 r1 => by
  obtain ⟨P, p0, ps, pt, pd⟩ := k B1 H1 g1
  have go : ∀ {vs : List V}, DpAll K B1 vs ds → ∀ i x σ' H', vs[i]? = some x → P i σ' H' → g x σ' H' fun σ2 H2 => t { Dn with nx := P (i + 1), ct := P (i + 1), bk := Dn.nx } σ2 H2 := fun {vs} ha i x σ' H' hx p => by
    have hi := (List.getElem?_eq_some_iff.mp hx).1
    rw [dpall_len ha] at hi
    obtain ⟨w, e1, e2⟩ := dpall_get ha (List.getElem?_eq_getElem hi)
    rw [hx] at e1
    cases e1
    exact pt i _ _ σ' H' (List.getElem?_eq_getElem hi) e2 p
  cases sd with
  | l ds =>
    cases r1 with
    | lst hs ha => exact ⟨_, _, rfl, .inl ⟨g1.i.seq hs, for_list P p0 (fun i σ' H' _ p => (ps i σ' H' p).seq hs) (fun i x σ' H' hx p => go ha i x σ' H' hx p) (fun σ' H' p => pd σ' H' (by rw [← dpall_len ha]; exact p))⟩⟩
  | t ds =>
    cases r1 with
    | tup hs ha => exact ⟨_, _, rfl, .inr ⟨seqT_up g1.i hs, for_tup P p0 (fun i σ' H' _ p => seqT_up (ps i σ' H' p) hs) (fun i x σ' H' hx p => go ha i x σ' H' hx p) (fun σ' H' p => pd σ' H' (by rw [← dpall_len ha]; exact p))⟩⟩
theorem st_rng1 {tn : TE} {j : Nat} {n : Int} (h : DE K tn σ B (.int n)) (e : Same B H) (hn : -(2 ^ 62) ≤ n ∧ n < 2 ^ 62)
    (k : ∀ B1 H1, Gw B H B1 H1 → ∃ P : Nat → L2.St → Hp → Prop, P 0 σ H1 ∧
      (∀ i σ' H', i < n.toNat → P i σ' H' → t { Dn with nx := P (i + 1), ct := P (i + 1), bk := Dn.nx } (σ'.set j (some (.int (i : Int)))) H') ∧
      (∀ σ' H', P n.toNat σ' H' → Dn.nx σ' H')) : tFor (iRng1 (tCons tn tNil)) (gName j) t Dn σ H := h H e _ fun v B1 H1 g1 r1 => by
  cases r1
  obtain ⟨P, p0, pt, pd⟩ := k B1 H1 g1
  refine ⟨n, rfl, hn.1, hn.2, for_range (lo := 0) (n := n.toNat) P p0 (fun i σ' H' hi p => ?_) pd⟩
  have z : (0 : Int) + (i : Int) = (i : Int) := Int.zero_add _
  rw [z]
  exact pt i σ' H' hi p
/-! ### a list that was just made (or is tracked as such) -/
def DL (K : PySem.W.Frag) (te : TE) (σ : L2.St) (B : Hp) (ds : List D) : Prop := ∀ H, Same B H → ∀ Q : VK, (∀ p vs B' H', Gw B H B' H' → B' p = some (.lst vs) → DpAll K B' vs ds → Q (.ref p) H') → te σ H Q
theorem DL.de {ds : List D} (h : DL K te σ B ds) : DE K te σ B (.list ds) := fun H e Q q => h H e Q fun p vs B' H' g hp ha => q _ B' H' g (.lst (.inl (.inl hp)) ha)
theorem DL.up {ds : List D} (h : DL K te σ B ds) (e : Same B B1) : DL K te σ B1 ds := fun H e1 Q q => h H (e.trans e1) Q fun p vs B' H' g hp ha => by
  obtain ⟨g', k⟩ := g.widen e e1
  exact q p vs _ H' g' (k _ _ hp) (dps_up k _ _ ha)
theorem dl_lst {t : TA} {ds : List D} (h : DA K t σ B ds) (hl : ds.length ≤ 100000) : DL K (tLst t) σ B ds := fun H e Q q =>
  h H e _ fun vs B1 H1 g1 r1 => ⟨Nat.le_trans (by rw [dpall_len r1]; exact hl) (by decide), fun p hp => q _ vs (upd B1 p (.lst vs)) _ (g1.trans (Gw.new g1.i hp)) upd_same (dps_up (Gw.new g1.i hp).b _ _ r1)⟩
theorem dl_var {i : Nat} {p : Addr} {vs : List V} {ds : List D} (h : σ[i]? = some (some (.ref p))) (hp : B p = some (.lst vs)) (ha : DpAll K B vs ds) : DL K (tVar i) σ B ds := fun H e _ q => ⟨_, h, q p vs B H (.refl e) hp ha⟩
theorem dl_cat {ds es : List D} (ha : DL K ta σ B ds) (hb : DL K tb σ B es) (hz : ds.length + es.length ≤ 100000) : DL K (tOp (rAddA K) ta tb) σ B (ds ++ es) := fun H e Q q =>
  ha H e _ fun p vs B1 H1 g1 hp h1 => hb.up g1.b H1 g1.i _ fun p2 ws B2 H2 g2 hp2 h2 => by
    refine .inr (.inr (.inl ⟨p, p2, vs, ws, rfl, rfl, g2.i _ _ (g2.b _ _ hp), g2.i _ _ hp2, Nat.le_trans (by rw [dpall_len h1, dpall_len h2]; exact hz) (by decide), fun l hl => ?_⟩))
    have g3 : Gw B2 H2 (upd B2 l (.lst (vs ++ ws))) (upd H2 l (.lst (vs ++ ws))) := Gw.new g2.i hl
    exact q l _ _ _ ((g1.trans g2).trans g3) upd_same (dps_up g3.b _ _ (dpall_app (dps_up g2.b _ _ h1) h2))
/-! ### comprehensions whose parts are such data -/
theorem take_succ' {α : Type} {l : List α} {i : Nat} {a : α} (h : l[i]? = some a) : l.take (i + 1) = l.take i ++ [a] := by
  rw [List.take_add_one, h]
  rfl
theorem yes_at {A C : Hp → Prop} (h : A H) : tYes σ H (fun b H3 => if b = true then A H3 else C H3) := iteT (A := A H) (B := C H) h
/-- [f(x) for x in ds]: f i is the i-th item's element -/
structure LcW (B1 H1 : Hp) (K : PySem.W.Frag) (Da : Addr) (out : List D) (H' : Hp) : Prop where
  nb : B1 Da = none
  ex : ∃ B' vs, Gm (· = Da) B1 H1 B' H' ∧ B' Da = none ∧ H' Da = some (.lst vs) ∧ DpAll K B' vs out
theorem lcw0 {Da : Addr} (e : Same B1 H) (h : H Da = none) : LcW B1 H K Da [] (upd H Da (.lst [])) :=
  ⟨base_none e h, B1, [], (Gw.own e h).weak (fun _ z => z.elim), base_none e h, upd_same, .nil⟩
theorem lcw_turn {Da : Addr} {out : List D} {H' : Hp} {te : TE} {σ2 : L2.St} {dv : D} {Nx : Hp → Prop} (w : LcW B1 H K Da out H') (hD : H Da = none) (hz : out.length < 100000) (he : DE K te σ2 B1 dv) (k : ∀ H5, LcW B1 H K Da (out ++ [dv]) H5 → Nx H5) :
    te σ2 H' fun y H4 => ∃ acc, H4 Da = some (.lst acc) ∧ acc.length < sizeLine ∧ Nx (upd H4 Da (.lst (acc ++ [y]))) := by
  obtain ⟨B', vs, g, nb, hl, ha⟩ := w.ex
  refine he.up g.b H' g.i _ fun y B2 H2 g2 r2 => ⟨vs, g2.same _ _ hl, Nat.lt_of_lt_of_le (by rw [dpall_len ha]; exact hz) (by decide), k _ ⟨w.nb, B2, vs ++ [y], ?_, ?_, upd_same, dpall_app (dps_up g2.b _ _ ha) (.cons r2 .nil)⟩⟩
  · have n2 : B2 Da = none := g2.f Da nb (by rw [hl]; intro z; cases z)
    refine Gm.trans (B1 := B2) (H1 := H2) (Gm.trans g (g2.weak (fun _ z => z.elim)) ?_) (Gm.mut g2.i n2) ?_
    · intro a z n; exact absurd (z ▸ hD) n
    · intro a z n; exact absurd (z ▸ hD) n
  · exact g2.f Da nb (by rw [hl]; intro z; cases z)
theorem lcw_done {Da : Addr} {out : List D} {H' : Hp} (w : LcW B1 H K Da out H') (hD : H Da = none) : ∃ B' vs, Gw B1 H B' H' ∧ B' Da = some (.lst vs) ∧ DpAll K B' vs out := by
  obtain ⟨B', vs, g, nb, hl, ha⟩ := w.ex
  have k : Same B' (upd B' Da (.lst vs)) := fun a o q => by rw [upd_ne (ne_of_none q nb)]; exact q
  refine ⟨upd B' Da (.lst vs), vs, ⟨g.b.trans k, fun a o q => ?_, fun a o _ q => ?_, fun a q n => ?_⟩, upd_same, dps_up k _ _ ha⟩
  · by_cases z : a = Da
    · subst z; rw [upd_same] at q; cases q; exact hl
    · rw [upd_ne z] at q; exact g.i a o q
  · refine g.r a o (fun z => ?_) q
    subst z; rw [hD] at q; cases q
  · have z : a ≠ Da := fun z => n (z ▸ hD)
    rw [upd_ne z]
    exact g.f a q n
theorem dl_lc {tl : TE} {j : Nat} {ds : List D} {f : D → D} {vs : List Nat} (h : DE K tl σ B x) (sd : SeqD x ds) (hz : ds.length ≤ 90000) (hw : ∀ x, wipe ((wipe σ vs).set j (some x)) vs = wipe σ vs)
    (he : ∀ d v B1, d ∈ ds → Same B B1 → Dp K B1 v d → DE K te ((wipe σ vs).set j (some v)) B1 (f d)) : DL K (tLc (iSeq K tl) (gName j) tYes te vs) σ B (ds.map f) := fun H e Q q => h H e _ fun v B1 H1 g1 r1 => by
  have go : ∀ {us : List V} {Da : Addr}, H1 Da = none → DpAll K B1 us ds → ∀ i x H', us[i]? = some x → LcW B1 H1 K Da ((ds.take i).map f) H' → tYes ((wipe σ vs).set j (some x)) H' fun b H3 => if b = true then te ((wipe σ vs).set j (some x)) H3 fun y H4 => ∃ acc, H4 Da = some (.lst acc) ∧ acc.length < sizeLine ∧ LcW B1 H1 K Da ((ds.take (i + 1)).map f) (upd H4 Da (.lst (acc ++ [y]))) else LcW B1 H1 K Da ((ds.take (i + 1)).map f) H3 := fun {us Da} hD ha i x H' hx w => by
    refine yes_at ?_
    have hi := (List.getElem?_eq_some_iff.mp hx).1
    rw [dpall_len ha] at hi
    have hd := List.getElem?_eq_getElem hi
    obtain ⟨w', e1, e2⟩ := dpall_get ha hd
    rw [hx] at e1
    cases e1
    refine lcw_turn w hD (by rw [List.length_map, List.length_take]; omega) (he _ _ B1 (List.getElem_mem hi) g1.b e2) fun H5 w5 => ?_
    rw [take_succ' hd, List.map_append]
    exact w5
  cases sd with
  | l ds =>
    cases r1 with
    | lst hs ha =>
      rename_i aL xsL
      refine ⟨_, _, rfl, .inl ⟨g1.i.seq hs, fun Da hD => lc_list (xs := xsL) (fun i H' => LcW B1 H1 K Da ((ds.take i).map f) H') (lcw0 g1.i hD) (fun i H' _ w => ?_) (fun i x H' hx w => ⟨hw x, go hD ha i x H' hx w⟩) (fun H' w => ?_)⟩⟩
      · obtain ⟨B', vs', g, _⟩ := w.ex
        exact (g.b.trans g.i).seq hs
      · rw [dpall_len ha, List.take_length] at w
        obtain ⟨B', us, g, hp, r⟩ := lcw_done w hD
        exact q _ us B' H' (g1.trans g) hp r
  | t ds =>
    cases r1 with
    | tup hs ha =>
      rename_i aL xsL
      refine ⟨_, _, rfl, .inr ⟨seqT_up g1.i hs, fun Da hD => lc_tup (xs := xsL) (fun i H' => LcW B1 H1 K Da ((ds.take i).map f) H') (lcw0 g1.i hD) (fun i H' _ w => ?_) (fun i x H' hx w => ⟨hw x, go hD ha i x H' hx w⟩) (fun H' w => ?_)⟩⟩
      · obtain ⟨B', vs', g, _⟩ := w.ex
        exact seqT_up (g.b.trans g.i) hs
      · rw [dpall_len ha, List.take_length] at w
        obtain ⟨B', us, g, hp, r⟩ := lcw_done w hD
        exact q _ us B' H' (g1.trans g) hp r
theorem dl_lcR {tn : TE} {j : Nat} {n : Int} {f : Nat → D} {vs : List Nat} (h : DE K tn σ B (.int n)) (hz : -1000 ≤ n ∧ n ≤ 90000) (hw : ∀ x, wipe ((wipe σ vs).set j (some x)) vs = wipe σ vs)
    (he : ∀ (i : Nat) B1, i < n.toNat → Same B B1 → DE K te ((wipe σ vs).set j (some (.int (i : Int)))) B1 (f i)) : DL K (tLc (iRng1 (tCons tn tNil)) (gName j) tYes te vs) σ B ((List.range n.toNat).map f) := fun H e Q q => h H e _ fun v B1 H1 g1 r1 => by
  cases r1
  refine ⟨n, rfl, by omega, by omega, fun Da hD => lc_range (lo := 0) (n := n.toNat) (fun i H' => LcW B1 H1 K Da ((List.range i).map f) H') (lcw0 g1.i hD) (fun i H' hi w => ?_) (fun H' w => ?_)⟩
  · have z : (0 : Int) + (i : Int) = (i : Int) := Int.zero_add _
    rw [z]
    refine ⟨hw _, yes_at ?_⟩
    refine lcw_turn w hD (by rw [List.length_map, List.length_range]; omega) (he i B1 hi g1.b) fun H5 w5 => ?_
    rw [List.range_succ, List.map_append]
    exact w5
  · obtain ⟨B', us, g, hp, r⟩ := lcw_done w hD
    exact q _ us B' H' (g1.trans g) hp r
theorem dl_lcS {tl : TE} {j : Nat} {z : Str} {f : Nat → D} {vs : List Nat} (h : DE K tl σ B (.str z)) (hz : z.length ≤ 90000) (hw : ∀ x, wipe ((wipe σ vs).set j (some x)) vs = wipe σ vs)
    (he : ∀ (c : Nat) B1, c ∈ z.cps.toList → Same B B1 → DE K te ((wipe σ vs).set j (some (.str ⟨#[c]⟩))) B1 (f c)) : DL K (tLc (iStr tl) (gName j) tYes te vs) σ B (z.cps.toList.map f) := fun H e Q q => h H e _ fun v B1 H1 g1 r1 => by
  cases r1
  have hsz : z.cps.toList.length = z.cps.size := by simp
  have hzz : z.cps.size ≤ 90000 := hz
  refine ⟨z, rfl, fun Da hD => ?_⟩
  refine ⟨fun i m H' => m = z.cps.size - i ∧ i ≤ z.cps.size ∧ LcW B1 H1 K Da ((z.cps.toList.take i).map f) H', ⟨z.cps.size, rfl, Nat.zero_le _, lcw0 g1.i hD⟩, ?_⟩
  rintro i m H' ⟨rfl, hi, w⟩
  by_cases hlt : i < z.cps.size
  · refine .inr ⟨hlt, fun H5 => LcW B1 H1 K Da ((z.cps.toList.take (i + 1)).map f) H5, fun H5 w5 => ⟨z.cps.size - (i + 1), by omega, rfl, hlt, w5⟩, fun x H5 y => ?_⟩
    obtain ⟨rfl, c, hc, rfl⟩ := y
    have hd : z.cps.toList[i]? = some c := by simpa using hc
    refine ⟨hw _, yes_at ?_⟩
    refine lcw_turn w hD (by rw [List.length_map, List.length_take]; omega) (he c B1 (List.mem_of_getElem? hd) g1.b) fun H5 w5 => ?_
    rw [take_succ' hd, List.map_append]
    exact w5
  · have : i = z.cps.size := by omega
    subst this
    rw [← hsz, List.take_length] at w
    obtain ⟨B', us, g, hp, r⟩ := lcw_done w hD
    exact .inl ⟨Nat.le_refl _, q _ us B' H' (g1.trans g) hp r⟩
end
end Co
namespace Co
open PySem PySem.Spec PyProof.Rows L2
/-! ### a list or a tuple, by k -/
def SqB (K : PySem.W.Frag) (k : Bool) (H : Hp) (a : Addr) (xs : List V) : Prop := if k = true then SqL K H a xs else SqT K H a xs
def ItB (k : Bool) (h : Heap) (i a : Addr) (n : Nat) : Prop := if k = true then h.IsListIter i a n else h.IsTupleIter i a n
def HsB (k : Bool) (h : Heap) (a : Addr) (items : Array Value) : Prop := if k = true then h.IsList a items else h.IsTuple a items
theorem SqB.up {K : PySem.W.Frag} {k : Bool} {H H' : Hp} {a : Addr} {xs : List V} (e : Same H H') (h : SqB K k H a xs) : SqB K k H' a xs := by
  cases k with
  | true => exact e.seq h
  | false => exact seqT_up e h
theorem drawsB {prog : Program} {w : World} {A : Around} (hh : A.handled = none) (k : Bool) (it a : Addr) (hne : a ≠ it) (items : Array Value) :
    Draws prog w A it [it, a] items.size (fun i v => items[i]? = some v) (fun i h => ItB k h it a i ∧ HsB k h a items) := by
  cases k with
  | true => exact Draws.list hh it a hne items
  | false => exact Draws.tuple hh it a hne items
theorem ItB.at {k : Bool} {h h' : Heap} {i a : Addr} {n : Nat} (x : ItB k h i a n) (e : ∀ o, h.get? i = some o → h'.get? i = some o) : ItB k h' i a n := by
  cases k with
  | true =>
    have y : h.IsListIter i a n := x
    exact (y.at e : h'.IsListIter i a n)
  | false =>
    have y : h.IsTupleIter i a n := x
    exact (y.at e : h'.IsTupleIter i a n)
theorem ItB.obj {k : Bool} {h : Heap} {i a : Addr} {n : Nat} (x : ItB k h i a n) : ∃ o, h.get? i = some o ∧ ∀ v, o.data ≠ .cell v := by
  cases k with
  | true =>
    obtain ⟨o, e, _, d⟩ := (x : h.IsListIter i a n)
    exact ⟨o, e, fun v q => by rw [d] at q; cases q⟩
  | false =>
    obtain ⟨o, e, _, d⟩ := (x : h.IsTupleIter i a n)
    exact ⟨o, e, fun v q => by rw [d] at q; cases q⟩
section
variable {X : Cx} {pins : List (Addr × Obj)} {σ : L2.St} {H : Hp} {s : Shared}
theorem seqB (I : Inv X pins σ H s) {k : Bool} {a : Addr} {xs : List V} (h : SqB X.K k H a xs) : ∃ its : List Value, Vals xs its ∧ HsB k s.heap a its.toArray ∧ a < s.heap.objs.size := by
  cases k with
  | true =>
    obtain ⟨its, rv, p, _⟩ := I.list h
    exact ⟨its, rv, p.isList, p.lt⟩
  | false =>
    obtain ⟨its, rv, p, _⟩ := I.tuple h
    obtain ⟨o, ho, _⟩ := id p
    exact ⟨its, rv, (show s.heap.IsTuple a its.toArray from p), Heap.lt_size ho⟩
theorem seqB_inj (I : Inv X pins σ H s) {k : Bool} {a : Addr} {xs ys : List V} (h : SqB X.K k H a xs) (h' : SqB X.K k H a ys) : xs = ys := by
  cases k with
  | true => exact I.list_inj h h'
  | false => exact I.tuple_inj h h'
end
/-- zip of two such: the items in new pairs -/
def ItzG (K : PySem.W.Frag) (k m : Bool) (a b : Addr) : It :=
  ⟨fun i H => ∃ (xs ys : List V) (x y : V), SqB K k H a xs ∧ SqB K m H b ys ∧ xs[i]? = some x ∧ ys[i]? = some y,
    fun i H v H' => ∃ T x y, v = .ref T ∧ H T = none ∧ H' = upd H T (.tup [x, y]) ∧ (∀ xs, SqB K k H a xs → xs[i]? = some x) ∧ ∀ ys, SqB K m H b ys → ys[i]? = some y,
    fun i H => ∃ xs ys : List V, SqB K k H a xs ∧ SqB K m H b ys ∧ i ≤ xs.length ∧ i ≤ ys.length ∧ (xs.length = i ∨ ys.length = i)⟩
structure Apart5 (z TI TO i1 i2 a b : Addr) : Prop where
  S : ZipSep2 z TI TO i1 i2 [i1, a] [i2, b]
  a1 : a ≠ i1
  b2 : b ≠ i2
  i1z : i1 ≠ z
  i2z : i2 ≠ z
theorem turn_zipG {P : Program} {w : World} {K : PySem.W.Frag} {elts : List Expr} {kk : Nat} {tpos : Pos} {a b z TI TO i1 i2 : Addr} {k m : Bool} (D : Apart5 z TI TO i1 i2 a b) :
    Turn P w K (.Tuple elts kk tpos) (ItzG K k m a b) [z, TI, TO, i1, i2] z
      (fun i h => IsZip h z TI TO .none ∧ IsTupOf2 h TI (.ref i1) (.ref i2) ∧ (∃ x y, IsTupOf2 h TO x y) ∧ ItB k h i1 a i ∧ ItB m h i2 b i) where
  mem := List.mem_cons_self ..
  obj := fun i h st c hc => by
    obtain ⟨hz, hTI, ⟨x, y, hTO⟩, h1, h2⟩ := st
    simp only [List.mem_cons, List.not_mem_nil, or_false] at hc
    rcases hc with q | q | q | q | q
    · subst q; exact ⟨_, hz, fun v q => by cases q⟩
    · subst q; exact ⟨_, hTI, fun v q => by cases q⟩
    · subst q; exact ⟨_, hTO, fun v q => by cases q⟩
    · subst q; exact h1.obj
    · subst q; exact h2.obj
  keep := fun i h h' st e => by
    obtain ⟨hz, hTI, ⟨x, y, hTO⟩, h1, h2⟩ := st
    exact ⟨e z (by simp) _ hz, e TI (by simp) _ hTI, ⟨x, y, e TO (by simp) _ hTO⟩, h1.at (e i1 (by simp)), h2.at (e i2 (by simp))⟩
  item := by
    intro X hP hw hK hc i pins s σ H E I hf st hg
    subst hP hw hK
    obtain ⟨hz, hTI, ⟨x0, y0, hTO⟩, h1, h2⟩ := st
    obtain ⟨xs, ys, x, y, hqx, hqy, hx, hy⟩ := hg
    obtain ⟨its, rv, p, _⟩ := seqB I hqx
    obtain ⟨its2, rv2, p2, _⟩ := seqB I hqy
    obtain ⟨u, hu, ru⟩ := rv.get hx
    obtain ⟨u2, hu2, ru2⟩ := rv2.get hy
    have hh : X.A.in1.handled = none := I.ok.hd hc
    have l1 : i < its.toArray.size := by rw [List.size_toArray]; exact (List.getElem?_eq_some_iff.mp hu).1
    have l2 : i < its2.toArray.size := by rw [List.size_toArray]; exact (List.getElem?_eq_some_iff.mp hu2).1
    have hzl := Heap.lt_size hz
    refine wpAny_pyNext_zipD2_item D.S (drawsB hh k i1 a D.a1 its.toArray) (drawsB hh m i2 b D.b2 its2.toArray) hz hTI hTO ⟨h1, p⟩ ⟨h2, p2⟩ l1 l2 fun v1 v2 h' tk e1 e2 z' TO' d1 d2 hT hsz hk => ?_
    have q1 : v1 = u := by
      have e1' : its[i]? = some v1 := by simpa using e1
      rw [hu] at e1'; exact (Option.some.inj e1').symm
    have q2 : v2 = u2 := by
      have e2' : its2[i]? = some v2 := by simpa using e2
      rw [hu2] at e2'; exact (Option.some.inj e2').symm
    subst q1 q2
    refine ⟨_, rfl, wpAny_letOwnedTupleGo_zip (s := { s with heap := h', toks := tk }) z' fun h'' z'' sb => ?_⟩
    have keep : ∀ c o, c ≠ z → c ≠ TO → c ≠ i1 → c ≠ i2 → s.heap.get? c = some o → h''.get? c = some o := fun c o n1 n2 n3 n4 q => (sb.2 c n1).trans (hk c o n1 n2 n3 n4 q)
    have hT2 : h''.get? s.heap.objs.size = some { cls := .type "tuple", data := .seq #[v1, v2] } := (sb.2 _ (Nat.ne_of_gt hzl)).trans hT
    have new : ObjOk X.prog X.w (upd H s.heap.objs.size (.tup [x, y])) h'' s.heap.objs.size (.tup [x, y]) :=
      ⟨(by show 2 ≤ sizeLine; decide), [v1, v2], .cons ru (.cons ru2 .nil), ⟨_, hT2, rfl, _, rfl⟩⟩
    have I1 : Inv X pins σ (upd H s.heap.objs.size (.tup [x, y])) { s with heap := h'', toks := tk } :=
      I.turnedNew (t' := tk) (ch := [z, TI, TO, i1, i2]) (fun c o hb q => keep c o (fun e => hb (by simp [e])) (fun e => hb (by simp [e])) (fun e => hb (by simp [e])) (fun e => hb (by simp [e])) q) hf (Nat.le_refl _) new
    refine ⟨.ref s.heap.objs.size, _, I1, rfl, ⟨_, x, y, rfl, I.hok.fresh (Nat.le_refl _), rfl, fun l hl => by rw [seqB_inj I hl hqx]; exact hx, fun l hl => by rw [seqB_inj I hl hqy]; exact hy⟩, ⟨z'', ?_, ⟨v1, v2, ?_⟩, ?_, ?_⟩, fun c hcm => ?_⟩
    · exact keep _ _ D.S.TIz D.S.TITO D.S.TIi1 D.S.TIi2 hTI
    · exact (sb.2 _ D.S.TOz).trans TO'
    · exact d1.1.at fun o q => (sb.2 _ D.i1z).trans q
    · exact d2.1.at fun o q => (sb.2 _ D.i2z).trans q
    · have hlt : c < s.heap.objs.size := by
        simp only [List.mem_cons, List.not_mem_nil, or_false] at hcm
        rcases hcm with q | q | q | q | q
        · rw [q]; exact hzl
        · rw [q]; exact Heap.lt_size hTI
        · rw [q]; exact Heap.lt_size hTO
        · rw [q]; obtain ⟨_, e, _⟩ := h1.obj; exact Heap.lt_size e
        · rw [q]; obtain ⟨_, e, _⟩ := h2.obj; exact Heap.lt_size e
      rw [upd_ne (Nat.ne_of_lt hlt)]
      exact (hf c hcm).1
  done := by
    intro X hP hw hK hc i pins s σ H E I hf st hg
    subst hP hw hK
    obtain ⟨hz, hTI, ⟨x0, y0, hTO⟩, h1, h2⟩ := st
    obtain ⟨xs, ys, hqx, hqy, le1, le2, hend⟩ := hg
    obtain ⟨its, rv, p, _⟩ := seqB I hqx
    obtain ⟨its2, rv2, p2, _⟩ := seqB I hqy
    have l1 := rv.length
    have l2 := rv2.length
    have hh : X.A.in1.handled = none := I.ok.hd hc
    refine wpAny_pyNext_zipD2_end D.S (drawsB hh k i1 a D.a1 its.toArray) (drawsB hh m i2 b D.b2 its2.toArray) hz hTI hTO ⟨h1, p⟩ ⟨h2, p2⟩ (by rw [List.size_toArray]; omega) (by rw [List.size_toArray]; omega) (by rw [List.size_toArray, List.size_toArray]; omega) fun h' tk hk => ⟨rfl, ?_⟩
    exact I.turnedL (t' := tk) (ch := [z, TI, TO, i1, i2]) (fun c o hb q => hk c o (fun e => hb (by simp [e])) (fun e => hb (by simp [e])) (fun e => hb (by simp [e])) (fun e => hb (by simp [e])) q) hf
  self := fun A i s Q E st h => wpAny_pyIter_zip st.1 h
theorem begB {k : Bool} {a : Addr} (items : Array Value) : ∃ o : Obj, Begins (.ref a) o (fun h => HsB k h a items) ∧ ∀ (h : Heap) (i : Addr), h.get? i = some o → ItB k h i a 0 := by
  cases k with
  | true => exact ⟨_, begins_list a items, fun h i e => (⟨_, e, rfl, rfl⟩ : h.IsListIter i a 0)⟩
  | false => exact ⟨_, begins_tuple a items, fun h i e => (⟨_, e, rfl, rfl⟩ : h.IsTupleIter i a 0)⟩
theorem apart_new {N a b : Nat} (ha : a < N) (hb : b < N) : Apart5 (N + 4) (N + 2) (N + 3) N (N + 1) a b where
  S := zip_sep2 (N := N) (fp1 := [a]) (fp2 := [b]) (by intro c h; simp at h; subst h; exact ha) (by intro c h; simp at h; subst h; exact hb)
  a1 := Nat.ne_of_lt ha
  b2 := (show b ≠ N + 1 by omega)
  i1z := (show N ≠ N + 4 by omega)
  i2z := (show N + 1 ≠ N + 4 by omega)
def iZipG (K : PySem.W.Frag) (ta : TA) : TI := fun σ H R => ta σ H fun vs H1 => ∃ a b xs ys k m, vs = [.ref a, .ref b] ∧ SqB K k H1 a xs ∧ SqB K m H1 b ys ∧ R (ItzG K k m a b) H1
theorem pi_zipX {X : Cx} {e e2 : Expr} {ta : TA} {p pos tpos : Pos} {elts : List Expr} {kk : Nat} (hg : Gl X "zip") (hm : X.mg "zip" = none) (ha : PA X [e, e2] ta)
    (hs : starEach [e, e2] X.env = (false, eval e X.env) :: starEach [e2] X.env := by rfl) (hpl : (backTo pos (starEach [e2] X.env)).any (·.1) = false := by rfl) :
    PI X (.Tuple elts kk tpos) (.Call (.Name "zip" p) [e, e2] [] pos) (iZipG X.K ta) := by
  refine ⟨fun pins s σ H R I h => ?_⟩
  refine Call_ (ld_blt I hg hm boot_zip (callWith_type1 (thn (ha.run pos pins s σ H _ I h) fun us s1 ⟨vs, H1, I1, r1, a, b, xs, ys, k, m, ev, hqx, hqy, q⟩ => ?_) hs hpl))
  subst ev
  cases r1 with
  | cons r rr =>
    cases rr with
    | cons r' rr =>
      cases rr; cases r; cases r'
      obtain ⟨its, rv, p1, lt1⟩ := seqB I1 hqx
      obtain ⟨its2, rv2, p2, lt2⟩ := seqB I1 hqy
      obtain ⟨o1, B1, j1⟩ := begB (k := k) (a := a) its.toArray
      obtain ⟨o2, B2, j2⟩ := begB (k := m) (a := b) its2.toArray
      refine zip_begins2 B1 B2 p1 p2 fun h' hz hTI hTO h1 h2 hsz hk => wpAny_pyIter_zip hz ?_
      refine ⟨s1.heap.objs.size + 4, [s1.heap.objs.size + 4, s1.heap.objs.size + 2, s1.heap.objs.size + 3, s1.heap.objs.size, s1.heap.objs.size + 1], _, ItzG X.K k m a b, H1, rfl, I1.kept (t' := s1.toks) hk, turn_zipG (apart_new lt1 lt2), ⟨hz, hTI, ⟨_, _, hTO⟩, j1 _ _ h1, j2 _ _ h2⟩, fun c hcm => ?_, q⟩
      have hle : s1.heap.objs.size ≤ c := by
        simp only [List.mem_cons, List.not_mem_nil, or_false] at hcm
        rcases hcm with z | z | z | z | z
        · rw [z]; exact Nat.le_add_right _ _
        · rw [z]; exact Nat.le_add_right _ _
        · rw [z]; exact Nat.le_add_right _ _
        · rw [z]; exact Nat.le_refl _
        · rw [z]; exact Nat.le_add_right _ _
      exact I1.fpOk hle (I1.hok.fresh hle)
end Co
namespace Co
open PySem PySem.Spec PyProof.Rows L2
/-! ### zip whose pair may still be out -/
abbrev ZipR (h : Heap) (z TI TO : Addr) (o : Value) (f : Bool) : Prop :=
  h.get? z = some { cls := .type "zip", dict := none, data := .fields #[o, .bool f, .bool false, .ref TI, .ref TO], slots := #[] }
def OwnT (o : Value) : Prop := o = .none ∨ ∃ T : Addr, o = rawInt T
section
variable {prog : Program} {w : World} {A : Around} {E : Value → Shared → Prop} {s : Shared} {z TI TO i1 i2 : Addr} {fp1 fp2 : List Addr} {n1 n2 i : Nat} {P1 P2 : Nat → Value → Prop} {St1 St2 : Nat → Heap → Prop} {a1 a2 o : Value} {f : Bool}
theorem gone_load {b : Addr} {Q : Option Obj → Shared → Prop} (hb : s.heap.get? b = none) (h : Q none s) : wpAny (model prog w) A (loadIfAlive b) Q E s := by
  have k : Q (s.heap.get? b) s := by rw [hb]; exact h
  exact fun _ _ _ => k
theorem here_load {b : Addr} {ob : Obj} {Q : Option Obj → Shared → Prop} (hb : s.heap.get? b = some ob) (h : Q (some ob) s) : wpAny (model prog w) A (loadIfAlive b) Q E s := by
  have k : Q (s.heap.get? b) s := by rw [hb]; exact h
  exact fun _ _ _ => k
theorem freeZ {Q : Bool → Shared → Prop} (ho : OwnT o) (hz : ZipR s.heap z TI TO o f) (k1 : Q true s)
    (k2 : ∀ h', (∃ (T : Addr) (f' : Bool), ZipR h' z TI TO (rawInt T) f') → Heap.SameBut z s.heap h' → Q false { s with heap := h' }) : wpAny (model prog w) A (Builtin.SmallTypes.ownedTupleIsFree (.ref z)) Q E s := by
  (unfold Builtin.SmallTypes.ownedTupleIsFree; skip)
  rcases ho with rfl | ⟨q, rfl⟩
  · exact wpAny_bind (wpAny_field hz rfl (x := .none) rfl (wpAny_pure k1))
  · refine wpAny_bind (wpAny_field hz rfl (x := rawInt q) rfl ?_)
    show wpAny _ _ (loadIfAlive ((q : Int).toNat) >>= _) _ _ _
    rw [Int.toNat_natCast]
    cases hq : s.heap.get? q with
    | none =>
      refine wpAny_bind (gone_load hq ?_)
      simp only [Option.isNone_none, if_true]
      exact wpAny_pure k1
    | some oq =>
      refine wpAny_bind (here_load hq ?_)
      simp only [Option.isNone_some, Bool.false_eq_true, ite_false]
      refine wpAny_bind (wpAny_field hz rfl (x := .bool f) rfl (?_ : wpAny _ _ _ _ _ _))
      cases f with
      | true =>
        rw [if_neg (show ¬ ((Value.bool true != Value.bool true) = true) by exact Bool.false_ne_true)]
        exact wpAny_pure (k2 s.heap ⟨q, true, hz⟩ (Heap.SameBut.refl _ _))
      | false =>
        rw [if_pos (show (Value.bool false != Value.bool true) = true by rfl)]
        exact wpAny_bind (wpAny_setField_rec hz (by simp) fun h1 hz1 sb => wpAny_pure (k2 h1 ⟨q, true, hz1⟩ sb))
theorem zipR_next {Q : Value → Shared → Prop} (S : ZipSep2 z TI TO i1 i2 fp1 fp2) (D1 : Draws prog w A i1 fp1 n1 P1 St1) (D2 : Draws prog w A i2 fp2 n2 P2 St2) (ho : OwnT o)
    (hz : ZipR s.heap z TI TO o f) (hTI : IsTupOf2 s.heap TI (.ref i1) (.ref i2)) (hTO : IsTupOf2 s.heap TO a1 a2) (st1 : St1 i s.heap) (st2 : St2 i s.heap) (le1 : i ≤ n1) (le2 : i ≤ n2)
    (hQ : i < n1 → i < n2 → ∀ x1 x2 h' tk, P1 i x1 → P2 i x2 → (∃ (T : Addr) (f' : Bool), ZipR h' z TI TO (rawInt T) f') → (∃ b1 b2, IsTupOf2 h' TO b1 b2) → St1 (i + 1) h' → St2 (i + 1) h' → IsTupOf2 h' s.heap.objs.size x1 x2 →
      h'.objs.size = s.heap.objs.size + 1 → (∀ c o, c ≠ z → c ≠ TO → c ≠ i1 → c ≠ i2 → s.heap.get? c = some o → h'.get? c = some o) → Q (.ref s.heap.objs.size) { s with heap := h', toks := tk })
    (hE : (i = n1 ∨ i = n2) → ∀ h' tk e, (∀ c o, c ≠ z → c ≠ TO → c ≠ i1 → c ≠ i2 → s.heap.get? c = some o → h'.get? c = some o) → (∃ o, h'.get? e = some o ∧ o.cls = .type "StopIteration") → E (.ref e) { s with heap := h', toks := tk }) :
    wpAny (model prog w) A (Builtin.«zip.__next__» ⟨[.ref z], []⟩) (fun fin s' => ∃ v, fin = .done (.ret v) ∧ Q v s') E s := by
  obtain ⟨hp, gs, dr, tk0, oss⟩ := s
  (show wpAny _ _ (field (.ref z) 2 >>= _) _ _ _; skip)
  refine wpAny_bind (wpAny_field hz rfl (x := .bool false) rfl (?_ : wpAny _ _ _ _ _ _))
  (show wpAny _ _ (field (.ref z) 3 >>= _) _ _ _; skip)
  refine wpAny_bind (wpAny_field hz rfl (x := .ref TI) rfl (?_ : wpAny _ _ _ _ _ _))
  refine wpAny_bind (wpAny_seqItems hTI rfl (?_ : wpAny _ _ _ _ _ _))
  (show wpAny _ _ (Builtin.SmallTypes.ownedTupleIsFree (.ref z) >>= _) _ _ _; skip)
  refine wpAny_bind (freeZ ho hz ?_ ?_)
  · -- the pair is free
    simp only [if_true]
    refine wpAny_bind (wpAny_rule (?_ : wpAny _ _ _ _ _ _))
    refine wpAny_bind (wpAny_field hz rfl (x := .ref TO) rfl (?_ : wpAny _ _ _ _ _ _))
    refine wpAny_bind (wpAny_setField_rec hz (by simp) fun u0 hz0 hs0 => (?_ : wpAny _ _ _ _ _ _))
    replace hz0 : ZipR u0 z TI TO .ellipsis f := hz0
    replace hs0 : Heap.SameBut z hp u0 := hs0
    refine wpAny_bind ?_
    simp only [List.zipIdx_cons, List.zipIdx_nil, List.forIn_nil, List.forIn_cons]
    refine wpAny_bind (wpAny_bind (wpAny_onRaise (?_ : wpAny _ _ _ _ _ _)))
    show wpAny _ _ (Builtin.SmallTypes.nextOf (.ref i1) >>= _) _ _ ⟨u0, gs, dr, tk0, oss⟩
    by_cases lt1 : i < n1
    · refine wpAny_bind (D1.item i _ _ _ lt1 (D1.over st1 hs0 S.zf1) fun x1 v1 tk1 hx1 sn1 hv1 => wpAny_pure (?_ : wpAny _ _ _ _ _ _))
      replace hv1 : Heap.SameBut i1 u0 v1 := hv1
      have hU1 : IsTupOf2 v1 TO a1 a2 := hv1.extBut _ _ S.Ti1 (hs0.extBut _ _ S.TOz hTO)
      refine wpAny_bind (wpAny_seqItems (s := ⟨v1, gs, dr, tk1, oss⟩) hU1 rfl ?_)
      refine wpAny_bind (updateSeq_IsTupOf2 (s := ⟨v1, gs, dr, tk1, oss⟩) hU1 fun u1 hT1 hs1 => ?_)
      replace hT1 : IsTupOf2 u1 TO x1 a2 := hT1
      replace hs1 : Heap.SameBut TO v1 u1 := hs1
      refine wpAny_bind (wpAny_letGo (wpAny_pure (?_ : wpAny _ _ _ _ _ _)))
      refine wpAny_bind (wpAny_bind (wpAny_onRaise (?_ : wpAny _ _ _ _ _ _)))
      show wpAny _ _ (Builtin.SmallTypes.nextOf (.ref i2) >>= _) _ _ ⟨u1, gs, dr, tk1, oss⟩
      by_cases lt2 : i < n2
      · refine wpAny_bind (D2.item i _ _ _ lt2 (D2.over (D2.over (D2.over st2 hs0 S.zf2) hv1 S.sep1_2) hs1 S.Tf2) fun x2 v2 tk2 hx2 sn2 hv2 => wpAny_pure (?_ : wpAny _ _ _ _ _ _))
        replace hv2 : Heap.SameBut i2 u1 v2 := hv2
        have hU2 : IsTupOf2 v2 TO x1 a2 := hv2.extBut _ _ S.Ti2 hT1
        refine wpAny_bind (wpAny_seqItems (s := ⟨v2, gs, dr, tk2, oss⟩) hU2 rfl ?_)
        refine wpAny_bind (updateSeq_IsTupOf2 (s := ⟨v2, gs, dr, tk2, oss⟩) hU2 fun u2 hT2 hs2 => ?_)
        replace hT2 : IsTupOf2 u2 TO x1 x2 := hT2
        replace hs2 : Heap.SameBut TO v2 u2 := hs2
        refine wpAny_bind (wpAny_letGo (wpAny_pure (wpAny_pure (?_ : wpAny _ _ _ _ _ _))))
        refine wpAny_bind (wpAny_seqItems (s := ⟨u2, gs, dr, tk2, oss⟩) hT2 rfl ?_)
        refine wpAny_bind (wpAny_newTuple (?_ : wpAny _ _ _ _ _ _))
        have esz : u2.objs.size = hp.objs.size := by rw [hs2.1, hv2.1, hs1.1, hv1.1, hs0.1]
        have hzz : ZipR u2 z TI TO .ellipsis f := (hs2.extBut _ _ S.TOz.symm (hv2.extBut _ _ S.zi2 (hs1.extBut _ _ S.TOz.symm (hv1.extBut _ _ S.zi1 hz0))))
        have kk : ∀ c o, c ≠ z → c ≠ TO → c ≠ i1 → c ≠ i2 → hp.get? c = some o → u2.get? c = some o := fun c o cz cT c1 c2 e =>
          hs2.extBut _ _ cT (hv2.extBut _ _ c2 (hs1.extBut _ _ cT (hv1.extBut _ _ c1 (hs0.extBut _ _ cz e))))
        have j1 : St1 (i + 1) u2 := D1.over (D1.over (D1.over sn1 hs1 S.Tf1) hv2 S.sep2_1) hs2 S.Tf1
        have j2 : St2 (i + 1) u2 := D2.over sn2 hs2 S.Tf2
        have zlt : z < u2.objs.size := Heap.lt_size hzz
        show wpAny _ _ (Builtin.SmallTypes.ownedTupleHandOut (.ref z) (.ref u2.objs.size) >>= _) _ _ ⟨u2.push { cls := .type "tuple", data := .seq #[x1, x2] }, gs, dr, tk2, oss⟩
        refine wpAny_bind ?_
        (unfold Builtin.SmallTypes.ownedTupleHandOut; skip)
        have hz6 : ZipR (u2.push { cls := .type "tuple", data := .seq #[x1, x2] }) z TI TO .ellipsis f := Heap.get?_push_of_some _ hzz
        refine wpAny_bind (wpAny_setField_rec hz6 (by simp) fun w7 hz7 hs7 => ?_)
        replace hz7 : ZipR w7 z TI TO (rawInt u2.objs.size) f := hz7
        refine wpAny_setField_rec hz7 (by simp) fun w8 hz8 hs8 => ?_
        replace hz8 : ZipR w8 z TI TO (rawInt u2.objs.size) false := hz8
        replace hs7 : Heap.SameBut z (u2.push { cls := .type "tuple", data := .seq #[x1, x2] }) w7 := hs7
        replace hs8 : Heap.SameBut z w7 w8 := hs8
        have up : ∀ c o, c ≠ z → u2.get? c = some o → w8.get? c = some o := fun c o c1 e => hs8.extBut _ _ c1 (hs7.extBut _ _ c1 (Heap.get?_push_of_some _ e))
        have hT8 : IsTupOf2 w8 u2.objs.size x1 x2 := hs8.extBut _ _ (Nat.ne_of_gt zlt) (hs7.extBut _ _ (Nat.ne_of_gt zlt) (Heap.get?_push_size _ rfl))
        have sz8 : w8.objs.size = u2.objs.size + 1 := by rw [hs8.1, hs7.1, Heap.size_push]
        refine wpAny_pure ⟨_, rfl, ?_⟩
        show Q (.ref u2.objs.size) ⟨w8, gs, dr, tk2, oss⟩
        rw [esz] at hz8 hT8 sz8 ⊢
        exact hQ lt1 lt2 x1 x2 w8 tk2 hx1 hx2 ⟨_, _, hz8⟩ ⟨_, _, up _ _ S.TOz hT2⟩ (D1.frame _ _ _ j1 fun b hb o e => up b o (fun q => S.zf1 (q ▸ hb)) e) (D2.frame _ _ _ j2 fun b hb o e => up b o (fun q => S.zf2 (q ▸ hb)) e) hT8 sz8 fun c o cz cT c1 c2 e => up c o cz (kk c o cz cT c1 c2 e)
      · have ei : i = n2 := by omega
        refine wpAny_bind (D2.done ⟨u1, gs, dr, tk1, oss⟩ _ _ (by rw [← ei]; exact (D2.over (D2.over (D2.over st2 hs0 S.zf2) hv1 S.sep1_2) hs1 S.Tf2)) fun q e hq he => ?_)
        replace hq : Heap.ExtBut i2 u1 q := hq
        obtain ⟨oe, e1, e2⟩ := he
        replace e1 : q.get? e = some oe := e1
        have hzq : ZipR q z TI TO .ellipsis f := hq _ _ S.zi2 (hs1.extBut _ _ S.TOz.symm (hv1.extBut _ _ S.zi1 hz0))
        have ez : e ≠ z := fun x => by subst x; rw [hzq] at e1; cases e1; simp at e2
        refine wpAny_setField_rec (s := ⟨q, gs, dr, tk1, oss⟩) hzq (by simp) fun q' _ sb => ?_
        replace sb : Heap.SameBut z q q' := sb
        exact hE (.inr ei) q' tk1 e (fun c o cz cT c1 c2 x => sb.extBut _ _ cz (hq _ _ c2 (hs1.extBut _ _ cT (hv1.extBut _ _ c1 (hs0.extBut _ _ cz x))))) ⟨oe, sb.extBut _ _ ez e1, e2⟩
    · have ei : i = n1 := by omega
      refine wpAny_bind (D1.done ⟨u0, gs, dr, tk0, oss⟩ _ _ (by rw [← ei]; exact (D1.over st1 hs0 S.zf1)) fun q e hq he => ?_)
      replace hq : Heap.ExtBut i1 u0 q := hq
      obtain ⟨oe, e1, e2⟩ := he
      replace e1 : q.get? e = some oe := e1
      have hzq : ZipR q z TI TO .ellipsis f := hq _ _ S.zi1 hz0
      have ez : e ≠ z := fun x => by subst x; rw [hzq] at e1; cases e1; simp at e2
      refine wpAny_setField_rec (s := ⟨q, gs, dr, tk0, oss⟩) hzq (by simp) fun q' _ sb => ?_
      replace sb : Heap.SameBut z q q' := sb
      exact hE (.inl ei) q' tk0 e (fun c o cz cT c1 c2 x => sb.extBut _ _ cz (hq _ _ c1 (hs0.extBut _ _ cz x))) ⟨oe, sb.extBut _ _ ez e1, e2⟩
  · -- the pair is out
    intro u0 ⟨q, f', hz0⟩ hs0
    replace hs0 : Heap.SameBut z hp u0 := hs0
    simp only [Bool.false_eq_true, ite_false]
    refine wpAny_bind ?_
    rw [← Array.forIn_toList]
    simp only [List.forIn_nil, List.forIn_cons]
    refine wpAny_bind (wpAny_bind (wpAny_holding (?_ : wpAny _ _ _ _ _ _)))
    show wpAny _ _ (Builtin.SmallTypes.nextOf (.ref i1) >>= _) _ _ ⟨u0, gs, dr, tk0, oss⟩
    by_cases lt1 : i < n1
    · refine wpAny_bind (D1.item i _ _ _ lt1 (D1.over st1 hs0 S.zf1) fun x1 v1 tk1 hx1 sn1 hv1 => wpAny_pure (wpAny_pure (?_ : wpAny _ _ _ _ _ _)))
      replace hv1 : Heap.SameBut i1 u0 v1 := hv1
      refine wpAny_bind (wpAny_bind (wpAny_holding (?_ : wpAny _ _ _ _ _ _)))
      show wpAny _ _ (Builtin.SmallTypes.nextOf (.ref i2) >>= _) _ _ ⟨v1, gs, dr, tk1, oss⟩
      by_cases lt2 : i < n2
      · refine wpAny_bind (D2.item i _ _ _ lt2 (D2.over (D2.over st2 hs0 S.zf2) hv1 S.sep1_2) fun x2 v2 tk2 hx2 sn2 hv2 => wpAny_pure (wpAny_pure (wpAny_pure (?_ : wpAny _ _ _ _ _ _))))
        replace hv2 : Heap.SameBut i2 v1 v2 := hv2
        show wpAny _ _ (newTuple [x1, x2] >>= _) _ _ ⟨v2, gs, dr, tk2, oss⟩
        refine wpAny_bind (wpAny_newTuple (?_ : wpAny _ _ _ _ _ _))
        have esz : v2.objs.size = hp.objs.size := by rw [hv2.1, hv1.1, hs0.1]
        have hz3 : ZipR v2 z TI TO (rawInt q) f' := hv2.extBut _ _ S.zi2 (hv1.extBut _ _ S.zi1 hz0)
        have kk : ∀ c o, c ≠ z → c ≠ i1 → c ≠ i2 → hp.get? c = some o → v2.get? c = some o := fun c o c1 c2 c3 e => hv2.extBut _ _ c3 (hv1.extBut _ _ c2 (hs0.extBut _ _ c1 e))
        have hT3 : IsTupOf2 v2 TO a1 a2 := kk _ _ S.TOz S.Ti1 S.Ti2 hTO
        have j1 : St1 (i + 1) v2 := D1.over sn1 hv2 S.sep2_1
        refine wpAny_pure ⟨_, rfl, ?_⟩
        show Q (.ref v2.objs.size) ⟨v2.push { cls := .type "tuple", data := .seq #[x1, x2] }, gs, dr, tk2, oss⟩
        have hT8 : IsTupOf2 (v2.push { cls := .type "tuple", data := .seq #[x1, x2] }) v2.objs.size x1 x2 := Heap.get?_push_size _ rfl
        have sz8 : (v2.push { cls := .type "tuple", data := .seq #[x1, x2] }).objs.size = v2.objs.size + 1 := by rw [Heap.size_push]
        rw [esz] at hT8 sz8 ⊢
        exact hQ lt1 lt2 x1 x2 _ tk2 hx1 hx2 ⟨_, _, Heap.get?_push_of_some _ hz3⟩ ⟨_, _, Heap.get?_push_of_some _ hT3⟩ (D1.frame _ _ _ j1 fun b hb o e => Heap.get?_push_of_some _ e) (D2.frame _ _ _ sn2 fun b hb o e => Heap.get?_push_of_some _ e) hT8 sz8
          fun c o cz cT c1 c2 e => Heap.get?_push_of_some _ (kk c o cz c1 c2 e)
      · have ei : i = n2 := by omega
        refine wpAny_bind (D2.done ⟨v1, gs, dr, tk1, oss⟩ _ _ (by rw [← ei]; exact (D2.over (D2.over st2 hs0 S.zf2) hv1 S.sep1_2)) fun q2 e hq he => ?_)
        exact hE (.inr ei) q2 tk1 e (fun c o cz cT c1 c2 x => hq _ _ c2 (hv1.extBut _ _ c1 (hs0.extBut _ _ cz x))) he
    · have ei : i = n1 := by omega
      refine wpAny_bind (D1.done ⟨u0, gs, dr, tk0, oss⟩ _ _ (by rw [← ei]; exact (D1.over st1 hs0 S.zf1)) fun q2 e hq he => ?_)
      exact hE (.inl ei) q2 tk0 e (fun c o cz cT c1 c2 x => hq _ _ c1 (hs0.extBut _ _ cz x)) he
/-- next of an enumerate over such a zip: the pair at s.heap's end, the new one behind it -/
theorem enumZ_next {e : Addr} {old : Value} {Q : Value → Shared → Prop} (S : ZipSep2 z TI TO i1 i2 fp1 fp2) (D1 : Draws prog w A.in1 i1 fp1 n1 P1 St1) (D2 : Draws prog w A.in1 i2 fp2 n2 P2 St2) (ho : OwnT o)
    (he : IsEnum s.heap e z (i : Int) old) (hz : ZipR s.heap z TI TO o f) (hTI : IsTupOf2 s.heap TI (.ref i1) (.ref i2)) (hTO : IsTupOf2 s.heap TO a1 a2) (st1 : St1 i s.heap) (st2 : St2 i s.heap) (le1 : i ≤ n1) (le2 : i ≤ n2)
    (ez : e ≠ z) (eT : e ≠ TO) (ei1 : e ≠ i1) (ei2 : e ≠ i2)
    (hQ : i < n1 → i < n2 → ∀ x1 x2 h1 h' tk, P1 i x1 → P2 i x2 → (∃ (T : Addr) (f' : Bool), ZipR h1 z TI TO (rawInt T) f') → (∃ b1 b2, IsTupOf2 h1 TO b1 b2) → St1 (i + 1) h1 → St2 (i + 1) h1 → IsTupOf2 h1 s.heap.objs.size x1 x2 →
      h1.objs.size = s.heap.objs.size + 1 → (∀ c o, c ≠ z → c ≠ TO → c ≠ i1 → c ≠ i2 → s.heap.get? c = some o → h1.get? c = some o) →
      IsEnumOut h' e z ((i : Int) + 1) (.ref s.heap.objs.size) (s.heap.objs.size + 1) → IsTupOf2 h' (s.heap.objs.size + 1) (.int i tk) (.ref s.heap.objs.size) → (∀ c o, c ≠ e → h1.get? c = some o → h'.get? c = some o) →
      Q (.ref (s.heap.objs.size + 1)) { s with heap := h', toks := tk + 1 })
    (hE : (i = n1 ∨ i = n2) → ∀ h' tk x, (∀ c o, c ≠ z → c ≠ TO → c ≠ i1 → c ≠ i2 → s.heap.get? c = some o → h'.get? c = some o) → (∃ o, h'.get? x = some o ∧ o.cls = .type "StopIteration") → E (.ref x) { s with heap := h', toks := tk }) :
    wpAny (model prog w) A (Builtin.«enumerate.__next__» ⟨[.ref e], []⟩) (fun fin s' => ∃ v, fin = .done (.ret v) ∧ Q v s') E s := by
  obtain ⟨hp, gs, dr, tk0, oss⟩ := s
  (show wpAny _ _ (field (.ref e) 2 >>= _) _ _ _; skip)
  refine wpAny_bind (wpAny_field he rfl (x := .ref z) rfl (?_ : wpAny _ _ _ _ _ _))
  have hTy : Shared.TypeIs ⟨hp, gs, dr, tk0, oss⟩ (.ref z) "zip" := ⟨_, hz, rfl⟩
  refine wpAny_bind ?_
  (unfold Builtin.SmallTypes.nextOf; skip)
  refine wpAny_bind (wpAny_callSpecial?_slot (name := Str.ofString "__next__") hTy F.slot_zip_next (wpAny_call_entry F.slot_zip_next hTy F.entry_zip_next (zipR_next S D1 D2 ho hz hTI hTO st1 st2 le1 le2 ?_ ?_) (F.args_zip_next_1 _)))
  · intro l1 l2 x1 x2 h1 tk p1 p2 hz1 hTO1 s1 s2 hT1 sz1 k1
    refine wpAny_pure (?_ : wpAny _ _ _ _ _ _)
    have e1 : IsEnum h1 e z (i : Int) old := k1 _ _ ez eT ei1 ei2 he
    show wpAny _ _ (field (.ref e) 3 >>= _) _ _ ⟨h1, gs, dr, tk, oss⟩
    refine wpAny_bind (wpAny_field e1 rfl (x := rawInt i) rfl (?_ : wpAny _ _ _ _ _ _))
    show wpAny _ _ (field (.ref e) 4 >>= _) _ _ ⟨h1, gs, dr, tk, oss⟩
    refine wpAny_bind (wpAny_field e1 rfl (x := .none) rfl (?_ : wpAny _ _ _ _ _ _))
    show wpAny _ _ (mkInt i >>= _) _ _ ⟨h1, gs, dr, tk, oss⟩
    refine wpAny_bind (wpAny_mkInt (?_ : wpAny _ _ _ _ _ _))
    show wpAny _ _ (setField (.ref e) 3 (rawInt ((i : Int) + 1)) >>= _) _ _ ⟨h1, gs, dr, tk + 1, oss⟩
    refine wpAny_bind (wpAny_setField_rec e1 (by simp) fun h2 e2 b2 => (?_ : wpAny _ _ _ _ _ _))
    replace b2 : Heap.SameBut e h1 h2 := b2
    replace e2 : IsEnum h2 e z ((i : Int) + 1) old := e2
    show wpAny _ _ (setField (.ref e) 4 .none >>= _) _ _ ⟨h2, gs, dr, tk + 1, oss⟩
    refine wpAny_bind (wpAny_setField_rec e2 (by simp) fun h3 e3 b3 => (?_ : wpAny _ _ _ _ _ _))
    replace b3 : Heap.SameBut e h2 h3 := b3
    replace e3 : IsEnum h3 e z ((i : Int) + 1) old := e3
    show wpAny _ _ (newTuple [.int i tk, .ref hp.objs.size] >>= _) _ _ ⟨h3, gs, dr, tk + 1, oss⟩
    refine wpAny_bind (wpAny_newTuple (?_ : wpAny _ _ _ _ _ _))
    have e4 : IsEnum (h3.push { cls := .type "tuple", data := .seq #[.int i tk, .ref hp.objs.size] }) e z ((i : Int) + 1) old := Heap.get?_push_of_some _ e3
    generalize hh4 : h3.push { cls := .type "tuple", data := .seq #[.int i tk, .ref hp.objs.size] } = h4 at e4
    have esz : h3.objs.size = hp.objs.size + 1 := by rw [b3.1, b2.1, sz1]
    have el : e < hp.objs.size := Heap.lt_size he
    have t4 : h4.get? (hp.objs.size + 1) = some { cls := .type "tuple", data := .seq #[.int i tk, .ref hp.objs.size] } := by rw [← hh4, ← esz]; exact Heap.get?_push_size _ rfl
    have k4 : ∀ c o, c ≠ e → h1.get? c = some o → h4.get? c = some o := fun c o ce hc => by
      rw [← hh4]; exact Heap.get?_push_of_some _ (b3.extBut c o ce (b2.extBut c o ce hc))
    show wpAny _ _ (Builtin.SmallTypes.ownedTupleIsFree (.ref e) >>= _) _ _ ⟨h4, gs, dr, tk + 1, oss⟩
    rw [esz]
    clear hh4 e3 b3 e2 b2 esz h3 h2
    refine wpAny_bind ?_
    (unfold Builtin.SmallTypes.ownedTupleIsFree; skip)
    refine wpAny_bind (wpAny_field e4 rfl (x := .none) rfl (wpAny_pure ?_))
    simp only [if_true]
    refine wpAny_bind (wpAny_rule (?_ : wpAny _ _ _ _ _ _))
    refine wpAny_bind (wpAny_field e4 rfl (x := old) rfl (?_ : wpAny _ _ _ _ _ _))
    refine wpAny_bind (wpAny_setField_rec e4 (by simp) fun h5 e5 b5 => (?_ : wpAny _ _ _ _ _ _))
    replace b5 : Heap.SameBut e h4 h5 := b5
    replace e5 : IsEnum h5 e z ((i : Int) + 1) (.ref hp.objs.size) := e5
    show wpAny _ _ (Builtin.SmallTypes.ownedTupleHandOut (.ref e) (.ref (hp.objs.size + 1)) >>= _) _ _ ⟨h5, gs, dr, tk + 1, oss⟩
    refine wpAny_bind ?_
    (unfold Builtin.SmallTypes.ownedTupleHandOut; skip)
    refine wpAny_bind (wpAny_setField_rec e5 (by simp) fun h6 e6 b6 => ?_)
    replace b6 : Heap.SameBut e h5 h6 := b6
    replace e6 : IsEnumOut h6 e z ((i : Int) + 1) (.ref hp.objs.size) (hp.objs.size + 1) := e6
    refine wpAny_setField_rec e6 (by simp) fun h7 e7 b7 => ?_
    replace b7 : Heap.SameBut e h6 h7 := b7
    replace e7 : IsEnumOut h7 e z ((i : Int) + 1) (.ref hp.objs.size) (hp.objs.size + 1) := e7
    have up : ∀ c o, c ≠ e → h4.get? c = some o → h7.get? c = some o := fun c o ce hc => b7.extBut c o ce (b6.extBut c o ce (b5.extBut c o ce hc))
    exact wpAny_bind (wpAny_letGo (wpAny_pure ⟨_, rfl, hQ l1 l2 x1 x2 h1 h7 tk p1 p2 hz1 hTO1 s1 s2 hT1 sz1 k1 e7 (up _ _ (Nat.ne_of_gt (Nat.lt_succ_of_lt el)) t4) fun c o ce hc => up c o ce (k4 c o ce hc)⟩))
  · exact fun hend h' tk x k hx => hE hend h' tk x k hx
theorem pyNext_enumZ {e : Addr} {old : Value} {Q : Option Value → Shared → Prop} (S : ZipSep2 z TI TO i1 i2 fp1 fp2) (D1 : Draws prog w A.in1.in1 i1 fp1 n1 P1 St1) (D2 : Draws prog w A.in1.in1 i2 fp2 n2 P2 St2) (ho : OwnT o)
    (he : IsEnum s.heap e z (i : Int) old) (hz : ZipR s.heap z TI TO o f) (hTI : IsTupOf2 s.heap TI (.ref i1) (.ref i2)) (hTO : IsTupOf2 s.heap TO a1 a2) (st1 : St1 i s.heap) (st2 : St2 i s.heap) (le1 : i ≤ n1) (le2 : i ≤ n2)
    (ez : e ≠ z) (eT : e ≠ TO) (ei1 : e ≠ i1) (ei2 : e ≠ i2)
    (hQ : i < n1 → i < n2 → ∀ x1 x2 h1 h' tk, P1 i x1 → P2 i x2 → (∃ (T : Addr) (f' : Bool), ZipR h1 z TI TO (rawInt T) f') → (∃ b1 b2, IsTupOf2 h1 TO b1 b2) → St1 (i + 1) h1 → St2 (i + 1) h1 → IsTupOf2 h1 s.heap.objs.size x1 x2 →
      h1.objs.size = s.heap.objs.size + 1 → (∀ c o, c ≠ z → c ≠ TO → c ≠ i1 → c ≠ i2 → s.heap.get? c = some o → h1.get? c = some o) →
      IsEnumOut h' e z ((i : Int) + 1) (.ref s.heap.objs.size) (s.heap.objs.size + 1) → IsTupOf2 h' (s.heap.objs.size + 1) (.int i tk) (.ref s.heap.objs.size) → (∀ c o, c ≠ e → h1.get? c = some o → h'.get? c = some o) →
      Q (some (.ref (s.heap.objs.size + 1))) { s with heap := h', toks := tk + 1 })
    (hE : (i = n1 ∨ i = n2) → ∀ h' tk, (∀ c o, c ≠ z → c ≠ TO → c ≠ i1 → c ≠ i2 → s.heap.get? c = some o → h'.get? c = some o) → Q none { s with heap := h', toks := tk }) :
    wpAny (model prog w) A (pyNext (.ref e)) Q E s := by
  have hTy : s.TypeIs (.ref e) "enumerate" := ⟨_, he, rfl⟩
  (unfold pyNext; skip)
  refine wpAny_bind (wpAny_attempt (wpAny_callSpecial?_slot (name := Str.ofString "__next__") hTy F.slot_enumerate_next (wpAny_call_entry F.slot_enumerate_next hTy F.entry_enumerate_next
    (enumZ_next S D1 D2 ho he hz hTI hTO st1 st2 le1 le2 ez eT ei1 ei2 (fun l1 l2 x1 x2 h1 h' tk p1 p2 q1 q2 q3 q4 q5 q6 q7 q8 q9 q10 => wpAny_pure (hQ l1 l2 x1 x2 h1 h' tk p1 p2 q1 q2 q3 q4 q5 q6 q7 q8 q9 q10)) fun hend h' tk x k hx => ?_) (F.args_enumerate_next_1 _))))
  obtain ⟨ox, hx1, hx2⟩ := hx
  refine wpAny_bind (wpAny_isInstance (T := "StopIteration") (b := true) ⟨ox, hx1, hx2⟩ isSubtype_stop ?_)
  exact wpAny_pure (hE hend _ _ k)
theorem enum_newZ (z TI TO : Addr) :
    Meets (Builtin.«enumerate.__new__» ⟨[.type "enumerate", .ref z], []⟩) (fun _ R s => IsZip s.heap z TI TO .none ∧
      R (.ok (.ret (.ref s.heap.objs.size))) { s with heap := s.heap.push { cls := .type "enumerate", data := .fields #[.none, .bool false, .ref z, rawInt 0, .none, .none] } }) :=
  .of_wp fun prog w A R s h => by
    obtain ⟨hp, gs, dr, tk0, oss⟩ := s; obtain ⟨hz, h⟩ := h
    have hsub := sub_enumerate
    have q1 : ∀ {A' : Around} {E : Value → Shared → Prop} {Q : Value → Shared → Prop}, Q (.ref z) ⟨hp, gs, dr, tk0, oss⟩ → wpAny (model prog w) A' (pyIter (.ref z)) Q E ⟨hp, gs, dr, tk0, oss⟩ := fun q => wpAny_pyIter_zip hz q
    wp_walk using q1
    refine wpAny_stack_any fun st => wpAny_pure ?_
    split
    · rename_i c _ _ _ _ _
      cases (c == Value.type "enumerate")
      · wp_walk using q1
        exact ⟨_, rfl, h⟩
      · wp_walk using q1
        exact ⟨_, rfl, h⟩
    · wp_walk using q1
      exact ⟨_, rfl, h⟩
theorem call_enumZ {Q : Value → Shared → Prop} (hz : IsZip s.heap z TI TO .none)
    (h : ∀ h', IsEnum h' s.heap.objs.size z 0 .none → h'.objs.size = s.heap.objs.size + 1 → (∀ b o, s.heap.get? b = some o → h'.get? b = some o) → Q (.ref s.heap.objs.size) { s with heap := h' }) :
    wpAny (model prog w) A (call (.type "enumerate") [.ref z]) Q E s := by
  refine callType_new F.called_enumerate (by decide) (F.typeCall_enumerate_1 _) (F.newCall_enumerate_1 _) (fun obj => F.args_object_init_2 obj _) F.entry_enumerate_new (enum_newZ z TI TO) ⟨hz, ?_⟩
  show _ ∧ _
  have he : IsEnum (s.heap.push { cls := .type "enumerate", data := .fields #[.none, .bool false, .ref z, rawInt 0, .none, .none] }) s.heap.objs.size z 0 .none := Heap.get?_push_size _ rfl
  exact ⟨⟨_, he, rfl⟩, h _ he (Heap.size_push ..) fun b o x => Heap.get?_push_of_some _ x⟩
end
/-- enumerate over zip of two such: a new pair, and about it a new one with its number -/
def ItEZ (K : PySem.W.Frag) (k m : Bool) (a b : Addr) : It :=
  ⟨fun i H => ∃ (xs ys : List V) (x y : V), SqB K k H a xs ∧ SqB K m H b ys ∧ xs[i]? = some x ∧ ys[i]? = some y,
    fun i H v H' => ∃ T U x y, v = .ref U ∧ H T = none ∧ upd H T (.tup [x, y]) U = none ∧ H' = upd (upd H T (.tup [x, y])) U (.tup [.int (i : Nat), .ref T]) ∧ (∀ xs, SqB K k H a xs → xs[i]? = some x) ∧ ∀ ys, SqB K m H b ys → ys[i]? = some y,
    fun i H => ∃ xs ys : List V, SqB K k H a xs ∧ SqB K m H b ys ∧ i ≤ xs.length ∧ i ≤ ys.length ∧ (xs.length = i ∨ ys.length = i)⟩
structure Apart6 (e z TI TO i1 i2 a b : Addr) : Prop where
  D : Apart5 z TI TO i1 i2 a b
  ez : e ≠ z
  eTI : e ≠ TI
  eTO : e ≠ TO
  e1 : e ≠ i1
  e2 : e ≠ i2
theorem apart6_new {N a b : Nat} (ha : a < N) (hb : b < N) : Apart6 (N + 5) (N + 4) (N + 2) (N + 3) N (N + 1) a b :=
  ⟨apart_new ha hb, (show N + 5 ≠ N + 4 by omega), (show N + 5 ≠ N + 2 by omega), (show N + 5 ≠ N + 3 by omega), (show N + 5 ≠ N by omega), (show N + 5 ≠ N + 1 by omega)⟩
theorem turn_enumZ {P : Program} {w : World} {K : PySem.W.Frag} {elts : List Expr} {kk : Nat} {tpos : Pos} {a b e z TI TO i1 i2 : Addr} {k m : Bool} (D : Apart6 e z TI TO i1 i2 a b) :
    Turn P w K (.Tuple elts kk tpos) (ItEZ K k m a b) [e, z, TI, TO, i1, i2] e
      (fun i h => (∃ old, IsEnum h e z (i : Int) old) ∧ (∃ o f, OwnT o ∧ ZipR h z TI TO o f) ∧ IsTupOf2 h TI (.ref i1) (.ref i2) ∧ (∃ x y, IsTupOf2 h TO x y) ∧ ItB k h i1 a i ∧ ItB m h i2 b i) where
  mem := List.mem_cons_self ..
  obj := fun i h st c hc => by
    obtain ⟨⟨old, he⟩, ⟨o, f, _, hz⟩, hTI, ⟨x, y, hTO⟩, h1, h2⟩ := st
    simp only [List.mem_cons, List.not_mem_nil, or_false] at hc
    rcases hc with q | q | q | q | q | q
    · subst q; exact ⟨_, he, fun v q => by cases q⟩
    · subst q; exact ⟨_, hz, fun v q => by cases q⟩
    · subst q; exact ⟨_, hTI, fun v q => by cases q⟩
    · subst q; exact ⟨_, hTO, fun v q => by cases q⟩
    · subst q; exact h1.obj
    · subst q; exact h2.obj
  keep := fun i h h' st k => by
    obtain ⟨⟨old, he⟩, ⟨o, f, ho, hz⟩, hTI, ⟨x, y, hTO⟩, h1, h2⟩ := st
    exact ⟨⟨old, k e (by simp) _ he⟩, ⟨o, f, ho, k z (by simp) _ hz⟩, k TI (by simp) _ hTI, ⟨x, y, k TO (by simp) _ hTO⟩, h1.at (k i1 (by simp)), h2.at (k i2 (by simp))⟩
  item := by
    intro X hP hw hK hc i pins s σ H E I hf st hg
    subst hP hw hK
    obtain ⟨⟨old, he⟩, ⟨o, f, ho, hz⟩, hTI, ⟨x0, y0, hTO⟩, h1, h2⟩ := st
    obtain ⟨xs, ys, x, y, hqx, hqy, hx, hy⟩ := hg
    obtain ⟨its, rv, p, _⟩ := seqB I hqx
    obtain ⟨its2, rv2, p2, _⟩ := seqB I hqy
    obtain ⟨u, hu, ru⟩ := rv.get hx
    obtain ⟨u2, hu2, ru2⟩ := rv2.get hy
    have hh : X.A.in1.in1.handled = none := I.ok.hd hc
    have l1 : i < its.toArray.size := by rw [List.size_toArray]; exact (List.getElem?_eq_some_iff.mp hu).1
    have l2 : i < its2.toArray.size := by rw [List.size_toArray]; exact (List.getElem?_eq_some_iff.mp hu2).1
    have hel := Heap.lt_size he
    refine pyNext_enumZ D.D.S (drawsB hh k i1 a D.D.a1 its.toArray) (drawsB hh m i2 b D.D.b2 its2.toArray) ho he hz hTI hTO ⟨h1, p⟩ ⟨h2, p2⟩ (Nat.le_of_lt l1) (Nat.le_of_lt l2) D.ez D.eTO D.e1 D.e2 (fun _ _ v1 v2 w1 w2 tk e1 e2 z' TO' d1 d2 hT hsz hk ho' hU hk2 => ?_) fun hend => by omega
    have q1 : v1 = u := by
      have e1' : its[i]? = some v1 := by simpa using e1
      rw [hu] at e1'; exact (Option.some.inj e1').symm
    have q2 : v2 = u2 := by
      have e2' : its2[i]? = some v2 := by simpa using e2
      rw [hu2] at e2'; exact (Option.some.inj e2').symm
    subst q1 q2
    refine ⟨_, rfl, wpAny_letOwnedTupleGo_enum (s := { s with heap := w2, toks := tk + 1 }) ho' fun w3 he3 sb => ?_⟩
    obtain ⟨qT, qf, z'⟩ := z'
    obtain ⟨b1, b2, TO'⟩ := TO'
    have k3 : ∀ c o, c ≠ e → w1.get? c = some o → w3.get? c = some o := fun c o n q => (sb.2 c n).trans (hk2 c o n q)
    have new1 : ObjOk X.prog X.w (upd H s.heap.objs.size (.tup [x, y])) w1 s.heap.objs.size (.tup [x, y]) :=
      ⟨(by show 2 ≤ sizeLine; decide), [v1, v2], .cons ru (.cons ru2 .nil), ⟨_, hT, rfl, _, rfl⟩⟩
    have I1 : Inv X pins σ (upd H s.heap.objs.size (.tup [x, y])) { s with heap := w1, toks := tk } :=
      I.turnedNew (t' := tk) (ch := [e, z, TI, TO, i1, i2]) (fun c o hb q => hk c o (fun e => hb (by simp [e])) (fun e => hb (by simp [e])) (fun e => hb (by simp [e])) (fun e => hb (by simp [e])) q) hf (Nat.le_refl _) new1
    have hU3 : w3.get? (s.heap.objs.size + 1) = some { cls := .type "tuple", data := .seq #[.int i tk, .ref s.heap.objs.size] } := (sb.2 _ (Nat.ne_of_gt (Nat.lt_succ_of_lt hel))).trans hU
    have new2 : ObjOk X.prog X.w (upd (upd H s.heap.objs.size (.tup [x, y])) (s.heap.objs.size + 1) (.tup [.int (i : Nat), .ref s.heap.objs.size])) w3 (s.heap.objs.size + 1) (.tup [.int (i : Nat), .ref s.heap.objs.size]) :=
      ⟨(by show 2 ≤ sizeLine; decide), [.int i tk, .ref s.heap.objs.size], .cons ⟨_, rfl⟩ (.cons rfl .nil), ⟨_, hU3, rfl, _, rfl⟩⟩
    have hf1 : ∀ c ∈ [e], FpOk X pins (upd H s.heap.objs.size (.tup [x, y])) c := fun c hcm => by
      cases List.mem_singleton.mp hcm
      obtain ⟨f0, f1⟩ := hf e (by simp)
      exact ⟨by rw [upd_ne (Nat.ne_of_lt hel)]; exact f0, f1⟩
    have I2 : Inv X pins σ (upd (upd H s.heap.objs.size (.tup [x, y])) (s.heap.objs.size + 1) (.tup [.int (i : Nat), .ref s.heap.objs.size])) { s with heap := w3, toks := tk + 1 } :=
      I1.turnedNew (t' := tk + 1) (ch := [e]) (fun c o hb q => k3 c o (fun z => hb (by simp [z])) q) hf1 (Nat.le_of_eq hsz) new2
    refine ⟨.ref (s.heap.objs.size + 1), _, I2, rfl, ⟨_, _, x, y, rfl, I.hok.fresh (Nat.le_refl _), I1.hok.fresh (Nat.le_of_eq hsz), rfl, fun l hl => by rw [seqB_inj I hl hqx]; exact hx, fun l hl => by rw [seqB_inj I hl hqy]; exact hy⟩, ⟨⟨_, by rw [Int.natCast_succ]; exact he3⟩, ⟨_, qf, .inr ⟨qT, rfl⟩, ?_⟩, ?_, ⟨b1, b2, ?_⟩, ?_, ?_⟩, fun c hcm => ?_⟩
    · exact k3 _ _ D.ez.symm z'
    · exact k3 _ _ D.eTI.symm (hk _ _ D.D.S.TIz D.D.S.TITO D.D.S.TIi1 D.D.S.TIi2 hTI)
    · exact k3 _ _ D.eTO.symm TO'
    · exact d1.1.at fun o q => k3 _ _ D.e1.symm q
    · exact d2.1.at fun o q => k3 _ _ D.e2.symm q
    · have hlt : c < s.heap.objs.size := by
        simp only [List.mem_cons, List.not_mem_nil, or_false] at hcm
        rcases hcm with q | q | q | q | q | q
        · rw [q]; exact hel
        · rw [q]; exact Heap.lt_size hz
        · rw [q]; exact Heap.lt_size hTI
        · rw [q]; exact Heap.lt_size hTO
        · rw [q]; obtain ⟨_, e, _⟩ := h1.obj; exact Heap.lt_size e
        · rw [q]; obtain ⟨_, e, _⟩ := h2.obj; exact Heap.lt_size e
      rw [upd_ne (Nat.ne_of_lt (Nat.lt_succ_of_lt hlt)), upd_ne (Nat.ne_of_lt hlt)]
      exact (hf c hcm).1
  done := by
    intro X hP hw hK hc i pins s σ H E I hf st hg
    subst hP hw hK
    obtain ⟨⟨old, he⟩, ⟨o, f, ho, hz⟩, hTI, ⟨x0, y0, hTO⟩, h1, h2⟩ := st
    obtain ⟨xs, ys, hqx, hqy, le1, le2, hend⟩ := hg
    obtain ⟨its, rv, p, _⟩ := seqB I hqx
    obtain ⟨its2, rv2, p2, _⟩ := seqB I hqy
    have l1 := rv.length
    have l2 := rv2.length
    have hh : X.A.in1.in1.handled = none := I.ok.hd hc
    refine pyNext_enumZ D.D.S (drawsB hh k i1 a D.D.a1 its.toArray) (drawsB hh m i2 b D.D.b2 its2.toArray) ho he hz hTI hTO ⟨h1, p⟩ ⟨h2, p2⟩ (by rw [List.size_toArray]; omega) (by rw [List.size_toArray]; omega) D.ez D.eTO D.e1 D.e2 (fun m1 m2 => by rw [List.size_toArray] at m1 m2; omega) fun _ h' tk hk => ⟨rfl, ?_⟩
    exact I.turnedL (t' := tk) (ch := [e, z, TI, TO, i1, i2]) (fun c o hb q => hk c o (fun e => hb (by simp [e])) (fun e => hb (by simp [e])) (fun e => hb (by simp [e])) (fun e => hb (by simp [e])) q) hf
  self := fun A i s Q E st h => by obtain ⟨⟨_, he⟩, _⟩ := st; exact wpAny_pyIter_enum he h
def iEZ (K : PySem.W.Frag) (ta : TA) : TI := fun σ H R => ta σ H fun vs H1 => ∃ a b xs ys k m, vs = [.ref a, .ref b] ∧ SqB K k H1 a xs ∧ SqB K m H1 b ys ∧ R (ItEZ K k m a b) H1
theorem pi_enumZ {X : Cx} {e e2 : Expr} {ta : TA} {p p2 pos pos2 tpos : Pos} {elts : List Expr} {kk : Nat} (hge : Gl X "enumerate") (hme : X.mg "enumerate" = none) (hg : Gl X "zip") (hm : X.mg "zip" = none) (ha : PA X [e, e2] ta)
    (hs : starEach [e, e2] X.env = (false, eval e X.env) :: starEach [e2] X.env := by rfl) (hpl : (backTo pos2 (starEach [e2] X.env)).any (·.1) = false := by rfl)
    (hs2 : starEach [.Call (.Name "zip" p2) [e, e2] [] pos2] X.env = [(false, eval (.Call (.Name "zip" p2) [e, e2] [] pos2) X.env)] := by rfl) :
    PI X (.Tuple elts kk tpos) (.Call (.Name "enumerate" p) [.Call (.Name "zip" p2) [e, e2] [] pos2] [] pos) (iEZ X.K ta) := by
  refine ⟨fun pins s σ H R I h => ?_⟩
  refine Call_ (ld_blt I hge hme boot_enumerate (callWith_type1 ?_ hs2 rfl))
  rw [hs2]
  show wpAny _ _ (spliced ((false, eval (.Call (.Name "zip" p2) [e, e2] [] pos2) X.env) :: backTo pos [])) _ _ s
  refine Calls.spliced_cons ?_
  refine Call_ (ld_blt I hg hm boot_zip (callWith_type1 (thn (ha.run pos2 pins s σ H _ I h) fun us s1 ⟨vs, H1, I1, r1, a, b, xs, ys, k, m, ev, hqx, hqy, q⟩ => ?_) hs hpl))
  subst ev
  cases r1 with
  | cons r rr =>
    cases rr with
    | cons r' rr =>
      cases rr; cases r; cases r'
      obtain ⟨its, rv, p1, lt1⟩ := seqB I1 hqx
      obtain ⟨its2, rv2, p2, lt2⟩ := seqB I1 hqy
      obtain ⟨o1, B1, j1⟩ := begB (k := k) (a := a) its.toArray
      obtain ⟨o2, B2, j2⟩ := begB (k := m) (a := b) its2.toArray
      refine zip_begins2 B1 B2 p1 p2 fun w1 hz hTI hTO h1 h2 hsz hk => Calls.spliced_nil ?_
      refine call_enumZ (s := { s1 with heap := w1 }) hz fun w2 he hsz2 hk2 => wpAny_pyIter_enum he ?_
      have se : w1.objs.size = s1.heap.objs.size + 5 := hsz
      have he' : IsEnum w2 (s1.heap.objs.size + 5) (s1.heap.objs.size + 4) 0 .none := by rw [← se]; exact he
      have A6 : Apart6 (s1.heap.objs.size + 5) (s1.heap.objs.size + 4) (s1.heap.objs.size + 2) (s1.heap.objs.size + 3) s1.heap.objs.size (s1.heap.objs.size + 1) a b := apart6_new lt1 lt2
      refine ⟨s1.heap.objs.size + 5, [s1.heap.objs.size + 5, s1.heap.objs.size + 4, s1.heap.objs.size + 2, s1.heap.objs.size + 3, s1.heap.objs.size, s1.heap.objs.size + 1], _, ItEZ X.K k m a b, H1, by show Value.ref w1.objs.size = _; rw [se], I1.kept (t' := s1.toks) fun b o x => hk2 b o (hk b o x), turn_enumZ A6, ⟨⟨.none, he'⟩, ⟨.none, false, .inl rfl, hk2 _ _ hz⟩, hk2 _ _ hTI, ⟨_, _, hk2 _ _ hTO⟩, j1 _ _ (hk2 _ _ h1), j2 _ _ (hk2 _ _ h2)⟩, fun c hcm => ?_, q⟩
      have hle : s1.heap.objs.size ≤ c := by
        simp only [List.mem_cons, List.not_mem_nil, or_false] at hcm
        rcases hcm with z | z | z | z | z | z <;> rw [z] <;> first | exact Nat.le_refl _ | exact Nat.le_add_right _ _
      exact I1.fpOk hle (I1.hok.fresh hle)
end Co
namespace Co
open PySem PySem.Spec PyProof.Rows L2
/-! ### defs that are called where no repr is under way (so that they may say repr) -/
abbrev Bare0 (A : Around) : Prop := A.guards = some []
structure FnG (P : Program) (w : World) (K : PySem.W.Frag) (mg : Str → Option Value) (base : Heap) (CX : CXT) (k : Nat) (f : Addr) (fd : FuncData) (ps : List Str) (sp : Sp) : Prop where
  len : ∀ vs H Q E, sp vs H Q E → vs.length = ps.length
  run : ∀ (A : Around) (outer : List Env) (s : Shared) (H : Hp) (args : Args) (us : List Value) (vs : List V) (Q : VK) (E : XK), Bare0 A → Room k A → Env0 P w K mg base A outer s H → BindsTo s fd args (ps.zip us) → Vals vs us → sp vs H Q E → codeAny (model P w) A (.call (.ref f) args) (CR CX outer P w H s Q E) s
section
variable {CX : CXT} {P : Program} {w : World} {K : PySem.W.Frag} {mg : Str → Option Value} {base : Heap}
theorem fnG_of {x qual : Str} {st : Stmt} {f : Addr} {fd : FuncData} {N ps : List Str} {k : Nat} {sp : Sp} (F : Fun K x qual st f fd) (S : FnScope N ps (defScope st)) (len : ∀ vs H Q E, sp vs H Q E → vs.length = ps.length)
    (hbody : ∀ (cdv : Value) (A : Around) (outer : List Env) (s : Shared) (H : Hp) (vs : List V) (Q : VK) (E : XK), Bare0 A → Room k (A.deeper (envOfC qual (defScope st) s.heap.objs.size f cdv)) → sp vs H Q E →
      ∃ t, PSs (cxOf CX P w K mg base N qual (defScope st) f cdv A outer s H E) (defBody st) t ∧ t { nx := fun _ H' => Q .non H', rt := Q } (start N vs) H) : FnG P w K mg base CX (k + 1) f fd ps sp := by
  obtain ⟨oc, od, kV, doc, pm, an, cdv, ct, osl, rfl, lk, hcd⟩ := F.ex
  refine ⟨len, fun A outer s H args us vs Q E ga room e0 bind rel promised => ?_⟩
  have KX : K.In s.heap := e0.mod.kin.keeps fun b o e => (e0.bs b o e).1
  have kinds : ∀ y ∈ ps.zip us, (defScope st).names.lookup y.1 = some .local ∨ ((defScope st).names.lookup y.1 = some .cell ∧ ((cellsFrom (s.heap.objs.size + 1) (defScope st).names []).lookup y.1).isSome = true) := by
    rintro ⟨n, v⟩ hy
    exact (S.par n (List.of_mem_zip hy).1).imp id fun q => ⟨q, PySem.W.cellsFrom_some _ _ _ (.inl q)⟩
  refine codeAny_call_function room.depth (KX _ _ lk) rfl S.co S.gen rfl (PySem.W.codeRec_of KX hcd) (bind _ _ _ _ (wpAny_newFunctionEnv_cells S.kind kinds fun env he s1 x => ?_))
  subst he
  refine ⟨(e0.mod.nolimit.keeps fun b o e => (e0.bs b o e).1).keeps x.toInCall.keep, codeAny_func ?_⟩
  obtain ⟨t, ht, hq⟩ := hbody cdv A outer s H vs Q E ga (room.deeper _) promised
  refine wpAny_mono (ht.run [] s1 (start N vs) H _ (inv_start S room.hd e0 (len _ _ _ _ promised) rel x) hq) (fun fl s' out => ?_) fun e s' out => out
  match fl, out with
  | .ret u, ⟨v, _, H', J, rv, q⟩ => exact ⟨v, H', J.os, J.bare, J.base, J.hok, rv, q⟩
  | .next, ⟨_, H', J, q⟩ => exact ⟨V.non, H', J.os, J.bare, J.base, J.hok, rfl, q⟩
  | .brk, ⟨_, _, _, q⟩ => exact q.elim
  | .cont, ⟨_, _, _, q⟩ => exact q.elim
variable {X : Cx} {x : Str} {p pos : Pos} {e : Expr} {es : List Expr} {t : TA} {f : Addr} {fd : FuncData} {ps : List Str} {sp : Sp} {k : Nat} {ds : List Value} {dvs : List V} {E : XK}
theorem pe_callG (F : FnG X.prog X.w X.K X.mg X.base CX k f fd ps sp) (ga : Bare0 X.A) (hr : Room k X.A) (hg : Gl X x) (hm : X.mg x = some (.ref f)) (hk : PySem.W.keepIn X.K (.ref f) = true) (hb : Binds X.K fd ps ds) (hd : Vals dvs ds) (hx : Passes CX X E) (ha : PA X (e :: es) t)
    (hdb : (x == ("__debug__" : Str)) = false := by decide) (he : starEach (e :: es) X.env = (false, eval e X.env) :: starEach es X.env := by rfl) (hpl : (backTo pos (starEach es X.env)).any (·.1) = false := by rfl) : PE X (.Call (.Name x p) (e :: es) [] pos) (tCall sp dvs E t) := by
  refine ⟨fun pins s σ H Q I h => wpAny_Call_Name_kw (ld_glob I hg hm ?_ hdb)⟩
  refine PySem.W.callWith_K (h₀ := X.base) I.ok.mod.kin hk (thn (ha.run pos pins s σ H _ I h) fun us s1 ⟨vs, H1, I1, r, q⟩ => ⟨I1.kIn, ?_⟩) he hpl
  have r2 : Vals (vs ++ dvs) (us ++ ds) := r.append hd
  refine wpAny_call (codeAny_mono (F.run X.A X.stack s1 H1 ⟨us, []⟩ (us ++ ds) (vs ++ dvs) Q E ga hr I1.env0 (hb s1 us I1.kIn (by rw [← r2.length]; exact F.len _ _ _ _ q)) r2 q) fun out s' hq => ?_)
  match out, hq with
  | .error e, hq => exact hx pins σ H1 s1 e s' I1 hq
  | .ok (.ret u), hq => exact I1.after hq
  | .ok .next, hq => exact hq.elim
  | .ok .brk, hq => exact hq.elim
  | .ok .cont, hq => exact hq.elim
end
/-! ### the end of a law whose def is such a one -/
theorem law_callG {P : Program} {w : World} {K : PySem.W.Frag} {mg mb : Str → Option Value} {k : Nat} {fa a : Addr} {fd : FuncData} {x : Str} {sp : Sp} {s₁ : Shared} {vs : List Value} {ns : List Int} (KX : K.In s₁.heap) (hns : s₁.heap.Ns mainGlobals mg) (hb : s₁.heap.Ns builtinsNs mb)
    (hbb : ∀ x : Str, x ≠ "__name__" → mb x = bootBuiltins x) (hlim : s₁.heap.NoLimit) (hg : s₁.gens = #[]) (ha : s₁.heap.get? a = some { cls := .type "list", data := .seq vs.toArray }) (hi : IntsAre vs ns) (hl : ns.length ≤ sizeLine) (hr : Room k callerA)
    (F : ∀ base : Heap, K.In base → base.Ns mainGlobals mg → FnG P w K mg base CX0 k fa fd [x] sp) (hbind : ∀ (s : Shared) (u : Value), BindsTo s fd ⟨[u], []⟩ [(x, u)]) (hsp : ∀ H : Hp, Only H → SqL K H a (ns.map V.int) → sp [.ref a] H (fun v _ => v = .bl true) fun _ _ _ => False) :
    codeAny (model P w) callerA (.call (.ref fa) ⟨[.ref a], []⟩) (fun r s' => r = .ok (.ret (.bool true)) ∧ OldK s₁.heap s'.heap ∧ s'.os = s₁.os ∧ AllBare s'.gens) s₁ := by
  have rv := vals_ints hi
  have main : ∀ H : Hp, Only H → SqL K H a (ns.map V.int) → HOk P w H s₁.heap → (∀ b, H b ≠ none → b = a ∧ K.lookup a = none) →
      codeAny (model P w) callerA (.call (.ref fa) ⟨[.ref a], []⟩) (fun r s' => r = .ok (.ret (.bool true)) ∧ OldK s₁.heap s'.heap ∧ s'.os = s₁.os ∧ AllBare s'.gens) s₁ := by
    intro H hO hS hok only
    have seen : ∀ {b : Addr} {o : Obj}, s₁.heap.get? b = some o → H b = none → (hidT s₁.heap H).get? b = some o := fun e n => hidT_get e n
    have away : ∀ {b : Addr}, b ≠ a → H b = none := fun {b} n => by
      cases q : H b with
      | none => rfl
      | some u => exact absurd (only b (by rw [q]; intro z; cases z)).1 n
    have space : ∀ {b : Addr} {m : Str → Option Value}, s₁.heap.Ns b m → (hidT s₁.heap H).Ns b m := fun {b m} ⟨o, es, ep, e, d, r⟩ => ⟨o, es, ep, seen e (away fun z => by
      subst z
      rw [ha] at e
      cases e
      exact absurd (show Data.seq vs.toArray _ = Data.dict es ep from d) (fun q => nomatch q)), d, r⟩
    have kin : K.In (hidT s₁.heap H) := fun b o e => seen (KX b o e) (by
      cases q : H b with
      | none => rfl
      | some u =>
        obtain ⟨z, n⟩ := only b (by rw [q]; intro z; cases z)
        rw [z, n] at e
        cases e)
    have modl : Mod K mg (hidT s₁.heap H) := ⟨kin, space hns, ⟨mb, space hb, hbb⟩, let ⟨mc, h1, h2⟩ := hlim; ⟨mc, space h1, h2⟩⟩
    have env : Env0 P w K mg (hidT s₁.heap H) callerA [] s₁ H := { frames := rfl, mod := modl, bs := fun b o e => of_hidT e, bsz := Nat.le_of_eq (hidT_size _ _), funs := trivial, frf := fun b hb => (by cases hb), hok := hok, bare := .of_eq hg }
    refine codeAny_mono ((F _ kin (space hns)).run callerA [] s₁ H ⟨[.ref a], []⟩ [.ref a] [.ref a] _ _ rfl hr env (hbind s₁ (.ref a)) (.cons rfl .nil) (hsp H hO hS)) fun r s' out => ?_
    match r, out with
    | .error e, out => exact (show False from out).elim
    | .ok .next, out => exact (show False from out).elim
    | .ok .brk, out => exact (show False from out).elim
    | .ok .cont, out => exact (show False from out).elim
    | .ok (.ret u), ⟨v, H', os, bare, un, hok', r', q⟩ =>
      obtain rfl : v = .bl true := q
      obtain rfl : u = Value.bool true := r'
      refine ⟨rfl, OldK.of_keep fun b o e => ?_, os, bare⟩
      by_cases hb : b = a
      · subst hb
        rcases hO b with z | ⟨ob, xs, z⟩
        · exact un.keep b o e z (by intro z; cases z) (by intro z; cases z)
        · have f1 := (hok b _ z).1
          have f2 := (hok' b _ (un.frzs b ob _ z)).1
          rw [e] at f1
          cases f1
          exact f2
      · exact un.keep b o e (away hb) (by intro z; cases z) (by intro z; cases z)
  cases hk : K.lookup a with
  | some o =>
    have e := KX a o hk
    rw [ha] at e
    cases e
    exact main (fun _ => none) (fun _ => .inl rfl) (.inr ⟨_, vs.toArray, _, hk, rfl, rfl, rfl, by rw [List.size_toArray, hi.length]; exact hl, by simpa using rv⟩) (fun b u z => by cases (show (none : Option HO) = some u from z)) fun b z => absurd rfl z
  | none =>
    let o : Obj := { cls := .type "list", data := .seq vs.toArray }
    refine main (fun b => if b = a then some (.frz o (.lst (ns.map V.int))) else none) (fun b => ?_) (.inl (.inr ⟨o, if_pos rfl⟩)) (fun b u z => ?_) fun b z => ?_
    · by_cases hb : b = a
      · exact .inr ⟨_, _, if_pos hb⟩
      · exact .inl (if_neg hb)
    · by_cases hb : b = a
      · have e1 : some (HO.frz o (.lst (ns.map V.int))) = some u := (if_pos hb).symm.trans z
        cases e1
        subst hb
        exact ⟨ha, (by rw [List.length_map]; exact hl), vs, _, rv, ha⟩
      · cases (show (none : Option HO) = some u from (if_neg hb).symm.trans z)
    · by_cases hb : b = a
      · exact ⟨hb, hk⟩
      · exact absurd (if_neg hb) z
theorem walk_ofG {l : PySem.W.OpenLaw} {n k : Nat} {q : Program} {loose : List Str} {XP : (Str → Option Value) → Heap → Prop} {YP : World → Heap → Prop} {d : DefRec} {K : Params → PySem.W.Frag} {sp : World → Sp} {x : Str} (hn : l.most = some n) (hn2 : n ≤ sizeLine) (hdf : d.params.defaults = []) (hr : Room k callerA)
    (hY : ∀ (w : World) (h : Heap), YP w h → (K w.params).In h) (F : ∀ (w : World) (mg : Str → Option Value) (fa : Addr) (h : Heap), (K w.params).In h → h.Ns mainGlobals mg → mg d.name = some (.ref fa) → ∃ fd : FuncData, (∀ (s : Shared) (u : Value), BindsTo s fd ⟨[u], []⟩ [(x, u)]) ∧
      ∀ base : Heap, (K w.params).In base → base.Ns mainGlobals mg → FnG l.prog w (K w.params) mg base CX0 k fa fd [x] (sp w))
    (hsp : ∀ (w : World) (H : Hp) (a : Addr) (ns : List Int), ns.length ≤ n → (∀ z ∈ ns, Builtin.Int.intBits z ≤ 1048576) → Only H → SqL (K w.params) H a (ns.map V.int) → sp w [.ref a] H (fun v _ => v = .bl true) fun _ _ _ => False) : PySem.W.WalkO q loose XP YP l.row.toRowW d [] (fun f vs => PySem.call f vs) := by
  refine Att.attach_callB hn hdf fun w s₀ s₁ mg mb fa o pm cd doc a vs ns G Y ho hd hcd hmg hobj hints hlen hbits hg => ?_
  obtain ⟨fd, hb, hF⟩ := F w mg fa _ (hY w _ Y) G.T.g hmg
  exact law_callG (hY w _ Y) G.T.g G.T.b G.T.builtins G.T.nolimit hg hobj hints (Nat.le_trans hlen hn2) hr hF hb fun H hO hS => hsp w H a ns hlen hbits hO hS
/-! ### repr of data -/
mutual
theorem dp_nodict {K : PySem.W.Frag} {H : Hp} : ∀ (d : D) (v : V), Dp K H v d → d.hasDict = false
  | .none, _, _ => by simp only [PyData.hasDict]
  | .bool _, _, _ => by simp only [PyData.hasDict]
  | .int _, _, _ => by simp only [PyData.hasDict]
  | .str _, _, _ => by simp only [PyData.hasDict]
  | .list ds, _, h => by
    cases h with
    | lst hs ha => simp only [PyData.hasDict]; exact dps_nodict ds _ ha
  | .tuple ds, _, h => by
    cases h with
    | tup hs ha => simp only [PyData.hasDict]; exact dps_nodict ds _ ha
  | .dict _, _, h => by cases h
theorem dps_nodict {K : PySem.W.Frag} {H : Hp} : ∀ (ds : List D) (vs : List V), DpAll K H vs ds → PyData.hasDictAll ds = false
  | [], _, _ => by simp only [PyData.hasDictAll]
  | d :: ds, _, h => by
    cases h with
    | cons h1 h2 => simp only [PyData.hasDictAll, dp_nodict d _ h1, dps_nodict ds _ h2, Bool.or_self]
end
def rReprD (K : PySem.W.Frag) : List V → Hp → VK → Prop := fun xs H Q => ∃ x d, xs = [x] ∧ Dp K H x d ∧ d.showable = true ∧ d.depth ≤ 60 ∧ d.shown.length ≤ 1000000 ∧ Q (.str d.shown) H
theorem call_reprD {X : Cx} (ga : Bare0 X.A) (hu : X.A.units + 64 < cLine) : CallR X (.builtin "repr") (rReprD X.K) := by
  intro pins s σ H xs us Q I r h
  obtain ⟨x, d, rfl, hd, h1, h2, h3, q⟩ := h
  cases r with
  | cons rv rn =>
    cases rn
    rename_i u
    have big : (1000000 : Nat) ≤ sizeLine := by decide
    have fin : ∀ h' tk t, (∀ b o, s.heap.get? b = some o → h'.get? b = some o) → EP X pins σ Q (.str d.shown t) { s with heap := h', toks := tk } := fun h' tk t k => ⟨.str d.shown, H, I.kept (t' := tk) k, ⟨t, rfl⟩, q⟩
    cases hd with
    | non =>
      obtain rfl : u = Value.none := rv
      exact P.repr_of_none (fin _ _ _ fun _ _ e => e)
    | bl b =>
      obtain rfl : u = Value.bool b := rv
      exact P.repr_of_bool (by cases b <;> exact fin _ _ _ fun _ _ e => e)
    | int i =>
      obtain ⟨t, rfl⟩ := rv
      exact P.repr_of_int (by simpa [PyData.showable] using h1) (fin _ _ _ fun _ _ e => e)
    | str z =>
      obtain ⟨t, rfl⟩ := rv
      exact P.repr_of_str (fin _ _ _ fun _ _ e => e) (Nat.le_trans h3 big)
    | lst hs ha =>
      rename_i a vs ds
      obtain rfl : u = Value.ref a := rv
      obtain ⟨as, rd⟩ := Dp.reads I (.list ds) (.ref a) (.ref a) (.lst hs ha) rfl
      exact repr_of_reads' rd h1 (PyData.noDict_hsm (dp_nodict _ _ (.lst hs ha))) ga (by omega) (fun _ _ e => e) (fun h' t tk k => fin h' tk t k) (Nat.le_trans h3 big)
    | tup hs ha =>
      rename_i a vs ds
      obtain rfl : u = Value.ref a := rv
      obtain ⟨as, rd⟩ := Dp.reads I (.tuple ds) (.ref a) (.ref a) (.tup hs ha) rfl
      exact repr_of_reads' rd h1 (PyData.noDict_hsm (dp_nodict _ _ (.tup hs ha))) ga (by omega) (fun _ _ e => e) (fun h' t tk k => fin h' tk t k) (Nat.le_trans h3 big)
theorem cd_repr {K : PySem.W.Frag} {x : D} (h1 : x.showable = true) (h2 : x.depth ≤ 60) (h3 : x.shown.length ≤ 1000000) : CD K (rReprD K) [x] (.str x.shown) := fun B H vs e h Q q => by
  cases h with
  | cons r rn =>
    cases rn
    exact ⟨_, x, rfl, dp_up e _ _ r, h1, h2, h3, q _ B H (.refl e) (.str _)⟩
/-! ### an own error without arguments -/
theorem pmk_own0 {X : Cx} {C : Addr} {bmB : List Value} {B newId initId : String} {x : Str} {p pos : Pos} (F : ExcBaseFacts B newId initId bmB) (q : PySem.W.excIn X.K C bmB newId = true) (gC : X.mg x = some (.ref C)) (kC : PySem.W.keepIn X.K (.ref C) = true)
    (r : Raises X (.ref C)) (hg : Gl X x) (hdb : (x == ("__debug__" : Str)) = false := by decide) : PMk X (.Call (.Name x p) [] [] pos) (fun _ H Q => Q (.ref C) none H) := by
  intro pins s σ H Q I h
  refine wpAny_Call_Name_kw (ld_glob I hg gC (PySem.W.callWith_K0 I.kIn kC ?_) hdb)
  obtain ⟨bm, N, nm, qn, bs, hdct, sn, sub, ab, col, dd, k0, k1, k2, k3, k5, mN, hC, hN, hni, T⟩ := exc_obj I.kIn q
  exact wpAny_call_exc_subT F T hC hN hni (fun h' e hm => mk_of I hm r h (I.hok.gone hm.new)) (Nat.zero_le _)
end Co
namespace Co
open PySem PySem.Spec PyProof.Rows L2
section
variable {K : PySem.W.Frag}
/-! ### readings step by step, whatever the heap does -/
section
variable {σ : L2.St} {H : Hp} {Q : VK} {Dn : Ends} {ta tb te tc : TE} {t u : TS} {c : TT} {r r' : R2} {g : TG} {tr : TA}
theorem w_seq (h : t { Dn with nx := u Dn } σ H) : tSeq t u Dn σ H := h
theorem w_next (h : Dn.nx σ H) : tNext Dn σ H := h
theorem w_asg (h : te σ H fun x H1 => g x σ H1 Dn.nx) : tAsg te g Dn σ H := h
theorem w_set {i : Nat} {v : V} (h : Dn.nx (σ.set i (some v)) H) : gName i v σ H Dn.nx := h
theorem w_ret (h : te σ H Dn.rt) : tRet te Dn σ H := h
theorem w_drop (h : te σ H fun _ H1 => Dn.nx σ H1) : tDrop te Dn σ H := h
theorem w_if (h : c σ H fun b H1 => if b = true then t Dn σ H1 else u Dn σ H1) : tIfS c t u Dn σ H := h
theorem w_test {Q : Bool → Hp → Prop} (h : te σ H fun x H' => ∃ k, x = .bl k ∧ Q k H') : tTest te σ H Q := h
theorem w_B {Q : Bool → Hp → Prop} (h : te σ H fun x H' => ∃ k, x = .bl k ∧ Q k H') : tB te σ H Q := h
theorem w_op (h : ta σ H fun x H1 => tb σ H1 fun y H2 => r x y H2 Q) : tOp r ta tb σ H Q := h
theorem w_var {i : Nat} {v : V} (h : σ[i]? = some (some v)) (q : Q v H) : tVar i σ H Q := ⟨v, h, q⟩
theorem w_c {v : V} (q : Q v H) : tC v σ H Q := q
theorem w_cb {r : List V → Hp → VK → Prop} (h : tr σ H fun vs H1 => r vs H1 Q) : tCB r tr σ H Q := h
theorem w_cons {Q : List V → Hp → Prop} (h : ta σ H fun x H1 => tr σ H1 fun xs H2 => Q (x :: xs) H2) : tCons ta tr σ H Q := h
theorem w_nil {Q : List V → Hp → Prop} (h : Q [] H) : tNil σ H Q := h
theorem w_call {sp : Sp} {dvs : List V} {E : XK} (h : tr σ H fun vs H1 => sp (vs ++ dvs) H1 Q E) : tCall sp dvs E tr σ H Q := h
theorem w_ix {K : PySem.W.Frag} {m : Addr} {xs : List V} {j : Int} {v : V} (hm : H m = some (.lst xs)) (hx : atI xs j = some v) (q : Q v H) : rIx K (.ref m) (.int j) H Q := .inl ⟨m, xs, j, v, rfl, rfl, SqL.of hm, hx, q⟩
/-- m[j], m a list at slot i -/
theorem w_at {K : PySem.W.Frag} {i : Nat} {m : Addr} {xs : List V} {j : Int} {v : V} (hs : σ[i]? = some (some (.ref m))) (hm : H m = some (.lst xs)) (hx : atI xs j = some v) (q : Q v H) : tOp (rIx K) (tVar i) (tC (.int j)) σ H Q := w_op (w_var hs (w_c (w_ix hm hx q)))
theorem w_I0 {f : Int → Int → V} {i j : Int} (q : Q (f i j) H) : rI0 f (.int i) (.int j) H Q := ⟨i, j, rfl, rfl, q⟩
theorem w_I {C : Int → Int → Prop} {f : Int → Int → V} {i j : Int} (h : C i j) (q : Q (f i j) H) : rI C f (.int i) (.int j) H Q := ⟨i, j, rfl, rfl, h, q⟩
theorem w_add {K : PySem.W.Frag} {i j : Int} (q : Q (.int (i + j)) H) : rAddA K (.int i) (.int j) H Q := .inl ⟨i, j, rfl, rfl, q⟩
theorem w_int {i : Int} (q : Q (.int i) H) : rInt1 [.int i] H Q := .inl ⟨i, rfl, q⟩
theorem w_bl {k : Bool} {Q : Bool → Hp → Prop} (q : Q k H) : ∃ k', V.bl k = .bl k' ∧ Q k' H := ⟨k, rfl, q⟩
/-- m[j] = v, m a list at slot i -/
theorem w_put {N : L2.St → Hp → Prop} {i : Nat} {m : Addr} {xs : List V} {j : Int} {n : Nat} {v : V} (hs : σ[i]? = some (some (.ref m))) (hm : H m = some (.lst xs)) (hj : ixN xs.length j = some n) (q : N σ (upd H m (.lst (xs.set n v)))) :
    gSub (tVar i) (tC (.int j)) rSetL v σ H N := ⟨_, hs, m, xs, j, n, rfl, rfl, hm, hj, q⟩
end
/-- a bag: the script's ints (a list at p), the place, the rest, the count, the seed -/
structure BS where
  p : Addr
  ns : List Int
  i : Int
  g : Int
  c : Int
  s : Int
def mix1 (s c z : Int) : Int := (s * 48271 + z % 2147483629 * 69621 + c * 7919 + 11) % 2147483647
def mix2 (m c : Int) : Int := (m * 16807 + c * c * 104729 + m / 65536) % 998244353
def absI (z : Int) : Int := if z < 0 then -z else z
/-- a draw and the bag behind it -/
def drw (b : BS) (lim : Int) : Int × BS :=
  if 0 < b.g then (b.g % lim, { b with g := b.g / lim, c := b.c + 1 })
  else if b.i < b.ns.length then
    if 10 ^ 18 ≤ absI (b.ns.getD b.i.toNat 0) then (absI (b.ns.getD b.i.toNat 0) % lim, { b with i := b.i + 1, g := absI (b.ns.getD b.i.toNat 0) / lim, c := b.c + 1 })
    else (mix2 (mix1 b.s (b.c + 1) (b.ns.getD b.i.toNat 0)) (b.c + 1) / 7 % lim, { b with i := b.i + 1, c := b.c + 1, s := mix1 b.s (b.c + 1) (b.ns.getD b.i.toNat 0) })
  else (mix2 (mix1 b.s (b.c + 1) (b.c + 1)) (b.c + 1) / 7 % lim, { b with c := b.c + 1, s := mix1 b.s (b.c + 1) (b.c + 1) })
abbrev dv (b : BS) (lim : Int) : Int := (drw b lim).1
abbrev db (b : BS) (lim : Int) : BS := (drw b lim).2
theorem draw_range {b : BS} {lim : Int} (h : 1 ≤ lim) : 0 ≤ dv b lim ∧ dv b lim < lim := by
  have h0 : ∀ x : Int, 0 ≤ x % lim ∧ x % lim < lim := fun x => ⟨Int.emod_nonneg _ (by omega), Int.emod_lt_of_pos _ (by omega)⟩
  unfold dv drw
  split
  · exact h0 _
  · split
    · split <;> exact h0 _
    · exact h0 _
/-- the bag b at m; n more draws may be made -/
structure BagAt (K : PySem.W.Frag) (B H : Hp) (m : Addr) (b : BS) (n : Nat) : Prop where
  nb : B m = none
  at' : H m = some (.lst [.ref b.p, .int b.i, .int b.g, .int b.c, .int b.s])
  ls : SqL K B b.p (b.ns.map V.int)
  bits : ∀ z ∈ b.ns, Builtin.Int.intBits z ≤ 1048576
  i0 : 0 ≤ b.i
  g0 : 0 ≤ b.g
  c0 : 0 ≤ b.c
  cn : b.c + n ≤ 1000000000
  s0 : 0 ≤ b.s
  s1 : b.s < 2147483647
theorem BagAt.less {B H : Hp} {m : Addr} {b : BS} {n k : Nat} (x : BagAt K B H m b n) (h : k ≤ n) : BagAt K B H m b k :=
  ⟨x.nb, x.at', x.ls, x.bits, x.i0, x.g0, x.c0, by have := x.cn; omega, x.s0, x.s1⟩
theorem BagAt.up {B H B' H' : Hp} {m : Addr} {b : BS} {n : Nat} (x : BagAt K B H m b n) (g : Gw B H B' H') : BagAt K B' H' m b n :=
  ⟨g.f m x.nb (by rw [x.at']; intro z; cases z), g.same _ _ x.at', g.b.seq x.ls, x.bits, x.i0, x.g0, x.c0, x.cn, x.s0, x.s1⟩
/-- a draw -/
def spDraw (K : PySem.W.Frag) : Sp := fun vs H Q _ => ∃ (B : Hp) (m : Addr) (b : BS) (n : Nat) (lim : Int), vs = [.ref m, .int lim] ∧ Same B H ∧ BagAt K B H m b (n + 1) ∧ 1 ≤ lim ∧ lim ≤ 10 ^ 30 ∧
  ∀ H', Gm (· = m) B H B H' → BagAt K B H' m (db b lim) n → Q (.int (dv b lim)) H'
/-- the bag's making -/
def spBag (K : PySem.W.Frag) : Sp := fun vs H Q _ => ∃ (B : Hp) (a : Addr) (ns : List Int), vs = [.ref a] ∧ Same B H ∧ SqL K B a (ns.map V.int) ∧ ns.length ≤ 63 ∧ (∀ z ∈ ns, Builtin.Int.intBits z ≤ 1048576) ∧
  ∀ m b B' H', Gw B H B' H' → BagAt K B' H' m b 900000000 → Q (.ref m) H'
theorem ten30 : (10 : Int) ^ 30 = 1000000000000000000000000000000 := by decide
theorem lim_wide {lim : Int} (h1 : 1 ≤ lim) (h2 : lim ≤ 10 ^ 30) : CDivW 0 lim := by
  rw [ten30] at h2
  refine wide_div (b := 100) (by omega) ?_ (by decide) (by decide)
  have : (2 : Nat) ^ 100 = 1267650600228229401496703205376 := by decide
  rw [this]
  omega
/-- one more write at m -/
theorem Gm.put {B H B' H' : Hp} {m : Addr} {o : HO} (g : Gm (· = m) B H B' H') (nb : B' m = none) : Gm (· = m) B H B' (upd H' m o) where
  b := g.b
  i := fun a u q => by rw [upd_ne (ne_of_none q nb)]; exact g.i a u q
  r := fun a u n q => by rw [upd_ne n]; exact g.r a u n q
  f := g.f
/-- m[j] = v where the heap is known by g -/
theorem w_putG {σ : L2.St} {N : L2.St → Hp → Prop} {B H B' H' : Hp} {i : Nat} {m : Addr} {xs ys : List V} {j : Int} {n : Nat} {v : V} (g : Gm (· = m) B H B' H') (nb : B' m = none) (hs : σ[i]? = some (some (.ref m))) (hm : H' m = some (.lst xs)) (hj : ixN xs.length j = some n) (hy : xs.set n v = ys)
    (q : ∀ H2, Gm (· = m) B H B' H2 → H2 m = some (.lst ys) → N σ H2) : gSub (tVar i) (tC (.int j)) rSetL v σ H' N := w_put hs hm hj (by rw [hy]; exact q _ (g.put nb) upd_same)
/-- many writes at m -/
theorem gm_puts {B H : Hp} {m : Addr} {o : HO} (e : Same B H) (nb : B m = none) : Gm (· = m) B H B (upd H m o) := Gm.mut e nb
end
end Co
namespace Co
open PySem PySem.Spec PyProof.Rows L2
section
variable {K : PySem.W.Frag}
/-- a def that is a function of data, where it is one -/
def spF (K : PySem.W.Frag) (F : List D → Option D) : Sp := fun vs H Q _ => ∃ (B : Hp) (ds : List D) (d : D), Same B H ∧ DpAll K B vs ds ∧ F ds = some d ∧ ∀ v B' H', Gw B H B' H' → Dp K B' v d → Q v H'
theorem pd_of {F : List D → Option D} {ds : List D} {d : D} (h : F ds = some d) : PD K (spF K F) ds d := fun B H vs e r Q E q => ⟨B, ds, d, e, r, h, q⟩
/-- a def that gives data in such a relation to its arguments' data -/
def spR (K : PySem.W.Frag) (R : List D → D → Prop) : Sp := fun vs H Q _ => ∃ (B : Hp) (ds : List D) (d : D), Same B H ∧ DpAll K B vs ds ∧ R ds d ∧ ∀ v B' H', Gw B H B' H' → Dp K B' v d → Q v H'
theorem pd_ofR {R : List D → D → Prop} {ds : List D} {d : D} (h : R ds d) : PD K (spR K R) ds d := fun B H vs e r Q E q => ⟨B, ds, d, e, r, h, q⟩
theorem spR_len {R : List D → D → Prop} {n : Nat} (hF : ∀ ds d, R ds d → ds.length = n) {vs : List V} {H : Hp} {Q : VK} {E : XK} (h : spR K R vs H Q E) : vs.length = n := by
  obtain ⟨B, ds, d, _, r, e, _⟩ := h
  rw [dpall_len r]
  exact hF ds d e
theorem dpall3 {B : Hp} {vs : List V} {a b c : D} (h : DpAll K B vs [a, b, c]) : ∃ x y z, vs = [x, y, z] ∧ Dp K B x a ∧ Dp K B y b ∧ Dp K B z c := by
  cases h with | cons h1 h => cases h with | cons h2 h => cases h with | cons h3 h => cases h; exact ⟨_, _, _, rfl, h1, h2, h3⟩
theorem dpall2 {B : Hp} {vs : List V} {a b : D} (h : DpAll K B vs [a, b]) : ∃ x y, vs = [x, y] ∧ Dp K B x a ∧ Dp K B y b := by
  cases h with | cons h1 h => cases h with | cons h2 h => cases h; exact ⟨_, _, rfl, h1, h2⟩
theorem dpall1 {B : Hp} {vs : List V} {a : D} (h : DpAll K B vs [a]) : ∃ x, vs = [x] ∧ Dp K B x a := by
  cases h with | cons h1 h => cases h; exact ⟨_, rfl, h1⟩
theorem spF_len {F : List D → Option D} {n : Nat} (hF : ∀ ds d, F ds = some d → ds.length = n) {vs : List V} {H : Hp} {Q : VK} {E : XK} (h : spF K F vs H Q E) : vs.length = n := by
  obtain ⟨B, ds, d, _, r, e, _⟩ := h
  rw [dpall_len r]
  exact hF ds d e
section
variable {σ : L2.St} {B H : Hp} {ta tb : TE} {tt uu : TT} {b : Bool} {d : D}
theorem skip_or {a : Bool} (h : a = true) : a = false → DE K tb σ B (.bool false) := fun z => by rw [h] at z; cases z
theorem skip_and {a : Bool} (h : a = false) : a = true → DE K tb σ B (.bool false) := fun z => by rw [h] at z; cases z
theorem tskip_or {a : Bool} (h : a = true) : a = false → DT uu σ B false := fun z => by rw [h] at z; cases z
theorem tskip_and {a : Bool} (h : a = false) : a = true → DT uu σ B false := fun z => by rw [h] at z; cases z
theorem isi_int {x : D} (h : DE K ta σ B x) : DE K (tCB (rIsi K) (tCons ta (tCons (tC (.ty "int")) tNil))) σ B (.bool (isA x .int)) := de_isi .int h
theorem isi_bool {x : D} (h : DE K ta σ B x) : DE K (tCB (rIsi K) (tCons ta (tCons (tC (.ty "bool")) tNil))) σ B (.bool (isA x .bool)) := de_isi .bool h
theorem isi_str {x : D} (h : DE K ta σ B x) : DE K (tCB (rIsi K) (tCons ta (tCons (tC (.ty "str")) tNil))) σ B (.bool (isA x .str)) := de_isi .str h
theorem isi_list {x : D} (h : DE K ta σ B x) : DE K (tCB (rIsi K) (tCons ta (tCons (tC (.ty "list")) tNil))) σ B (.bool (isA x .list)) := de_isi .list h
theorem isi_tuple {x : D} (h : DE K ta σ B x) : DE K (tCB (rIsi K) (tCons ta (tCons (tC (.ty "tuple")) tNil))) σ B (.bool (isA x .tuple)) := de_isi .tuple h
theorem isi_lt {x : D} (h : DE K ta σ B x) : DE K (tCB (rIsiT K) (tCons ta (tCons (tTup (tCons (tC (.ty "list")) (tCons (tC (.ty "tuple")) tNil))) tNil))) σ B (.bool (isA x .list || isA x .tuple)) := de_isiT .list .tuple h
theorem dp_g {M : Addr → Prop} {B H B' H' : Hp} {v : V} {d : D} (g : Gm M B H B' H') (h : Dp K B v d) : Dp K B' v d := dp_up g.b _ _ h
theorem sm_g {M : Addr → Prop} {B H B' H' : Hp} (g : Gm M B H B' H') : Same B' H' := g.i
/-- statements: the heap's base first -/
theorem s_ret {rt : VK} {nx : L2.St → Hp → Prop} {bk ct : L2.St → Hp → Prop} {d' : D} (e : Same B H) (h : DE K ta σ B d) (k : ∀ v B' H', Gw B H B' H' → Dp K B' v d' → rt v H') (q : d = d') : tRet ta ⟨nx, rt, bk, ct⟩ σ H := by
  subst q
  exact st_ret h e k
theorem s_if {Dn : Ends} {t u : TS} {b : Bool} (e : Same B H) (h : DT tt σ B b) (k1 : b = true → ∀ B' H', Gw B H B' H' → t Dn σ H') (k2 : b = false → ∀ B' H', Gw B H B' H' → u Dn σ H') : tIfS tt t u Dn σ H := st_if h e k1 k2
theorem s_asg {nx : L2.St → Hp → Prop} {rt : VK} {bk ct : L2.St → Hp → Prop} {i : Nat} (e : Same B H) (h : DE K ta σ B d) (k : ∀ v B' H', Gw B H B' H' → Dp K B' v d → nx (σ.set i (some v)) H') : tAsg ta (gName i) ⟨nx, rt, bk, ct⟩ σ H := st_asg h e k
theorem s_drop {nx : L2.St → Hp → Prop} {rt : VK} {bk ct : L2.St → Hp → Prop} (e : Same B H) (h : DE K ta σ B d) (k : ∀ B' H', Gw B H B' H' → nx σ H') : tDrop ta ⟨nx, rt, bk, ct⟩ σ H := st_drop h e k
end
/-! ### loops backwards and over two things, lists of one's own -/
theorem st_rev {σ : L2.St} {B H : Hp} {te : TE} {x : D} {ds : List D} {j : Nat} {t : TS} {Dn : Ends} (h : DE K te σ B x) (sd : SeqD x ds) (e : Same B H)
    (k : ∀ B1 H1, Gw B H B1 H1 → ∃ P : Nat → L2.St → Hp → Prop, P 0 σ H1 ∧ (∀ i σ' H', P i σ' H' → Same B1 H') ∧
      (∀ i d v σ' H', ds.reverse[i]? = some d → Dp K B1 v d → P i σ' H' → t { Dn with nx := P (i + 1), ct := P (i + 1), bk := Dn.nx } (σ'.set j (some v)) H') ∧ (∀ σ' H', P ds.length σ' H' → Dn.nx σ' H')) :
    tFor (RT.iRevA K te) (gName j) t Dn σ H := h H e _ fun v B1 H1 g1 r1 => by
  obtain ⟨P, p0, ps, pt, pd⟩ := k B1 H1 g1
  have go : ∀ {vs : List V}, DpAll K B1 vs ds → ∀ i, i < vs.length → ∃ w d, vs[vs.length - 1 - i]? = some w ∧ ds.reverse[i]? = some d ∧ Dp K B1 w d := fun {vs} ha i hi => by
    have el := dpall_len ha
    obtain ⟨d, hd⟩ : ∃ d, ds[vs.length - 1 - i]? = some d := ⟨_, List.getElem?_eq_getElem (by omega)⟩
    obtain ⟨w, e1, e2⟩ := dpall_get ha hd
    refine ⟨w, d, e1, ?_, e2⟩
    rw [List.getElem?_reverse (by omega), ← el]
    exact hd
  cases sd with
  | l ds =>
    cases r1 with
    | lst hs ha =>
      rename_i a vs
      refine ⟨a, vs, rfl, .inl ⟨g1.i.seq hs, fun i m σ' H' => m = vs.length - i ∧ i ≤ vs.length ∧ P i σ' H', ⟨_, rfl, Nat.zero_le _, p0⟩, ?_⟩⟩
      rintro i m σ' H' ⟨rfl, hi, p⟩
      by_cases hlt : i < vs.length
      · obtain ⟨w, d, e1, e2, e3⟩ := go ha i hlt
        refine .inr ⟨⟨hlt, vs, w, (ps i σ' H' p).seq hs, e1⟩, P (i + 1), fun σ2 H2 p2 => ⟨vs.length - (i + 1), by omega, rfl, hlt, p2⟩, fun y H2 hy => ?_⟩
        obtain ⟨rfl, hy⟩ := hy
        have q := hy vs ((ps i σ' _ p).seq hs)
        rw [e1] at q
        cases q
        exact pt i d w σ' _ e2 e3 p
      · have z : i = vs.length := by omega
        subst z
        rw [dpall_len ha] at p
        exact .inl ⟨Nat.le_refl _, pd σ' H' p⟩
  | t ds =>
    cases r1 with
    | tup hs ha =>
      rename_i a vs
      refine ⟨a, vs, rfl, .inr ⟨seqT_up g1.i hs, fun i m σ' H' => m = vs.length - i ∧ i ≤ vs.length ∧ P i σ' H', ⟨_, rfl, Nat.zero_le _, p0⟩, ?_⟩⟩
      rintro i m σ' H' ⟨rfl, hi, p⟩
      by_cases hlt : i < vs.length
      · obtain ⟨w, d, e1, e2, e3⟩ := go ha i hlt
        refine .inr ⟨⟨hlt, vs, w, seqT_up (ps i σ' H' p) hs, e1⟩, P (i + 1), fun σ2 H2 p2 => ⟨vs.length - (i + 1), by omega, rfl, hlt, p2⟩, fun y H2 hy => ?_⟩
        obtain ⟨rfl, hy⟩ := hy
        have q := hy vs (seqT_up (ps i σ' _ p) hs)
        rw [e1] at q
        cases q
        exact pt i d w σ' _ e2 e3 p
      · have z : i = vs.length := by omega
        subst z
        rw [dpall_len ha] at p
        exact .inl ⟨Nat.le_refl _, pd σ' H' p⟩
theorem sqB_of {B : Hp} {v : V} {x : D} {ds : List D} (r : Dp K B v x) (sd : SeqD x ds) : ∃ a vs k, v = .ref a ∧ DpAll K B vs ds ∧ SqB K k B a vs := by
  cases sd with
  | l ds => cases r with | lst hs ha => exact ⟨_, _, true, rfl, ha, hs⟩
  | t ds => cases r with | tup hs ha => exact ⟨_, _, false, rfl, ha, hs⟩
theorem st_zip {σ : L2.St} {B H : Hp} {ta : TA} {x y : D} {xs ys : List D} {i j : Nat} {t : TS} {Dn : Ends} (h : DA K ta σ B [x, y]) (sx : SeqD x xs) (sy : SeqD y ys) (hl : xs.length = ys.length) (e : Same B H)
    (k : ∀ B1 H1, Gw B H B1 H1 → ∃ P : Nat → L2.St → Hp → Prop, P 0 σ H1 ∧ (∀ i σ' H', P i σ' H' → Same B1 H') ∧
      (∀ n d1 d2 v1 v2 σ' H' H2, xs[n]? = some d1 → ys[n]? = some d2 → Dp K B1 v1 d1 → Dp K B1 v2 d2 → P n σ' H' → (∀ B', Same B' H' → Gw B' H' B' H2) → t { Dn with nx := P (n + 1), ct := P (n + 1), bk := Dn.nx } ((σ'.set i (some v1)).set j (some v2)) H2) ∧
      (∀ σ' H', P xs.length σ' H' → Dn.nx σ' H')) : tFor (iZipG K ta) (gTup K 2 (gCons (gName i) (gCons (gName j) gNil))) t Dn σ H := h H e _ fun vs B1 H1 g1 r1 => by
  obtain ⟨P, p0, ps, pt, pd⟩ := k B1 H1 g1
  obtain ⟨u1, u2, rfl, d1, d2⟩ := dpall2 r1
  obtain ⟨a, us, ka, rfl, ha, sa⟩ := sqB_of d1 sx
  obtain ⟨b, ws, kb, rfl, hb, sb⟩ := sqB_of d2 sy
  have l1 := dpall_len ha
  have l2 := dpall_len hb
  refine ⟨a, b, us, ws, ka, kb, rfl, sa.up g1.i, sb.up g1.i, fun n m σ' H' => m = us.length - n ∧ n ≤ us.length ∧ P n σ' H', ⟨_, rfl, Nat.zero_le _, p0⟩, ?_⟩
  rintro n m σ' H' ⟨rfl, hn, p⟩
  have q1 := sa.up (ps n σ' H' p)
  have q2 := sb.up (ps n σ' H' p)
  by_cases hlt : n < us.length
  · have x1 : us[n]? = some us[n] := List.getElem?_eq_getElem hlt
    have x2 : ws[n]? = some ws[n] := List.getElem?_eq_getElem (by omega)
    refine .inr ⟨⟨us, ws, _, _, q1, q2, x1, x2⟩, P (n + 1), fun σ2 H2 p2 => ⟨us.length - (n + 1), by omega, rfl, hlt, p2⟩, fun v H2 hv => ?_⟩
    obtain ⟨T, y1, y2, rfl, hT, rfl, f1, f2⟩ := hv
    have z1 := f1 us q1
    have z2 := f2 ws q2
    rw [x1] at z1
    rw [x2] at z2
    cases z1
    cases z2
    have e1 : xs[n]? = some xs[n] := List.getElem?_eq_getElem (by omega)
    have e2 : ys[n]? = some ys[n] := List.getElem?_eq_getElem (by omega)
    obtain ⟨w1, c1, c2⟩ := dpall_get ha e1
    obtain ⟨w2, c3, c4⟩ := dpall_get hb e2
    rw [x1] at c1
    rw [x2] at c3
    cases c1
    cases c3
    exact ⟨T, [us[n], ws[n]], rfl, SqT.of upd_same, rfl, _, _, rfl, _, _, rfl, rfl, pt n _ _ _ _ σ' H' _ e1 e2 c2 c4 p fun B' s => Gw.own s hT⟩
  · have z : n = us.length := by omega
    subst z
    refine .inl ⟨⟨us, ws, q1, q2, Nat.le_refl _, by omega, .inl rfl⟩, ?_⟩
    rw [l1] at p
    exact pd σ' H' p
/-- p.append(e), p a list that is not of the base -/
theorem s_app {σ : L2.St} {B H : Hp} {te : TE} {d : D} {i : Nat} {p : Addr} {vs : List V} {nx : L2.St → Hp → Prop} {rt : VK} {bk ct : L2.St → Hp → Prop} (e : Same B H) (hs : σ[i]? = some (some (.ref p))) (nb : B p = none) (hp : H p = some (.lst vs)) (hz : vs.length < 100000) (h : DE K te σ B d)
    (k : ∀ v B' H', Gm (· = p) B H B' H' → B' p = none → H' p = some (.lst (vs ++ [v])) → Dp K B' v d → nx σ H') : tDrop (tBM K "list" rAppend (tVar i) (tCons te tNil)) ⟨nx, rt, bk, ct⟩ σ H :=
  ⟨_, hs, .inl ⟨rfl, _, SqL.of hp⟩, h H e _ fun v B1 H1 g1 r1 => ⟨p, vs, v, rfl, rfl, g1.same _ _ hp, Nat.lt_of_lt_of_le hz (by decide), by
    have n1 : B1 p = none := g1.f p nb (by rw [hp]; intro z; cases z)
    refine k v B1 _ ?_ n1 upd_same r1
    exact (g1.weak fun _ z => z.elim).put n1⟩⟩
theorem Gm.close {B H B' H' : Hp} {p : Addr} (g : Gm (· = p) B H B' H') (h : H p = none) : Gw B H B' H' := ⟨g.b, g.i, fun a o _ q => g.r a o (fun z => by rw [z, h] at q; cases q) q, g.f⟩
theorem Gm.thn {B H B1 H1 B2 H2 : Hp} {p : Addr} (g : Gm (· = p) B H B1 H1) (g' : Gm (· = p) B1 H1 B2 H2) (h : H1 p ≠ none) : Gm (· = p) B H B2 H2 := Gm.trans g g' fun a z _ => by rw [z]; exact h
theorem Gm.thw {B H B1 H1 B2 H2 : Hp} {p : Addr} (g : Gm (· = p) B H B1 H1) (g' : Gw B1 H1 B2 H2) (h : H1 p ≠ none) : Gm (· = p) B H B2 H2 := g.thn (g'.weak fun _ z => z.elim) h
theorem Gm.wth {B H B1 H1 B2 H2 : Hp} {p : Addr} (g : Gw B H B1 H1) (g' : Gm (· = p) B1 H1 B2 H2) (h : H1 p ≠ none) : Gm (· = p) B H B2 H2 := (g.weak fun _ z => z.elim).thn g' h
theorem ne_none {H : Hp} {p : Addr} {o : HO} (h : H p = some o) : H p ≠ none := by rw [h]; intro z; cases z
theorem dpallI_of {B : Hp} {vs : List V} {ns : List Int} (h : DpAll K B vs (ns.map .int)) : vs = ns.map V.int := dpall_ints h
theorem dpall_rev {B : Hp} {vs : List V} {ds : List D} (h : DpAll K B vs ds) : DpAll K B vs.reverse ds.reverse := by
  induction vs generalizing ds with
  | nil => cases h; exact .nil
  | cons v vs ih => cases h with | cons h1 h2 => rw [List.reverse_cons, List.reverse_cons]; exact dpall_app (ih h2) (.cons h1 .nil)
/-! ### a bound of is_whole -/
def loOk : D → Int → Bool
  | .int l, i => decide (l ≤ i)
  | _, _ => true
def hiOk : D → Int → Bool
  | .int h, i => decide (i ≤ h)
  | _, _ => true
def bnd : D → Bool
  | .none => true
  | .int _ => true
  | _ => false
def isWhole : D → D → D → Bool
  | .int i, lo, hi => loOk lo i && hiOk hi i
  | _, _, _ => false
def fIsWhole : List D → Option D
  | [x, lo, hi] => if bnd lo && bnd hi then some (.bool (isWhole x lo hi)) else none
  | _ => none
def isSeq : D → Bool
  | .list _ => true
  | .tuple _ => true
  | _ => false
def lenD : D → Nat
  | .list xs => xs.length
  | .tuple xs => xs.length
  | _ => 0
def itemsD : D → List D
  | .list xs => xs
  | .tuple xs => xs
  | _ => []
theorem seqD_of {x : D} (h : isSeq x = true) : SeqD x (itemsD x) := by
  cases x <;> first | exact .l _ | exact .t _ | cases h
def isSequence (x lo hi : D) : Bool := isSeq x && isWhole (.int (lenD x)) lo hi
def fIsSequence : List D → Option D
  | [x, lo, hi] => if bnd lo && bnd hi then some (.bool (isSequence x lo hi)) else none
  | _ => none
theorem cd_lenSd {x : D} {ds : List D} (h : SeqD x ds) : CD K (rLenA K) [x] (.int (ds.length : Int)) := by
  cases h <;> first | exact cd_lenL | exact cd_lenT
theorem seqD_of' {x : D} {ds : List D} (h : SeqD x ds) : isSeq x = true ∧ itemsD x = ds ∧ lenD x = ds.length := by cases h <;> exact ⟨rfl, rfl, rfl⟩
theorem rd_ixQ {x : D} {ds : List D} {i : Int} {d : D} (sd : SeqD x ds) (h0 : 0 ≤ i) (h : ds[i.toNat]? = some d) : RD K (rIx K) x (.int i) d := by
  cases sd with
  | l ds => exact rd_ixL h0 h
  | t ds => exact rd_ixT h0 h
theorem cd_tupQ {x : D} {ds : List D} (h : SeqD x ds) : CD K (rTupO K) [x] (.tuple ds) := by
  cases h <;> first | exact cd_tupL | exact cd_tupT
theorem cd_lstQ {x : D} {ds : List D} (h : SeqD x ds) : CD K (rLstO K) [x] (.list ds) := by
  cases h <;> first | exact cd_lstL | exact cd_lstT
theorem cd_lenQ {x : D} (h : isSeq x = true) : CD K (rLenA K) [x] (.int (lenD x : Int)) := by
  cases x <;> first | exact cd_lenL | exact cd_lenT | cases h
/-! ### == and != of data and of plain values -/
def rEqA (K : PySem.W.Frag) : R2 := fun x y H Q => rEqD K x y H Q ∨ rEq x y H Q
def rNeA (K : PySem.W.Frag) : R2 := fun x y H Q => rNeD K x y H Q ∨ rNe x y H Q
theorem op_eqA {X : Cx} (hu : X.A.units + 64 < cLine) : OpR X (compareOp .Eq) (rEqA X.K) := OpR.or (op_eqD hu) op_eq
theorem op_neA {X : Cx} (hu : X.A.units + 64 < cLine) : OpR X (compareOp .NotEq) (rNeA X.K) := OpR.or (op_neD hu) op_ne
theorem rd_eqX {x y : D} (h1 : SeqAt.shaped x = true) (h2 : SeqAt.shaped y = true) : RD K (rEqA K) x y (.bool (PyData.eqv x y)) := fun B H u v e hu hv Q q => .inl (rd_eqD h1 h2 B H u v e hu hv Q q)
theorem rd_neX {x y : D} (h1 : SeqAt.shaped x = true) (h2 : SeqAt.shaped y = true) : RD K (rNeA K) x y (.bool (!PyData.eqv x y)) := fun B H u v e hu hv Q q => .inl (rd_neD h1 h2 B H u v e hu hv Q q)
theorem rd_eqI {i j : Int} : RD K (rEqA K) (.int i) (.int j) (.bool (decide (i = j))) := fun B H u v e hu hv Q q => by
  cases hu; cases hv
  refine .inr ⟨rfl, ?_⟩
  have : decide ((V.int i) = V.int j) = decide (i = j) := by simp
  rw [this]
  exact q _ B H (.refl e) (.bl _)
theorem rd_neI {i j : Int} : RD K (rNeA K) (.int i) (.int j) (.bool (!decide (i = j))) := fun B H u v e hu hv Q q => by
  cases hu; cases hv
  refine .inr ⟨rfl, ?_⟩
  have : decide ((V.int i) = V.int j) = decide (i = j) := by simp
  rw [this]
  exact q _ B H (.refl e) (.bl _)
theorem rd_eqS {i j : Str} : RD K (rEqA K) (.str i) (.str j) (.bool (decide (i = j))) := fun B H u v e hu hv Q q => by
  cases hu; cases hv
  refine .inr ⟨rfl, ?_⟩
  have : decide ((V.str i) = V.str j) = decide (i = j) := by simp
  rw [this]
  exact q _ B H (.refl e) (.bl _)
theorem rd_neS {i j : Str} : RD K (rNeA K) (.str i) (.str j) (.bool (!decide (i = j))) := fun B H u v e hu hv Q q => by
  cases hu; cases hv
  refine .inr ⟨rfl, ?_⟩
  have : decide ((V.str i) = V.str j) = decide (i = j) := by simp
  rw [this]
  exact q _ B H (.refl e) (.bl _)
theorem rd_eqB {i j : Bool} : RD K (rEqA K) (.bool i) (.bool j) (.bool (decide (i = j))) := fun B H u v e hu hv Q q => by
  cases hu; cases hv
  refine .inr ⟨rfl, ?_⟩
  have : decide ((V.bl i) = V.bl j) = decide (i = j) := by simp
  rw [this]
  exact q _ B H (.refl e) (.bl _)
theorem rd_neB {i j : Bool} : RD K (rNeA K) (.bool i) (.bool j) (.bool (!decide (i = j))) := fun B H u v e hu hv Q q => by
  cases hu; cases hv
  refine .inr ⟨rfl, ?_⟩
  have : decide ((V.bl i) = V.bl j) = decide (i = j) := by simp
  rw [this]
  exact q _ B H (.refl e) (.bl _)
/-! ### defs that give a new list -/
def spL (K : PySem.W.Frag) (R : List D → List D → Prop) : Sp := fun vs H Q _ => ∃ (B : Hp) (ds es : List D), Same B H ∧ DpAll K B vs ds ∧ R ds es ∧ ∀ p us B' H', Gw B H B' H' → B' p = some (.lst us) → DpAll K B' us es → Q (.ref p) H'
theorem spL_len {R : List D → List D → Prop} {n : Nat} (hF : ∀ ds d, R ds d → ds.length = n) {vs : List V} {H : Hp} {Q : VK} {E : XK} (h : spL K R vs H Q E) : vs.length = n := by
  obtain ⟨B, ds, d, _, r, e, _⟩ := h
  rw [dpall_len r]
  exact hF ds d e
theorem dl_call {σ : L2.St} {B : Hp} {t : TA} {R : List D → List D → Prop} {E : XK} {ds es : List D} (h : DA K t σ B ds) (hr : R ds es) : DL K (tCall (spL K R) [] E t) σ B es := fun H e Q q =>
  h H e _ fun vs B1 H1 g1 r1 => ⟨B1, ds, es, g1.i, by rw [List.append_nil]; exact r1, hr, fun p us B2 H2 g2 hp r2 => q p us B2 H2 (g1.trans g2) hp r2⟩
theorem s_asgL {σ : L2.St} {B H : Hp} {te : TE} {ds : List D} {nx : L2.St → Hp → Prop} {rt : VK} {bk ct : L2.St → Hp → Prop} {i : Nat} (e : Same B H) (h : DL K te σ B ds) (k : ∀ p vs B' H', Gw B H B' H' → B' p = some (.lst vs) → DpAll K B' vs ds → nx (σ.set i (some (.ref p))) H') : tAsg te (gName i) ⟨nx, rt, bk, ct⟩ σ H :=
  h H e _ fun p vs B' H' g hp r => k p vs B' H' g hp r
theorem s_retL {σ : L2.St} {B H : Hp} {te : TE} {ds : List D} {nx : L2.St → Hp → Prop} {rt : VK} {bk ct : L2.St → Hp → Prop} (e : Same B H) (h : DL K te σ B ds) (k : ∀ p vs B' H', Gw B H B' H' → B' p = some (.lst vs) → DpAll K B' vs ds → rt (.ref p) H') : tRet te ⟨nx, rt, bk, ct⟩ σ H :=
  h H e _ fun p vs B' H' g hp r => k p vs B' H' g hp r
theorem snoc_ind {α : Type} {p : List α → Prop} (h0 : p []) (h1 : ∀ l a, p l → p (l ++ [a])) (l : List α) : p l := by
  have : ∀ n (l : List α), l.length = n → p l := by
    intro n
    induction n with
    | zero => intro l h; rw [List.length_eq_zero_iff.mp h]; exact h0
    | succ n ih =>
      intro l h
      have hne : l ≠ [] := by intro z; rw [z] at h; simp at h
      rw [← List.dropLast_concat_getLast hne]
      exact h1 _ _ (ih _ (by rw [List.length_dropLast, h]; rfl))
  exact this _ l rfl
/-! ### more -/
mutual
theorem eqv_refl : ∀ d : D, d.hasDict = false → PyData.eqv d d = true
  | .none, _ => by simp only [PyData.eqv]
  | .bool _, _ => by simp only [PyData.eqv, beq_self_eq_true]
  | .int _, _ => by simp only [PyData.eqv, beq_self_eq_true]
  | .str _, _ => by simp only [PyData.eqv, beq_self_eq_true]
  | .list ds, h => by simp only [PyData.eqv]; exact eqvs_refl ds (by simpa only [PyData.hasDict] using h)
  | .tuple ds, h => by simp only [PyData.eqv]; exact eqvs_refl ds (by simpa only [PyData.hasDict] using h)
  | .dict _, h => by simp [PyData.hasDict] at h
theorem eqvs_refl : ∀ ds : List D, PyData.hasDictAll ds = false → PyData.eqvAll ds ds = true
  | [], _ => by simp only [PyData.eqvAll]
  | d :: ds, h => by
    simp only [PyData.hasDictAll, Bool.or_eq_false_iff] at h
    simp only [PyData.eqvAll, eqv_refl d h.1, eqvs_refl ds h.2, Bool.and_self]
end
theorem eqvAll_ints : ∀ xs ys : List Int, PyData.eqvAll (xs.map .int) (ys.map .int) = decide (xs = ys)
  | [], [] => by simp [PyData.eqvAll]
  | [], y :: ys => by simp [PyData.eqvAll]
  | x :: xs, [] => by simp [PyData.eqvAll]
  | x :: xs, y :: ys => by
    simp only [List.map_cons, PyData.eqvAll, PyData.eqv, eqvAll_ints xs ys]
    by_cases h : x = y <;> by_cases k : xs = ys <;> simp [h, k]
theorem shaped_int {i : Int} : SeqAt.shaped (.int i) = true := by simp [SeqAt.shaped, PyData.canLay0, PyData.depth]
theorem lay_ints : ∀ ns : List Int, PyData.canLayAll0 (ns.map .int) = true ∧ PyData.depthAll (ns.map .int) = 0
  | [] => by simp [PyData.canLayAll0, PyData.depthAll]
  | n :: ns => by simp [PyData.canLayAll0, PyData.depthAll, PyData.canLay0, PyData.depth, lay_ints ns]
theorem shaped_intsT {ns : List Int} : SeqAt.shaped (.tuple (ns.map .int)) = true := by simp [SeqAt.shaped, PyData.canLay0, PyData.depth, lay_ints ns]
theorem shaped_intsL {ns : List Int} : SeqAt.shaped (.list (ns.map .int)) = true := by simp [SeqAt.shaped, PyData.canLay0, PyData.depth, lay_ints ns]
theorem shaped_str {z : Str} (h : PyData.strOk z = true) : SeqAt.shaped (.str z) = true := by simp [SeqAt.shaped, PyData.canLay0, PyData.depth, h]
theorem shaped_items {x : D} (h : SeqAt.shaped x = true) (hs : isSeq x = true) : SeqAt.shaped (.tuple (itemsD x)) = true := by
  cases x <;> first | (simp [isSeq] at hs; done) | (simpa [SeqAt.shaped, PyData.canLay0, PyData.depth, itemsD] using h)
theorem nodict_items {x : D} (h : x.hasDict = false) (hs : isSeq x = true) : PyData.hasDict (.tuple (itemsD x)) = false := by
  cases x <;> first | (simp [isSeq] at hs; done) | (simpa [PyData.hasDict, itemsD] using h)
theorem rd_inS {c : Nat} {z : Str} : RD K rInS (.str ⟨#[c]⟩) (.str z) (.bool (decide (c ∈ z.cps.toList))) := fun B H u v e hu hv Q q => by
  cases hu; cases hv
  exact ⟨c, z, rfl, rfl, q _ B H (.refl e) (.bl _)⟩
theorem rd_isB {a b : Bool} : RD K rIsB (.bool a) (.bool b) (.bool (decide (a = b))) := fun B H u v e hu hv Q q => by
  cases hu; cases hv
  exact ⟨a, b, rfl, rfl, q _ B H (.refl e) (.bl _)⟩
theorem fold_chars (cs : List Nat) : ∀ acc : Array Nat, (cs.map fun c => (⟨#[c]⟩ : Str)).foldl (fun acc p => acc ++ #[] ++ p.cps) acc = acc ++ cs.toArray := by
  induction cs with
  | nil => intro acc; simp
  | cons c cs ih =>
    intro acc
    rw [List.map_cons, List.foldl_cons, ih]
    apply Array.ext'
    simp
theorem join_chars (cs : List Nat) : Txt.join "" (cs.map fun c => (⟨#[c]⟩ : Str)) = ⟨cs.toArray⟩ := by
  show Builtin.Str.glued ⟨#[]⟩ _ = _
  unfold Builtin.Str.glued
  cases cs with
  | nil => rfl
  | cons c cs =>
    simp only [List.map_cons, List.headD_cons, List.drop_succ_cons, List.drop_zero]
    rw [fold_chars]
    congr 1
    apply Array.ext'
    simp
theorem rd_pow {i j : Int} (h : CPow i j) : RD K (rI CPow fun i j => V.int (i ^ j.toNat)) (.int i) (.int j) (.int (i ^ j.toNat)) := rd_I h fun _ => .int _
theorem cd_allM {α : Type} {xs : List α} {g : α → Bool} : CD K (rAll K) [.list (xs.map fun a => .bool (g a))] (.bool (xs.all g)) := by
  have h := cd_all (K := K) (bs := xs.map g)
  have e1 : (xs.map g).map PyData.bool = xs.map fun a => .bool (g a) := by rw [List.map_map]; rfl
  have e2 : (xs.map g).all id = xs.all g := by rw [List.all_map]; rfl
  rw [e1, e2] at h
  exact h
end
end Co
namespace Co
open PySem PySem.Spec PyProof.Rows L2
section
variable {K : PySem.W.Frag} {AD : String → Addr}
/-- the fields of an error, as data -/
def Fl (K : PySem.W.Frag) (B : Hp) (ws : List (Str × V)) (fs : List (Str × D)) : Prop := ws.map Prod.fst = fs.map Prod.fst ∧ DpAll K B (ws.map Prod.snd) (fs.map Prod.snd)
abbrev Err := String × List (Str × D)
abbrev Res := Sum D Err
/-- the error x leaves -/
def xTo (K : PySem.W.Frag) (AD : String → Addr) (B H : Hp) (E : XK) (x : Err) : Prop :=
  (x.2 = [] → ∀ B' H', Gw B H B' H' → E (.ref (AD x.1)) none H') ∧ (x.2 ≠ [] → ∀ B' H' dx ws, Gw B H B' H' → B' dx = some (.xd ws) → Fl K B' ws x.2 → E (.ref (AD x.1)) (some dx) H')
def resX (K : PySem.W.Frag) (AD : String → Addr) (B H : Hp) (Q : VK) (E : XK) : Res → Prop
  | .inl d => ∀ v B' H', Gw B H B' H' → Dp K B' v d → Q v H'
  | .inr x => xTo K AD B H E x
/-- a def that gives data or raises -/
def spX (K : PySem.W.Frag) (AD : String → Addr) (R : List D → Res → Prop) : Sp := fun vs H Q E => ∃ (B : Hp) (ds : List D) (r : Res), Same B H ∧ DpAll K B vs ds ∧ R ds r ∧ resX K AD B H Q E r
theorem spX_len {R : List D → Res → Prop} {n : Nat} (hF : ∀ ds r, R ds r → ds.length = n) {vs : List V} {H : Hp} {Q : VK} {E : XK} (h : spX K AD R vs H Q E) : vs.length = n := by
  obtain ⟨B, ds, r, _, a, e, _⟩ := h
  rw [dpall_len a]
  exact hF ds r e
theorem xTo.up {B H B1 H1 : Hp} {E : XK} {x : Err} (h : xTo K AD B H E x) (g : Gw B H B1 H1) : xTo K AD B1 H1 E x :=
  ⟨fun z B' H' g' => h.1 z B' H' (g.trans g'), fun z B' H' dx ws g' => h.2 z B' H' dx ws (g.trans g')⟩
theorem resX.up {B H B1 H1 : Hp} {Q : VK} {E : XK} {r : Res} (h : resX K AD B H Q E r) (g : Gw B H B1 H1) : resX K AD B1 H1 Q E r := by
  cases r with
  | inl d => exact fun v B' H' g' q => h v B' H' (g.trans g') q
  | inr x => exact xTo.up h g
variable {σ : L2.St} {B H : Hp} {ta : TA} {ds : List D}
theorem st_callX {R : List D → Res → Prop} {r : Res} {Ex : L2.St → XK} {Q : VK} (e : Same B H) (h : DA K ta σ B ds) (hr : R ds r) (k : resX K AD B H Q (Ex σ) r) : tCallS (spX K AD R) Ex ta σ H Q :=
  h H e _ fun vs B1 H1 g1 r1 => ⟨B1, ds, r, g1.i, r1, hr, k.up g1⟩
/-- __init__ of an error: its fields, the last first -/
def spIni (C : Addr) (names : List Str) : Sp := fun vs H Q _ => ∃ a ws, vs = .ref a :: ws ∧ ws.length = names.length ∧ H a = some (exo a C none) ∧ ∀ dx, H dx = none → dx ≠ a → Q .non (upd (upd H dx (exd dx (names.zip ws).reverse)) a (exo a C (some dx)))
theorem spIni_len {C : Addr} {names : List Str} {vs : List V} {H : Hp} {Q : VK} {E : XK} (h : spIni C names vs H Q E) : vs.length = names.length + 1 := by
  obtain ⟨a, ws, rfl, hl, _⟩ := h
  rw [List.length_cons, hl]
theorem dpall_revz {names : List Str} {ws : List V} {ds : List D} {B' : Hp} (r : DpAll K B' ws ds) (hl : ds.length = names.length) : Fl K B' (names.zip ws).reverse (names.zip ds).reverse := by
  have lw := dpall_len r
  refine ⟨?_, ?_⟩
  · rw [List.map_reverse, List.map_reverse, List.map_fst_zip (by omega), List.map_fst_zip (by omega)]
  · rw [List.map_reverse, List.map_reverse, List.map_snd_zip (by omega), List.map_snd_zip (by omega)]
    exact dpall_rev r
theorem mk_flds {C : Addr} {names : List Str} {Q : XK} (e : Same B H) (h : DA K ta σ B ds) (hl : ds.length = names.length) (hz : names.length ≤ 1000)
    (k : ∀ B' H' dx ws, Gw B H B' H' → B' dx = some (.xd ws) → Fl K B' ws (names.zip ds).reverse → Q (.ref C) (some dx) H') : tMkO C (spIni C names) [] ta σ H Q :=
  h H e _ fun vs B1 H1 g1 r1 => by
    have lw := dpall_len r1
    refine ⟨by omega, fun a ha => ⟨a, vs, by rw [List.append_nil], by omega, upd_same, fun dx hdx hne => ?_⟩⟩
    have hd1 : H1 dx = none := by rw [upd_ne hne] at hdx; exact hdx
    refine ⟨rfl, dx, (names.zip vs).reverse, upd_same, by rw [upd_ne hne, upd_same], hd1, ?_⟩
    have hH : upd (del (upd (upd (upd H1 a (exo a C none)) dx (exd dx (names.zip vs).reverse)) a (exo a C (some dx))) a) dx (.xd (names.zip vs).reverse) = upd H1 dx (.xd (names.zip vs).reverse) := by
      funext b
      by_cases z : b = dx
      · subst z; rw [upd_same, upd_same]
      · rw [upd_ne z, upd_ne z]
        by_cases y : b = a
        · subst y; rw [ha]; simp [del]
        · have : del (upd (upd (upd H1 a (exo a C none)) dx (exd dx (names.zip vs).reverse)) a (exo a C (some dx))) a b = upd (upd (upd H1 a (exo a C none)) dx (exd dx (names.zip vs).reverse)) a (exo a C (some dx)) b := by simp [del, y]
          rw [this, upd_ne y, upd_ne z, upd_ne y]
    rw [hH]
    have g2 : Gw B1 H1 (upd B1 dx (.xd (names.zip vs).reverse)) (upd H1 dx (.xd (names.zip vs).reverse)) := Gw.new g1.i hd1
    exact k _ _ dx _ (g1.trans g2) upd_same (dpall_revz (dps_up g2.b _ _ r1) hl)
theorem de_xf {i : Nat} {a C dx : Addr} {f : Str} {ws : List (Str × V)} {v : V} {d : D} (hs : σ[i]? = some (some (.ref a))) (hb : B dx = some (.xd ws)) (hl : ws.lookup f = some v) (r : Dp K B v d) : DE K (tXf a (.ref C) (some dx) C f (tVar i)) σ B d :=
  fun H e Q q => ⟨_, hs, rfl, rfl, dx, ws, v, rfl, e _ _ hb, hl, q v B H (.refl e) r⟩
theorem fl1 {B : Hp} {ws : List (Str × V)} {n : Str} {d : D} (h : Fl K B ws [(n, d)]) : ∃ v, ws = [(n, v)] ∧ Dp K B v d := by
  obtain ⟨h1, h2⟩ := h
  match ws, h1, h2 with
  | [(m, v)], h1, h2 =>
    simp at h1
    subst h1
    cases h2 with
    | cons r _ => exact ⟨v, rfl, r⟩
end
end Co
namespace Co
open PySem PySem.Spec PyProof.Rows L2
section
variable {K : PySem.W.Frag} {m : Addr}
theorem pi_seqK {X : Cx} {K : PySem.W.Frag} {tg l : PySem.Expr} {tl : TE} (hK : X.K = K) (hl : PE X l tl) : PI X tg l (iSeq K tl) := hK ▸ pi_seq hl
/-! ### join -/
def rJoin (K : PySem.W.Frag) : V → List V → Hp → VK → Prop := fun x xs H Q => ∃ (a : Str) (p : Addr) (ys : List Str), x = .str a ∧ xs = [.ref p] ∧ (SqL K H p (ys.map V.str) ∨ SqT K H p (ys.map V.str)) ∧ (ys.map (·.length)).sum + ys.length * a.length ≤ 16777216 ∧ Q (.str (Txt.join a ys)) H
theorem pe_joinA {X : Cx} {o e : PySem.Expr} {to te : TE} {apos pos : Pos} (ho : PE X o to) (he : PE X e te) (h1 : starEach [e] X.env = [(false, eval e X.env)] := by rfl) (h2 : attributeBase o "join" X.env (eval o X.env) = eval o X.env := by rfl) (h3 : (apos.endLine == pos.line) = true := by rfl) :
    PE X (.Call (.Attribute o "join" apos) [e] [] pos) (tM1 (rJoin X.K) to te) := pe_join ho he h1 h2 h3
theorem dpall_strs {B : Hp} {vs : List V} : ∀ {zs : List Str}, DpAll K B vs (zs.map .str) → vs = zs.map V.str := by
  induction vs with
  | nil => intro bs h; cases bs with
    | nil => rfl
    | cons => cases h
  | cons v vs ih => intro bs h; cases bs with
    | nil => cases h
    | cons b bs => cases h with | cons h1 h2 => cases h1; rw [ih h2]; rfl
/-! ### what draws: an expression that leaves the bag b' of the bag b, by k draws -/
def ES (K : PySem.W.Frag) (m : Addr) (te : TE) (σ : L2.St) (B : Hp) (b : BS) (k : Nat) (d : D) (b' : BS) : Prop :=
  ∀ B1 H n, Same B B1 → Same B1 H → BagAt K B1 H m b (n + k) → ∀ Q : VK, (∀ v B' H', Gm (· = m) B1 H B' H' → BagAt K B' H' m b' n → Dp K B' v d → Q v H') → te σ H Q
def AS (K : PySem.W.Frag) (m : Addr) (ta : TA) (σ : L2.St) (B : Hp) (b : BS) (k : Nat) (ds : List D) (b' : BS) : Prop :=
  ∀ B1 H n, Same B B1 → Same B1 H → BagAt K B1 H m b (n + k) → ∀ Q : List V → Hp → Prop, (∀ vs B' H', Gm (· = m) B1 H B' H' → BagAt K B' H' m b' n → DpAll K B' vs ds → Q vs H') → ta σ H Q
def XS (K : PySem.W.Frag) (m : Addr) (tt : TT) (σ : L2.St) (B : Hp) (b : BS) (k : Nat) (t : Bool) (b' : BS) : Prop :=
  ∀ B1 H n, Same B B1 → Same B1 H → BagAt K B1 H m b (n + k) → ∀ Q : Bool → Hp → Prop, (∀ B' H', Gm (· = m) B1 H B' H' → BagAt K B' H' m b' n → Q t H') → tt σ H Q
def EL (K : PySem.W.Frag) (m : Addr) (te : TE) (σ : L2.St) (B : Hp) (b : BS) (k : Nat) (ds : List D) (b' : BS) : Prop :=
  ∀ B1 H n, Same B B1 → Same B1 H → BagAt K B1 H m b (n + k) → ∀ Q : VK, (∀ p vs B' H', Gm (· = m) B1 H B' H' → BagAt K B' H' m b' n → B' p = some (.lst vs) → DpAll K B' vs ds → Q (.ref p) H') → te σ H Q
theorem EL.es {te : TE} {σ : L2.St} {B : Hp} {b b' : BS} {k : Nat} {ds : List D} (h : EL K m te σ B b k ds b') : ES K m te σ B b k (.list ds) b' := fun B1 H n s e bg Q q => h B1 H n s e bg Q fun p vs B' H' g bg' hp r => q _ B' H' g bg' (.lst (.inl (.inl hp)) r)
variable {σ : L2.St} {B : Hp} {te ta tb tc : TE} {tt uu : TT} {ts tr : TA} {b b1 b2 b3 : BS} {k k1 k2 : Nat} {d x y : D} {ds es : List D}
theorem Gm.thm {B H B1 H1 B2 H2 : Hp} (g : Gm (· = m) B H B1 H1) (h : Gm (· = m) B1 H1 B2 H2) (x : H1 m ≠ none) : Gm (· = m) B H B2 H2 := Gm.trans g h fun a z _ => by rw [z]; exact x
theorem BagAt.ne {B H : Hp} {n : Nat} (x : BagAt K B H m b n) : H m ≠ none := ne_none x.at'
theorem gw_gm {B H B' H' : Hp} (g : Gw B H B' H') : Gm (· = m) B H B' H' := g.weak fun _ z => z.elim
theorem es_pure (h : DE K te σ B d) : ES K m te σ B b 0 d b := fun B1 H n s1 e bg Q q => h.up s1 H e Q fun v B' H' g r => q v B' H' (gw_gm g) (bg.up g) r
theorem as_pure (h : DA K ts σ B ds) : AS K m ts σ B b 0 ds b := fun B1 H n s1 e bg Q q => h.up s1 H e Q fun v B' H' g r => q v B' H' (gw_gm g) (bg.up g) r
theorem xs_pure {t : Bool} (h : DT tt σ B t) : XS K m tt σ B b 0 t b := fun B1 H n s1 e bg Q q => h.up s1 H e Q fun B' H' g => q B' H' (gw_gm g) (bg.up g)
theorem bag_cast {B H : Hp} {n n' : Nat} (x : BagAt K B H m b n) (h : n = n') : BagAt K B H m b n' := h ▸ x
theorem es_op {r : R2} (ha : ES K m ta σ B b k1 x b1) (hb : ES K m tb σ B b1 k2 y b2) (hr : RD K r x y d) : ES K m (tOp r ta tb) σ B b (k1 + k2) d b2 := fun B1 H n s1 e bg Q q =>
  ha B1 H (n + k2) s1 e (bag_cast bg (by omega)) _ fun u B2 H2 g2 bg2 r2 => hb B2 H2 n (s1.trans g2.b) g2.i bg2 _ fun v B3 H3 g3 bg3 r3 => hr B3 H3 u v g3.i (dp_up g3.b _ _ r2) r3 Q fun w B4 H4 g4 r4 =>
    q w B4 H4 ((g2.thm g3 bg2.ne).thm (gw_gm g4) bg3.ne) (bg3.up g4) r4
theorem as_nil : AS K m tNil σ B b 0 [] b := as_pure da_nil
theorem as_cons (h : ES K m te σ B b k1 d b1) (hr : AS K m tr σ B b1 k2 ds b2) : AS K m (tCons te tr) σ B b (k1 + k2) (d :: ds) b2 := fun B1 H n s1 e bg Q q =>
  h B1 H (n + k2) s1 e (bag_cast bg (by omega)) _ fun u B2 H2 g2 bg2 r2 => hr B2 H2 n (s1.trans g2.b) g2.i bg2 _ fun vs B3 H3 g3 bg3 r3 => q _ B3 H3 (g2.thm g3 bg2.ne) bg3 (.cons (dp_up g3.b _ _ r2) r3)
theorem es_tup (h : AS K m ts σ B b k ds b1) (hl : ds.length ≤ 100000) : ES K m (tTup ts) σ B b k (.tuple ds) b1 := fun B1 H n s1 e bg Q q =>
  h B1 H n s1 e bg _ fun vs B2 H2 g2 bg2 r2 => ⟨Nat.le_trans (by rw [dpall_len r2]; exact hl) (by decide), fun p hp => by
    have g3 : Gw B2 H2 (upd B2 p (.tup vs)) (upd H2 p (.tup vs)) := Gw.new g2.i hp
    exact q _ _ _ (g2.thm (gw_gm g3) bg2.ne) (bg2.up g3) (.tup (.inl (.inl upd_same)) (dps_up g3.b _ _ r2))⟩
theorem el_lst (h : AS K m ts σ B b k ds b1) (hl : ds.length ≤ 100000) : EL K m (tLst ts) σ B b k ds b1 := fun B1 H n s1 e bg Q q =>
  h B1 H n s1 e bg _ fun vs B2 H2 g2 bg2 r2 => ⟨Nat.le_trans (by rw [dpall_len r2]; exact hl) (by decide), fun p hp => by
    have g3 : Gw B2 H2 (upd B2 p (.lst vs)) (upd H2 p (.lst vs)) := Gw.new g2.i hp
    exact q _ _ _ _ (g2.thm (gw_gm g3) bg2.ne) (bg2.up g3) upd_same (dps_up g3.b _ _ r2)⟩
theorem el_pure (h : DL K te σ B ds) : EL K m te σ B b 0 ds b := fun B1 H n s1 e bg Q q => h.up s1 H e Q fun p vs B' H' g hp r => q p vs B' H' (gw_gm g) (bg.up g) hp r
theorem es_cb {r : List V → Hp → VK → Prop} (h : AS K m ts σ B b k ds b1) (hr : CD K r ds d) : ES K m (tCB r ts) σ B b k d b1 := fun B1 H n s1 e bg Q q =>
  h B1 H n s1 e bg _ fun vs B2 H2 g2 bg2 r2 => hr B2 H2 vs g2.i r2 Q fun w B3 H3 g3 r3 => q w B3 H3 (g2.thm (gw_gm g3) bg2.ne) (bg2.up g3) r3
theorem es_call {sp : Sp} {dvs : List V} {E : XK} (h : AS K m ts σ B b k ds b1) (hd : ∀ B, DpAll K B dvs es) (hs : PD K sp (ds ++ es) d) : ES K m (tCall sp dvs E ts) σ B b k d b1 := fun B1 H n s1 e bg Q q =>
  h B1 H n s1 e bg _ fun vs B2 H2 g2 bg2 r2 => hs B2 H2 _ g2.i (dpall_app r2 (hd _)) Q E fun w B3 H3 g3 r3 => q w B3 H3 (g2.thm (gw_gm g3) bg2.ne) (bg2.up g3) r3
/-- the draw -/
theorem es_draw {i : Nat} {E : XK} {lim : Int} (hs : σ[i]? = some (some (.ref m))) (h : ES K m te σ B b k (.int lim) b1) (hl : 1 ≤ lim ∧ lim ≤ 10 ^ 30) : ES K m (tCall (spDraw K) [] E (tCons (tVar i) (tCons te tNil))) σ B b (k + 1) (.int (dv b1 lim)) (db b1 lim) := fun B1 H n s1 e bg Q q =>
  ⟨_, hs, h B1 H (n + 1) s1 e (bag_cast bg (by omega)) _ fun u B2 H2 g2 bg2 r2 => by
    cases r2
    exact ⟨B2, m, b1, n, lim, rfl, g2.i, bg2, hl.1, hl.2, fun H3 g3 bg3 => q _ B2 H3 (g2.thm g3 bg2.ne) bg3 (.int _)⟩⟩
theorem es_if {t : Bool} (h : XS K m tt σ B b k1 t b1) (h1 : t = true → ES K m ta σ B b1 k2 d b2) (h2 : t = false → ES K m tb σ B b1 k2 d b2) : ES K m (tIf tt ta tb) σ B b (k1 + k2) d b2 := fun B1 H n s1 e bg Q q =>
  h B1 H (n + k2) s1 e (bag_cast bg (by omega)) _ fun B2 H2 g2 bg2 => by
    cases t with
    | true => exact iteT (h1 rfl B2 H2 n (s1.trans g2.b) g2.i bg2 _ fun w B3 H3 g3 bg3 r3 => q w B3 H3 (g2.thm g3 bg2.ne) bg3 r3)
    | false => exact iteF (h2 rfl B2 H2 n (s1.trans g2.b) g2.i bg2 _ fun w B3 H3 g3 bg3 r3 => q w B3 H3 (g2.thm g3 bg2.ne) bg3 r3)
theorem xs_test {t : Bool} (h : ES K m te σ B b k (.bool t) b1) : XS K m (tTest te) σ B b k t b1 := fun B1 H n s1 e bg Q q => h B1 H n s1 e bg _ fun u B2 H2 g2 bg2 r2 => by
  cases r2; exact ⟨t, rfl, q B2 H2 g2 bg2⟩
theorem xs_B {t : Bool} (h : ES K m te σ B b k (.bool t) b1) : XS K m (tB te) σ B b k t b1 := fun B1 H n s1 e bg Q q => h B1 H n s1 e bg _ fun u B2 H2 g2 bg2 r2 => by
  cases r2; exact ⟨t, rfl, q B2 H2 g2 bg2⟩
theorem xs_not {t : Bool} (h : XS K m tt σ B b k t b1) : XS K m (tNot tt) σ B b k (!t) b1 := fun B1 H n s1 e bg Q q => h B1 H n s1 e bg _ fun B2 H2 g2 bg2 => q B2 H2 g2 bg2
theorem es_le {te : TE} {k' : Nat} (h : ES K m te σ B b k d b1) (hk : k ≤ k') : ES K m te σ B b k' d b1 := fun B1 H n s1 e bg Q q => h B1 H n s1 e (bg.less (by omega)) Q q
theorem el_if {t : Bool} {ds1 ds2 : List D} (h : XS K m tt σ B b k1 t b1) (h1 : t = true → EL K m ta σ B b1 k2 ds1 b2) (h2 : t = false → EL K m tb σ B b1 k2 ds2 b2) : EL K m (tIf tt ta tb) σ B b (k1 + k2) (if t = true then ds1 else ds2) b2 := fun B1 H n s1 e bg Q q =>
  h B1 H (n + k2) s1 e (bag_cast bg (by omega)) _ fun B2 H2 g2 bg2 => by
    cases t with
    | true => exact iteT (h1 rfl B2 H2 n (s1.trans g2.b) g2.i bg2 _ fun p vs B3 H3 g3 bg3 hp r3 => q p vs B3 H3 (g2.thm g3 bg2.ne) bg3 hp r3)
    | false => exact iteF (h2 rfl B2 H2 n (s1.trans g2.b) g2.i bg2 _ fun p vs B3 H3 g3 bg3 hp r3 => q p vs B3 H3 (g2.thm g3 bg2.ne) bg3 hp r3)
theorem es_join {a : Str} {ys : List Str} (ha : ES K m ta σ B b k1 (.str a) b1) (hb : ES K m tb σ B b1 k2 (.list (ys.map .str)) b2) (hz : (ys.map (·.length)).sum + ys.length * a.length ≤ 16777216) : ES K m (tM1 (rJoin K) ta tb) σ B b (k1 + k2) (.str (Txt.join a ys)) b2 := fun B1 H n s1 e bg Q q =>
  ha B1 H (n + k2) s1 e (bag_cast bg (by omega)) _ fun u B2 H2 g2 bg2 r2 => by
    cases r2
    refine ⟨⟨a, rfl⟩, hb B2 H2 n (s1.trans g2.b) g2.i bg2 _ fun v B3 H3 g3 bg3 r3 => ?_⟩
    cases r3 with
    | lst hs ha =>
      have := dpall_strs ha
      subst this
      exact ⟨a, _, ys, rfl, rfl, .inl (g3.i.seq hs), hz, q _ B3 H3 (g2.thm g3 bg2.ne) bg3 (.str _)⟩
theorem es_sl {r : V → Option Int → Option Int → Hp → VK → Prop} {tl th : TO} {l u : Option Int} (ha : ES K m ta σ B b k x b1) (hl : DO tl σ B l) (hu : DO th σ B u) (hr : SD K r x l u d) : ES K m (tSl r ta tl th) σ B b k d b1 := fun B1 H n s1 e bg Q q =>
  ha B1 H n s1 e bg _ fun v B2 H2 g2 bg2 r2 => hl.up (s1.trans g2.b) H2 g2.i _ fun B3 H3 g3 => hu.up ((s1.trans g2.b).trans g3.b) H3 g3.i _ fun B4 H4 g4 => hr B4 H4 v g4.i (dp_up (g3.b.trans g4.b) _ _ r2) Q fun w B5 H5 g5 r5 =>
    q w B5 H5 (g2.thm (gw_gm ((g3.trans g4).trans g5)) bg2.ne) (bg2.up ((g3.trans g4).trans g5)) r5
/-! ### statements -/
theorem b_retL {H : Hp} {N : Nat} {nx : L2.St → Hp → Prop} {rt : VK} {bk ct : L2.St → Hp → Prop} (e : Same B H) (bg : BagAt K B H m b N) (h : EL K m te σ B b k ds b1) (hk : k ≤ N)
    (c : ∀ p vs B' H', Gm (· = m) B H B' H' → BagAt K B' H' m b1 (N - k) → B' p = some (.lst vs) → DpAll K B' vs ds → rt (.ref p) H') : tRet te ⟨nx, rt, bk, ct⟩ σ H :=
  h B H (N - k) (Same.refl _) e (bag_cast bg (by omega)) _ fun p vs B' H' g bg' hp r => c p vs B' H' g bg' hp r
theorem b_asgL {H : Hp} {N : Nat} {nx : L2.St → Hp → Prop} {rt : VK} {bk ct : L2.St → Hp → Prop} {i : Nat} (e : Same B H) (bg : BagAt K B H m b N) (h : EL K m te σ B b k ds b1) (hk : k ≤ N)
    (c : ∀ p vs B' H', Gm (· = m) B H B' H' → BagAt K B' H' m b1 (N - k) → B' p = some (.lst vs) → DpAll K B' vs ds → nx (σ.set i (some (.ref p))) H') : tAsg te (gName i) ⟨nx, rt, bk, ct⟩ σ H :=
  h B H (N - k) (Same.refl _) e (bag_cast bg (by omega)) _ fun p vs B' H' g bg' hp r => c p vs B' H' g bg' hp r
theorem b_asg {H : Hp} {N : Nat} {nx : L2.St → Hp → Prop} {rt : VK} {bk ct : L2.St → Hp → Prop} {i : Nat} (e : Same B H) (bg : BagAt K B H m b N) (h : ES K m te σ B b k d b1) (hk : k ≤ N)
    (c : ∀ v B' H', Gm (· = m) B H B' H' → BagAt K B' H' m b1 (N - k) → Dp K B' v d → nx (σ.set i (some v)) H') : tAsg te (gName i) ⟨nx, rt, bk, ct⟩ σ H :=
  h B H (N - k) (Same.refl _) e (bag_cast bg (by omega)) _ fun v B' H' g bg' r => c v B' H' g bg' r
theorem b_ret {H : Hp} {N : Nat} {nx : L2.St → Hp → Prop} {rt : VK} {bk ct : L2.St → Hp → Prop} (e : Same B H) (bg : BagAt K B H m b N) (h : ES K m te σ B b k d b1) (hk : k ≤ N)
    (c : ∀ v B' H', Gm (· = m) B H B' H' → BagAt K B' H' m b1 (N - k) → Dp K B' v d → rt v H') : tRet te ⟨nx, rt, bk, ct⟩ σ H :=
  h B H (N - k) (Same.refl _) e (bag_cast bg (by omega)) _ fun v B' H' g bg' r => c v B' H' g bg' r
theorem b_if {H : Hp} {N : Nat} {Dn : Ends} {t u : TS} {z : Bool} (e : Same B H) (bg : BagAt K B H m b N) (h : XS K m tt σ B b k z b1) (hk : k ≤ N)
    (c1 : z = true → ∀ B' H', Gm (· = m) B H B' H' → BagAt K B' H' m b1 (N - k) → t Dn σ H') (c2 : z = false → ∀ B' H', Gm (· = m) B H B' H' → BagAt K B' H' m b1 (N - k) → u Dn σ H') : tIfS tt t u Dn σ H :=
  h B H (N - k) (Same.refl _) e (bag_cast bg (by omega)) _ fun B' H' g bg' => by
    cases z with
    | true => exact iteT (c1 rfl B' H' g bg')
    | false => exact iteF (c2 rfl B' H' g bg')
/-! ### comprehensions that draw -/
def mapV (f : BS → D → D) (g : BS → D → BS) : BS → List D → List D
  | _, [] => []
  | b, d :: ds => f b d :: mapV f g (g b d) ds
def mapB (g : BS → D → BS) : BS → List D → BS
  | b, [] => b
  | b, d :: ds => mapB g (g b d) ds
theorem mapB_snoc {g : BS → D → BS} : ∀ (ds : List D) (b : BS) (d : D), mapB g b (ds ++ [d]) = g (mapB g b ds) d
  | [], b, d => rfl
  | x :: ds, b, d => by simp [mapB, mapB_snoc ds]
theorem mapV_snoc {f : BS → D → D} {g : BS → D → BS} : ∀ (ds : List D) (b : BS) (d : D), mapV f g b (ds ++ [d]) = mapV f g b ds ++ [f (mapB g b ds) d]
  | [], b, d => rfl
  | x :: ds, b, d => by simp [mapV, mapB, mapV_snoc ds]
theorem mapV_len {f : BS → D → D} {g : BS → D → BS} : ∀ (ds : List D) (b : BS), (mapV f g b ds).length = ds.length
  | [], b => rfl
  | x :: ds, b => by simp [mapV, mapV_len ds]
structure LcB (K : PySem.W.Frag) (B1 H1 : Hp) (m : Addr) (b : BS) (n : Nat) (Da : Addr) (out : List D) (H' : Hp) : Prop where
  ex : ∃ B' vs, Gm (fun a => a = Da ∨ a = m) B1 H1 B' H' ∧ B' Da = none ∧ H' Da = some (.lst vs) ∧ DpAll K B' vs out ∧ BagAt K B' H' m b n
theorem lcb0 {H : Hp} {Da : Addr} {n : Nat} (e : Same B H) (bg : BagAt K B H m b n) (h : H Da = none) : LcB K B H m b n Da [] (upd H Da (.lst [])) := by
  have g : Gw B H B (upd H Da (.lst [])) := Gw.own e h
  exact ⟨B, [], g.weak (fun _ z => z.elim), base_none e h, upd_same, .nil, bg.up g⟩
theorem lcb_turn {B1 H : Hp} {Da : Addr} {out : List D} {H' : Hp} {te : TE} {σ2 : L2.St} {dd : D} {n ke : Nat} {Nx : Hp → Prop} (w : LcB K B1 H m b (n + ke) Da out H') (hD : H Da = none) (hm : H m ≠ none) (hz : out.length < 100000) (he : ES K m te σ2 B1 b ke dd b1) (kk : ∀ H5, LcB K B1 H m b1 n Da (out ++ [dd]) H5 → Nx H5) :
    te σ2 H' fun y H4 => ∃ acc, H4 Da = some (.lst acc) ∧ acc.length < sizeLine ∧ Nx (upd H4 Da (.lst (acc ++ [y]))) := by
  obtain ⟨B', vs, g, nb, hl, ha, bg⟩ := w.ex
  have hne : Da ≠ m := fun z => hm (z ▸ hD)
  refine he B' H' n g.b g.i bg _ fun y B2 H2 g2 bg2 r2 => ?_
  have n2 : B2 Da = none := g2.f Da nb (by rw [hl]; intro z; cases z)
  have h2 : H2 Da = some (.lst vs) := g2.r Da _ hne hl
  refine ⟨vs, h2, Nat.lt_of_lt_of_le (by rw [dpall_len ha]; exact hz) (by decide), kk _ ⟨B2, vs ++ [y], ?_, n2, upd_same, dpall_app (dps_up g2.b _ _ ha) (.cons r2 .nil), ?_⟩⟩
  · have st : ∀ a, (a = Da ∨ a = m) → H2 a ≠ none := fun a z => by
      rcases z with z | z
      · rw [z, h2]; intro q; cases q
      · rw [z]; exact bg2.ne
    refine Gm.trans (B1 := B2) (H1 := H2) (Gm.trans g (g2.weak fun _ z => .inr z) fun a z _ => ?_) ((Gm.mut g2.i n2).weak fun _ z => .inl z) fun a z _ => st a z
    rcases z with z | z
    · rw [z, hl]; intro q; cases q
    · rw [z]; exact bg.ne
  · exact ⟨bg2.nb, by rw [upd_ne (Ne.symm hne)]; exact bg2.at', bg2.ls, bg2.bits, bg2.i0, bg2.g0, bg2.c0, bg2.cn, bg2.s0, bg2.s1⟩
theorem lcb_done {B1 H : Hp} {Da : Addr} {out : List D} {H' : Hp} {n : Nat} (w : LcB K B1 H m b n Da out H') (hD : H Da = none) (hm : H m ≠ none) : ∃ B' vs, Gm (· = m) B1 H B' H' ∧ B' Da = some (.lst vs) ∧ DpAll K B' vs out ∧ BagAt K B' H' m b n := by
  obtain ⟨B', vs, g, nb, hl, ha, bg⟩ := w.ex
  have hne : Da ≠ m := fun z => hm (z ▸ hD)
  have kk : Same B' (upd B' Da (.lst vs)) := fun a o q => by rw [upd_ne (ne_of_none q nb)]; exact q
  refine ⟨upd B' Da (.lst vs), vs, ⟨g.b.trans kk, fun a o q => ?_, fun a o z q => ?_, fun a q nn => ?_⟩, upd_same, dps_up kk _ _ ha, ?_⟩
  · by_cases z : a = Da
    · subst z; rw [upd_same] at q; cases q; exact hl
    · rw [upd_ne z] at q; exact g.i a o q
  · refine g.r a o (fun zz => ?_) q
    rcases zz with zz | zz
    · subst zz; rw [hD] at q; cases q
    · exact z zz
  · have z : a ≠ Da := fun z => nn (z ▸ hD)
    rw [upd_ne z]
    exact g.f a q nn
  · exact ⟨by rw [upd_ne (Ne.symm hne)]; exact bg.nb, bg.at', kk.seq bg.ls, bg.bits, bg.i0, bg.g0, bg.c0, bg.cn, bg.s0, bg.s1⟩
theorem el_lc {tl : TE} {j : Nat} {ds : List D} {f : BS → D → D} {gB : BS → D → BS} {vs : List Nat} {ke : Nat} (h : ES K m tl σ B b k x b1) (sd : SeqD x ds) (hz : ds.length ≤ 90000) (hw : ∀ x, wipe ((wipe σ vs).set j (some x)) vs = wipe σ vs)
    (he : ∀ dd v B1 bb, dd ∈ ds → Same B B1 → Dp K B1 v dd → ES K m te ((wipe σ vs).set j (some v)) B1 bb ke (f bb dd) (gB bb dd)) : EL K m (tLc (iSeq K tl) (gName j) tYes te vs) σ B b (k + ds.length * ke) (mapV f gB b1 ds) (mapB gB b1 ds) := fun B0 H n s0 e bg Q q =>
  h B0 H (n + ds.length * ke) s0 e (bag_cast bg (by omega)) _ fun v B1 H1 g1 bg1 r1 => by
  have go : ∀ {us : List V} {Da : Addr}, H1 Da = none → DpAll K B1 us ds → ∀ i x H', us[i]? = some x → LcB K B1 H1 m (mapB gB b1 (ds.take i)) (n + (ds.length - i) * ke) Da (mapV f gB b1 (ds.take i)) H' →
      tYes ((wipe σ vs).set j (some x)) H' fun bo H3 => if bo = true then te ((wipe σ vs).set j (some x)) H3 fun y H4 => ∃ acc, H4 Da = some (.lst acc) ∧ acc.length < sizeLine ∧ LcB K B1 H1 m (mapB gB b1 (ds.take (i + 1))) (n + (ds.length - (i + 1)) * ke) Da (mapV f gB b1 (ds.take (i + 1))) (upd H4 Da (.lst (acc ++ [y])))
        else LcB K B1 H1 m (mapB gB b1 (ds.take (i + 1))) (n + (ds.length - (i + 1)) * ke) Da (mapV f gB b1 (ds.take (i + 1))) H3 := fun {us Da} hD ha i x H' hx w => by
    refine yes_at ?_
    have hi := (List.getElem?_eq_some_iff.mp hx).1
    rw [dpall_len ha] at hi
    have hd := List.getElem?_eq_getElem hi
    obtain ⟨w', e1, e2⟩ := dpall_get ha hd
    rw [hx] at e1
    cases e1
    have hn : n + (ds.length - i) * ke = n + (ds.length - (i + 1)) * ke + ke := by
      have : ds.length - i = (ds.length - (i + 1)) + 1 := by omega
      rw [this, Nat.add_mul, Nat.one_mul]
      omega
    rw [hn] at w
    refine lcb_turn w hD bg1.ne (by rw [mapV_len, List.length_take]; omega) (he _ _ B1 _ (List.getElem_mem hi) (s0.trans g1.b) e2) fun H5 w5 => ?_
    rw [take_succ' hd, mapV_snoc, mapB_snoc]
    exact w5
  have st0 : LcB K B1 H1 m (mapB gB b1 (ds.take 0)) (n + (ds.length - 0) * ke) 0 [] H1 → True := fun _ => trivial
  have fin : ∀ {us : List V} {Da : Addr} {H' : Hp}, us.length = ds.length → H1 Da = none → LcB K B1 H1 m (mapB gB b1 (ds.take us.length)) (n + (ds.length - us.length) * ke) Da (mapV f gB b1 (ds.take us.length)) H' → Q (.ref Da) H' := fun {us Da H'} hl hD w => by
    rw [hl, List.take_length, Nat.sub_self, Nat.zero_mul] at w
    obtain ⟨B', us', g, hp, r, bg'⟩ := lcb_done w hD bg1.ne
    exact q _ _ B' H' (g1.thm g bg1.ne) bg' hp r
  cases sd with
  | l ds =>
    cases r1 with
    | lst hs ha =>
      rename_i aL xsL
      refine ⟨_, _, rfl, .inl ⟨g1.i.seq hs, fun Da hD => lc_list (xs := xsL) (fun i H' => LcB K B1 H1 m (mapB gB b1 (ds.take i)) (n + (ds.length - i) * ke) Da (mapV f gB b1 (ds.take i)) H') (lcb0 g1.i bg1 hD) (fun i H' _ w => ?_) (fun i x H' hx w => ⟨hw x, go hD ha i x H' hx w⟩) (fun H' w => fin (dpall_len ha) hD w)⟩⟩
      obtain ⟨B', vs', g, _⟩ := w.ex
      exact (g.b.trans g.i).seq hs
  | t ds =>
    cases r1 with
    | tup hs ha =>
      rename_i aL xsL
      refine ⟨_, _, rfl, .inr ⟨seqT_up g1.i hs, fun Da hD => lc_tup (xs := xsL) (fun i H' => LcB K B1 H1 m (mapB gB b1 (ds.take i)) (n + (ds.length - i) * ke) Da (mapV f gB b1 (ds.take i)) H') (lcb0 g1.i bg1 hD) (fun i H' _ w => ?_) (fun i x H' hx w => ⟨hw x, go hD ha i x H' hx w⟩) (fun H' w => fin (dpall_len ha) hD w)⟩⟩
      obtain ⟨B', vs', g, _⟩ := w.ex
      exact seqT_up (g.b.trans g.i) hs
def itV (f : BS → Nat → D) (g : BS → Nat → BS) : BS → Nat → List D
  | _, 0 => []
  | b, n + 1 => itV f g b n ++ [f (Nat.rec b (fun i x => g x i) n) n]
def itB (g : BS → Nat → BS) (b : BS) (n : Nat) : BS := Nat.rec b (fun i x => g x i) n
theorem itV_len {f : BS → Nat → D} {g : BS → Nat → BS} (b : BS) : ∀ n, (itV f g b n).length = n
  | 0 => rfl
  | n + 1 => by simp [itV, itV_len b n]
theorem el_lcR {tn : TE} {j : Nat} {N : Int} {f : BS → Nat → D} {gB : BS → Nat → BS} {vs : List Nat} {ke : Nat} (h : ES K m tn σ B b k (.int N) b1) (hz : -1000 ≤ N ∧ N ≤ 90000) (hw : ∀ x, wipe ((wipe σ vs).set j (some x)) vs = wipe σ vs)
    (he : ∀ (i : Nat) B1 bb, i < N.toNat → Same B B1 → ES K m te ((wipe σ vs).set j (some (.int (i : Int)))) B1 bb ke (f bb i) (gB bb i)) : EL K m (tLc (iRng1 (tCons tn tNil)) (gName j) tYes te vs) σ B b (k + N.toNat * ke) (itV f gB b1 N.toNat) (itB gB b1 N.toNat) := fun B0 H n s0 e bg Q q =>
  h B0 H (n + N.toNat * ke) s0 e (bag_cast bg (by omega)) _ fun v B1 H1 g1 bg1 r1 => by
  cases r1
  refine ⟨N, rfl, by omega, by omega, fun Da hD => lc_range (lo := 0) (n := N.toNat) (fun i H' => LcB K B1 H1 m (itB gB b1 i) (n + (N.toNat - i) * ke) Da (itV f gB b1 i) H') (lcb0 g1.i bg1 hD) (fun i H' hi w => ?_) (fun H' w => ?_)⟩
  · have z : (0 : Int) + (i : Int) = (i : Int) := Int.zero_add _
    rw [z]
    refine ⟨hw _, yes_at ?_⟩
    have hn : n + (N.toNat - i) * ke = n + (N.toNat - (i + 1)) * ke + ke := by
      have : N.toNat - i = (N.toNat - (i + 1)) + 1 := by omega
      rw [this, Nat.add_mul, Nat.one_mul]
      omega
    rw [hn] at w
    exact lcb_turn w hD bg1.ne (by rw [itV_len]; omega) (he i B1 _ hi (s0.trans g1.b)) fun H5 w5 => w5
  · rw [Nat.sub_self, Nat.zero_mul] at w
    obtain ⟨B', us', g, hp, r, bg'⟩ := lcb_done w hD bg1.ne
    exact q _ _ B' H' (g1.thm g bg1.ne) bg' hp r
/-! ### x[i] = e, x a list that was just made -/
theorem adopt {B H B2 H3 : Hp} {p : Addr} {us us' : List V} {n : Nat} (e : Same B H) (hp : H p = none) (hm : H m ≠ none) (g : Gm (· = m) B (upd H p (.lst us)) B2 H3) (hb : B2 p = none) (bg : BagAt K B2 H3 m b n) :
    Gm (· = m) B H (upd B2 p (.lst us')) (upd H3 p (.lst us')) ∧ BagAt K (upd B2 p (.lst us')) (upd H3 p (.lst us')) m b n ∧ Same B2 (upd B2 p (.lst us')) := by
  have hne : p ≠ m := fun z => hm (z ▸ hp)
  have k : Same B2 (upd B2 p (.lst us')) := fun a o q => by rw [upd_ne (ne_of_none q hb)]; exact q
  refine ⟨⟨g.b.trans k, fun a o q => ?_, fun a o z q => ?_, fun a q nn => ?_⟩, ⟨by rw [upd_ne (Ne.symm hne)]; exact bg.nb, by rw [upd_ne (Ne.symm hne)]; exact bg.at', k.seq bg.ls, bg.bits, bg.i0, bg.g0, bg.c0, bg.cn, bg.s0, bg.s1⟩, k⟩
  · by_cases z : a = p
    · subst z; rw [upd_same] at q ⊢; exact q
    · rw [upd_ne z] at q ⊢; exact g.i a o q
  · have z2 : a ≠ p := fun z => by rw [z, hp] at q; cases q
    rw [upd_ne z2]
    exact g.r a o z (by rw [upd_ne z2]; exact q)
  · have z : a ≠ p := fun z => nn (z ▸ hp)
    rw [upd_ne z]
    exact g.f a q (by rw [upd_ne z]; exact nn)
theorem dpall_set {vs : List V} : ∀ {ds : List D} {v : V} {d : D} (q : Nat) {B : Hp}, DpAll K B vs ds → Dp K B v d → DpAll K B (vs.set q v) (ds.set q d) := by
  induction vs with
  | nil => intro ds v d q B h r; cases h; exact .nil
  | cons x vs ih =>
    intro ds v d q B h r
    cases h with
    | cons h1 h2 => cases q with
      | zero => exact .cons r h2
      | succ q => exact .cons h1 (ih q h2 r)
/-- x[draw(bag, len(x))] = e -/
theorem b_setD {H : Hp} {N : Nat} {nx : L2.St → Hp → Prop} {rt : VK} {bk ct : L2.St → Hp → Prop} {i jb : Nat} {p : Addr} {us : List V} {E : XK} (e : Same B H) (hp : H p = none) (bg : BagAt K B H m b N) (hu : DpAll K B us ds) (hl : 1 ≤ us.length ∧ us.length ≤ 100000)
    (hs : σ[i]? = some (some (.ref p))) (hsb : σ[jb]? = some (some (.ref m))) (hv : ES K m ta σ B b k1 d b1) (hk : k1 + 1 ≤ N)
    (c : ∀ vs' B' H', Gm (· = m) B H B' H' → BagAt K B' H' m (db b1 us.length) (N - (k1 + 1)) → B' p = some (.lst vs') → DpAll K B' vs' (ds.set (dv b1 us.length).toNat d) → nx σ H') :
    tAsg ta (gSub (tVar i) (tCall (spDraw K) [] E (tCons (tVar jb) (tCons (tCB (rLenA K) (tCons (tVar i) tNil)) tNil))) rSetL) ⟨nx, rt, bk, ct⟩ σ (upd H p (.lst us)) := by
  have g0 : Gw B H B (upd H p (.lst us)) := Gw.own e hp
  have hne : p ≠ m := fun z => bg.ne (z ▸ hp)
  refine hv B _ (N - (k1 + 1) + 1) (Same.refl _) g0.i (bag_cast (bg.up g0) (by omega)) _ fun v B2 H2 g2 bg2 r2 => ?_
  have h2 : H2 p = some (.lst us) := g2.r p _ hne upd_same
  have hb2 : B2 p = none := g2.f p (base_none e hp) (by rw [upd_same]; intro z; cases z)
  have hr := draw_range (b := b1) (lim := (us.length : Int)) (by omega)
  refine ⟨_, hs, _, hsb, _, hs, ⟨_, _, rfl, .inl ⟨_, SqL.of h2, rfl⟩, B2, m, b1, N - (k1 + 1), us.length, rfl, g2.i, bg2, by omega, ?_, fun H3 g3 bg3 => ?_⟩⟩
  · have : (100000 : Int) ≤ 10 ^ 30 := by decide
    omega
  · have h3 : H3 p = some (.lst us) := g3.r p _ hne h2
    refine ⟨p, us, _, (dv b1 us.length).toNat, rfl, rfl, h3, ?_, ?_⟩
    · simp only [ixN, hr.1, hr.2, if_true]
    · obtain ⟨a1, a2, a3⟩ := adopt (us' := us.set (dv b1 us.length).toNat v) e hp bg.ne (g2.thm g3 bg2.ne) hb2 bg3
      exact c _ _ _ a1 a2 upd_same (dps_up a3 _ _ (dpall_set _ (dps_up g2.b _ _ hu) r2))
/-- x[j] = e, j at a slot -/
theorem b_setV {H : Hp} {N : Nat} {nx : L2.St → Hp → Prop} {rt : VK} {bk ct : L2.St → Hp → Prop} {i jb : Nat} {p : Addr} {us : List V} {j : Int} (e : Same B H) (hp : H p = none) (bg : BagAt K B H m b N) (hu : DpAll K B us ds) (hl : 0 ≤ j ∧ j < us.length)
    (hs : σ[i]? = some (some (.ref p))) (hsb : σ[jb]? = some (some (.int j))) (hv : ES K m ta σ B b k1 d b1) (hk : k1 ≤ N)
    (c : ∀ vs' B' H', Gm (· = m) B H B' H' → BagAt K B' H' m b1 (N - k1) → B' p = some (.lst vs') → DpAll K B' vs' (ds.set j.toNat d) → nx σ H') :
    tAsg ta (gSub (tVar i) (tVar jb) rSetL) ⟨nx, rt, bk, ct⟩ σ (upd H p (.lst us)) := by
  have g0 : Gw B H B (upd H p (.lst us)) := Gw.own e hp
  have hne : p ≠ m := fun z => bg.ne (z ▸ hp)
  refine hv B _ (N - k1) (Same.refl _) g0.i (bag_cast (bg.up g0) (by omega)) _ fun v B2 H2 g2 bg2 r2 => ?_
  have h2 : H2 p = some (.lst us) := g2.r p _ hne upd_same
  have hb2 : B2 p = none := g2.f p (base_none e hp) (by rw [upd_same]; intro z; cases z)
  refine ⟨_, hs, _, hsb, p, us, _, j.toNat, rfl, rfl, h2, ?_, ?_⟩
  · simp only [ixN, hl.1, hl.2, if_true]
  · obtain ⟨a1, a2, a3⟩ := adopt (us' := us.set j.toNat v) e hp bg.ne g2 hb2 bg2
    exact c _ _ _ a1 a2 upd_same (dps_up a3 _ _ (dpall_set _ (dps_up g2.b _ _ hu) r2))
/-! ### more expressions -/
theorem el_ifT (h : XS K m tt σ B b k1 true b1) (h1 : EL K m ta σ B b1 k2 ds b2) : EL K m (tIf tt ta tb) σ B b (k1 + k2) ds b2 := fun B1 H n s1 e bg Q q =>
  h B1 H (n + k2) s1 e (bag_cast bg (by omega)) _ fun B2 H2 g2 bg2 => iteT (h1 B2 H2 n (s1.trans g2.b) g2.i bg2 _ fun p vs B3 H3 g3 bg3 hp r3 => q p vs B3 H3 (g2.thm g3 bg2.ne) bg3 hp r3)
theorem el_ifF (h : XS K m tt σ B b k1 false b1) (h1 : EL K m tb σ B b1 k2 ds b2) : EL K m (tIf tt ta tb) σ B b (k1 + k2) ds b2 := fun B1 H n s1 e bg Q q =>
  h B1 H (n + k2) s1 e (bag_cast bg (by omega)) _ fun B2 H2 g2 bg2 => iteF (h1 B2 H2 n (s1.trans g2.b) g2.i bg2 _ fun p vs B3 H3 g3 bg3 hp r3 => q p vs B3 H3 (g2.thm g3 bg2.ne) bg3 hp r3)
theorem de_neg {i : Int} (h : DE K te σ B (.int i)) : DE K (tUn (rU fun i => V.int (-i)) te) σ B (.int (-i)) := fun H e Q q => h H e _ fun v B' H' g r => by
  cases r
  exact ⟨i, rfl, q _ B' H' g (.int _)⟩
theorem dl_listRg {n : Int} (h : DE K te σ B (.int n)) (hz : -1000 ≤ n ∧ n ≤ 90000) : DL K (tLstRg (tRg1 te)) σ B ((List.range n.toNat).map fun (i : Nat) => .int (i : Int)) := fun H e Q q => h H e _ fun v B1 H1 g1 r1 => by
  cases r1
  refine ⟨n, rfl, ⟨by omega, by omega, by omega, by omega, by omega⟩, fun p hp => ?_⟩
  have hv : rgV 0 n = ((List.range n.toNat).map fun (i : Nat) => (i : Int)).map V.int := by simp [rgV]
  have hd : ((List.range n.toNat).map fun (i : Nat) => PyData.int (i : Int)) = ((List.range n.toNat).map fun (i : Nat) => (i : Int)).map PyData.int := by simp
  have g2 : Gw B1 H1 (upd B1 p (.lst (rgV 0 n))) (upd H1 p (.lst (rgV 0 n))) := Gw.new g1.i hp
  refine q p _ _ _ (g1.trans g2) upd_same ?_
  rw [hv, hd]
  exact dpall_intsI
end
end Co
namespace Fx
open PySem PySem.Spec PyProof.Rows L2 Co
/-! ### values of the mirror: what never changes is a tree; what may change is a cell, by its number -/
inductive PV where
  | non
  | bl (b : Bool)
  | int (i : Int)
  | str (s : Str)
  | tup (xs : List PV)
  | lst (xs : List PV)
  | kls (xs : List PV)
  | obj (c : String) (ns : List Str) (xs : List PV)
  | mu (n : Nat)
  | xv (n : Nat)
  | dct
deriving Inhabited
inductive Cell where
  | lst (xs : List PV)
  | obj (c : String) (ns : List Str) (xs : List PV)
  | dead
deriving Inhabited
abbrev Sta := List Cell
abbrev Env := List (Option PV)
inductive Out (α : Type) where
  | ok (a : α) (S : Sta)
  | ex (c : String) (xs : List PV) (S : Sta)
  | stuck
inductive Flow where
  | nx (ε : Env) (S : Sta)
  | rt (p : PV) (S : Sta)
  | bk (ε : Env) (S : Sta)
  | ct (ε : Env) (S : Sta)
  | ex (c : String) (xs : List PV) (ε : Env) (S : Sta)
  | stuck
/-- the written part, the addresses of the classes, the fields of each class in the order in which they are set -/
structure Md where
  K : PySem.W.Frag
  AD : String → Addr
  fl : String → List Str
  er : String → Bool
/-- what a number of the state stands for: a thing that may change, or an error that was caught -/
inductive Slot where
  | own (a : Addr)
  | exc (a : Addr)
structure Wd where
  B : Hp
  ρ : List Slot
/-- an instance of an own class, or an error held as a value -/
def ObjB (M : Md) (W : Wd) (a : Addr) (c : String) (ns : List Str) (vs : List V) : Prop :=
  (M.er c = false ∧ ∃ dx, W.B a = some (.ins (M.AD c) dx (ns.zip vs)) ∧ W.B dx = some (.own a)) ∨
    (M.er c = true ∧ ns = M.fl c ∧ ((ns = [] ∧ W.B a = some (exo a (M.AD c) none)) ∨ ∃ dx, ns ≠ [] ∧ W.B a = some (exo a (M.AD c) (some dx)) ∧ W.B dx = some (exd dx (ns.zip vs).reverse)))
theorem ObjB.up {M : Md} {W W' : Wd} {a : Addr} {c : String} {ns : List Str} {vs : List V} (e : Same W.B W'.B) (h : ObjB M W a c ns vs) : ObjB M W' a c ns vs := by
  rcases h with ⟨h0, dx, h1, h2⟩ | ⟨h0, hf, ⟨h1, h2⟩ | ⟨dx, h1, h2, h3⟩⟩
  · exact .inl ⟨h0, dx, e _ _ h1, e _ _ h2⟩
  · exact .inr ⟨h0, hf, .inl ⟨h1, e _ _ h2⟩⟩
  · exact .inr ⟨h0, hf, .inr ⟨dx, h1, e _ _ h2, e _ _ h3⟩⟩
mutual
inductive Rp (M : Md) (W : Wd) : V → PV → Prop
  | non : Rp M W .non .non
  | bl (b : Bool) : Rp M W (.bl b) (.bl b)
  | int (i : Int) : Rp M W (.int i) (.int i)
  | str (s : Str) : Rp M W (.str s) (.str s)
  | tup {a : Addr} {vs : List V} {xs : List PV} : SqT M.K W.B a vs → RpA M W vs xs → Rp M W (.ref a) (.tup xs)
  | lst {a : Addr} {vs : List V} {xs : List PV} : W.B a = some (.lst vs) → RpA M W vs xs → Rp M W (.ref a) (.lst xs)
  | kls {a : Addr} {vs : List V} {xs : List PV} : SqL M.K W.B a vs → RpA M W vs xs → Rp M W (.ref a) (.kls xs)
  | obj {a : Addr} {c : String} {ns : List Str} {vs : List V} {xs : List PV} : ObjB M W a c ns vs → ns.length = xs.length → RpA M W vs xs → Rp M W (.ref a) (.obj c ns xs)
  | mu {n : Nat} {a : Addr} : W.ρ[n]? = some (.own a) → Rp M W (.ref a) (.mu n)
  | xv {n : Nat} {a : Addr} : W.ρ[n]? = some (.exc a) → Rp M W (.ref a) (.xv n)
  | dct {a : Addr} {kvs : List (Key × V)} : W.B a = some (.dK kvs) → Rp M W (.ref a) .dct
inductive RpA (M : Md) (W : Wd) : List V → List PV → Prop
  | nil : RpA M W [] []
  | cons {v : V} {vs : List V} {p : PV} {ps : List PV} : Rp M W v p → RpA M W vs ps → RpA M W (v :: vs) (p :: ps)
end
structure Le (W W' : Wd) : Prop where
  b : Same W.B W'.B
  ρ : W.ρ <+: W'.ρ
theorem Le.refl (W : Wd) : Le W W := ⟨Same.refl _, List.prefix_refl _⟩
theorem Le.trans {W W1 W2 : Wd} (h : Le W W1) (k : Le W1 W2) : Le W W2 := ⟨h.b.trans k.b, h.ρ.trans k.ρ⟩
theorem pre_get {α : Type} {xs ys : List α} (h : xs <+: ys) {n : Nat} {a : α} (q : xs[n]? = some a) : ys[n]? = some a := by
  obtain ⟨t, rfl⟩ := h
  rw [List.getElem?_append_left (List.getElem?_eq_some_iff.mp q).1]
  exact q
mutual
theorem rp_up {M : Md} {W W' : Wd} (e : Le W W') : ∀ (p : PV) (v : V), Rp M W v p → Rp M W' v p
  | .non, _, h => by cases h; exact .non
  | .bl b, _, h => by cases h; exact .bl b
  | .int i, _, h => by cases h; exact .int i
  | .str x, _, h => by cases h; exact .str x
  | .tup xs, _, h => by
    cases h with
    | tup hs ha => exact .tup (seqT_up e.b hs) (rpa_up e xs _ ha)
  | .lst xs, _, h => by
    cases h with
    | lst hs ha => exact .lst (e.b _ _ hs) (rpa_up e xs _ ha)
  | .kls xs, _, h => by
    cases h with
    | kls hs ha => exact .kls (e.b.seq hs) (rpa_up e xs _ ha)
  | .obj c ns xs, _, h => by
    cases h with
    | obj h1 h3 ha => exact .obj (h1.up e.b) h3 (rpa_up e xs _ ha)
  | .mu n, _, h => by
    cases h with
    | mu h => exact .mu (pre_get e.ρ h)
  | .xv n, _, h => by
    cases h with
    | xv h => exact .xv (pre_get e.ρ h)
  | .dct, _, h => by
    cases h with
    | dct h => exact .dct (e.b _ _ h)
theorem rpa_up {M : Md} {W W' : Wd} (e : Le W W') : ∀ (ps : List PV) (vs : List V), RpA M W vs ps → RpA M W' vs ps
  | [], _, h => by cases h; exact .nil
  | p :: ps, _, h => by
    cases h with
    | cons h1 h2 => exact .cons (rp_up e p _ h1) (rpa_up e ps _ h2)
end
theorem rpa_len {M : Md} {W : Wd} : ∀ {ps : List PV} {vs : List V}, RpA M W vs ps → vs.length = ps.length
  | [], _, h => by cases h; rfl
  | p :: ps, _, h => by cases h with | cons h1 h2 => rw [List.length_cons, List.length_cons, rpa_len h2]
theorem rpa_app {M : Md} {W : Wd} {vs ws : List V} {ds es : List PV} (h : RpA M W vs ds) (k : RpA M W ws es) : RpA M W (vs ++ ws) (ds ++ es) := by
  induction vs generalizing ds with
  | nil => cases h; exact k
  | cons v vs ih => cases h with | cons h1 h2 => exact .cons h1 (ih h2)
theorem rpa_get {M : Md} {W : Wd} {vs : List V} : ∀ {ps : List PV} {i : Nat} {p : PV}, RpA M W vs ps → ps[i]? = some p → ∃ v, vs[i]? = some v ∧ Rp M W v p := by
  induction vs with
  | nil => intro ds i d h e; cases h; simp at e
  | cons v vs ih =>
    intro ds i d h e
    cases h with
    | cons h1 h2 =>
      cases i with
      | zero => simp at e; subst e; exact ⟨v, by simp, h1⟩
      | succ i => obtain ⟨w, a, b⟩ := ih (i := i) h2 (by simpa using e); exact ⟨w, by simpa using a, b⟩
theorem rpa_get' {M : Md} {W : Wd} {vs : List V} {ps : List PV} {i : Nat} {v : V} (h : RpA M W vs ps) (e : vs[i]? = some v) : ∃ p, ps[i]? = some p ∧ Rp M W v p := by
  have hi := (List.getElem?_eq_some_iff.mp e).1
  rw [rpa_len h] at hi
  obtain ⟨w, a, b⟩ := rpa_get h (List.getElem?_eq_getElem hi)
  rw [e] at a
  cases a
  exact ⟨_, List.getElem?_eq_getElem hi, b⟩
theorem rpa_take {M : Md} {W : Wd} {vs : List V} : ∀ {ds : List PV} (n : Nat), RpA M W vs ds → RpA M W (vs.take n) (ds.take n) := by
  induction vs with
  | nil => intro ds n h; cases h; simp; exact .nil
  | cons v vs ih => intro ds n h; cases h with
    | cons h1 h2 => cases n with
      | zero => exact .nil
      | succ n => exact .cons h1 (ih n h2)
theorem rpa_drop {M : Md} {W : Wd} {vs : List V} : ∀ {ds : List PV} (n : Nat), RpA M W vs ds → RpA M W (vs.drop n) (ds.drop n) := by
  induction vs with
  | nil => intro ds n h; cases h; simp; exact .nil
  | cons v vs ih => intro ds n h; cases n with
    | zero => exact h
    | succ n => cases h with | cons h1 h2 => exact ih n h2
theorem rpa_set {M : Md} {W : Wd} {vs : List V} {v : V} {p : PV} (hv : Rp M W v p) : ∀ {ds : List PV} (n : Nat), RpA M W vs ds → RpA M W (vs.set n v) (ds.set n p) := by
  induction vs with
  | nil => intro ds n h; cases h; exact .nil
  | cons w vs ih => intro ds n h; cases h with
    | cons h1 h2 => cases n with
      | zero => exact .cons hv h2
      | succ n => exact .cons h1 (ih n h2)
/-! ### the heap beside the state -/
def CellR (M : Md) (W : Wd) (H : Hp) (a : Addr) : Cell → Prop
  | .lst xs => W.B a = none ∧ ∃ vs, H a = some (.lst vs) ∧ RpA M W vs xs
  | .obj c ns xs => W.B a = none ∧ M.er c = false ∧ ns.length = xs.length ∧ ∃ dx vs, H a = some (.ins (M.AD c) dx (ns.zip vs)) ∧ W.B dx = some (.own a) ∧ RpA M W vs xs
  | .dead => True
theorem CellR.up {M : Md} {W W' : Wd} {H H' : Hp} {a : Addr} {c : Cell} (e : Le W W') (hb : W'.B a = W.B a) (hh : H' a = H a) (h : CellR M W H a c) : CellR M W' H' a c := by
  cases c with
  | lst xs =>
    obtain ⟨n, vs, h1, h2⟩ := h
    exact ⟨hb.trans n, vs, hh.trans h1, rpa_up e _ _ h2⟩
  | obj c ns xs =>
    obtain ⟨n, er, l, dx, vs, h1, h2, h3⟩ := h
    exact ⟨hb.trans n, er, l, dx, vs, hh.trans h1, e.b _ _ h2, rpa_up e _ _ h3⟩
  | dead => exact trivial
structure Rel (M : Md) (W : Wd) (H : Hp) (S : Sta) : Prop where
  i : Same W.B H
  len : W.ρ.length = S.length
  nd : ∀ (n m : Nat) (a : Addr), W.ρ[n]? = some (.own a) → W.ρ[m]? = some (.own a) → n = m
  al : ∀ a, Slot.own a ∈ W.ρ → H a ≠ none
  c : ∀ (n : Nat) (a : Addr) (c : Cell), W.ρ[n]? = some (.own a) → S[n]? = some c → CellR M W H a c
structure Go (W : Wd) (H : Hp) (W' : Wd) (H' : Hp) : Prop where
  b : Same W.B W'.B
  ρ : W.ρ <+: W'.ρ
  p : ∀ a, W.B a = none → Slot.own a ∉ W.ρ → H a ≠ none → W'.B a = none ∧ Slot.own a ∉ W'.ρ ∧ H' a = H a
theorem Go.le {W W' : Wd} {H H' : Hp} (g : Go W H W' H') : Le W W' := ⟨g.b, g.ρ⟩
theorem Go.refl (W : Wd) (H : Hp) : Go W H W H := ⟨Same.refl _, List.prefix_refl _, fun _ h1 h2 _ => ⟨h1, h2, rfl⟩⟩
theorem Go.trans {W W1 W2 : Wd} {H H1 H2 : Hp} (g : Go W H W1 H1) (h : Go W1 H1 W2 H2) : Go W H W2 H2 :=
  ⟨g.b.trans h.b, g.ρ.trans h.ρ, fun a q1 q2 q3 => by
    obtain ⟨x1, x2, x3⟩ := g.p a q1 q2 q3
    obtain ⟨y1, y2, y3⟩ := h.p a x1 x2 (by rw [x3]; exact q3)
    exact ⟨y1, y2, y3.trans x3⟩⟩
section
variable {M : Md} {W W' Wa : Wd} {H H' Ha : Hp} {S S' : Sta}
theorem Rel.none_b (r : Rel M W H S) {a : Addr} (h : H a = none) : W.B a = none := base_none r.i h
theorem Rel.none_ρ (r : Rel M W H S) {a : Addr} (h : H a = none) : Slot.own a ∉ W.ρ := fun q => r.al a q h
/-- a new thing that never changes -/
theorem Rel.new (r : Rel M W H S) {p : Addr} {o : HO} (h : H p = none) : Rel M ⟨upd W.B p o, W.ρ⟩ (upd H p o) S ∧ Go W H ⟨upd W.B p o, W.ρ⟩ (upd H p o) := by
  have sb : Same W.B (upd W.B p o) := fun a u q => by rw [upd_ne (ne_of_none (r.i a u q) h)]; exact q
  refine ⟨⟨fun a u q => ?_, r.len, r.nd, fun a ha => ?_, fun n a c h1 h2 => ?_⟩, sb, List.prefix_refl _, fun a q1 q2 q3 => ?_⟩
  · have q' : upd W.B p o a = some u := q
    by_cases z : a = p
    · subst z; rw [upd_same] at q' ⊢; exact q'
    · rw [upd_ne z] at q' ⊢; exact r.i a u q'
  · have : a ≠ p := fun z => r.al a ha (z ▸ h)
    rw [upd_ne this]; exact r.al a ha
  · have ne : a ≠ p := fun z => r.al a (List.mem_of_getElem? h1) (z ▸ h)
    exact (r.c n a c h1 h2).up ⟨sb, List.prefix_refl _⟩ (upd_ne ne) (upd_ne ne)
  · have ne : a ≠ p := fun z => q3 (z ▸ h)
    exact ⟨(upd_ne ne).trans q1, q2, upd_ne ne⟩
theorem snoc_get {α : Type} {xs : List α} {x y : α} {n : Nat} (h : (xs ++ [x])[n]? = some y) : xs[n]? = some y ∨ (n = xs.length ∧ x = y) := by
  by_cases hn : n < xs.length
  · rw [List.getElem?_append_left hn] at h; exact .inl h
  · have := (List.getElem?_eq_some_iff.mp h).1
    have e : n = xs.length := by simp at this; omega
    subst e
    rw [List.getElem?_append_right (Nat.le_refl _)] at h
    exact .inr ⟨rfl, by simpa using h⟩
/-- a private thing becomes one that never changes -/
theorem Rel.adopt (r : Rel M W H S) {p : Addr} {o : HO} (h : H p = some o) (nb : W.B p = none) (nr : Slot.own p ∉ W.ρ) : Rel M ⟨upd W.B p o, W.ρ⟩ H S ∧ ∀ Wa Ha, Ha p = none → Go Wa Ha W H → Go Wa Ha ⟨upd W.B p o, W.ρ⟩ H := by
  have sb : Same W.B (upd W.B p o) := fun a u q => by rw [upd_ne (ne_of_none q nb)]; exact q
  refine ⟨⟨fun a u q => ?_, r.len, r.nd, r.al, fun n a c h1 h2 => ?_⟩, fun Wa Ha hp g => ⟨g.b.trans sb, g.ρ, fun a q1 q2 q3 => ?_⟩⟩
  · have q' : upd W.B p o a = some u := q
    by_cases z : a = p
    · subst z; rw [upd_same] at q'; rw [h]; exact q'
    · rw [upd_ne z] at q'; exact r.i a u q'
  · have ne : a ≠ p := fun z => nr (z ▸ List.mem_of_getElem? h1)
    exact (r.c n a c h1 h2).up ⟨sb, List.prefix_refl _⟩ (upd_ne ne) rfl
  · obtain ⟨x1, x2, x3⟩ := g.p a q1 q2 q3
    have ne : a ≠ p := fun z => q3 (z ▸ hp)
    exact ⟨(upd_ne ne).trans x1, x2, x3⟩
/-- a private thing becomes a cell -/
theorem Rel.adoptC (r : Rel M W H S) {p : Addr} {o : HO} {c : Cell} (h : H p = some o) (nr : Slot.own p ∉ W.ρ) (hc : CellR M ⟨W.B, W.ρ ++ [.own p]⟩ H p c) : Rel M ⟨W.B, W.ρ ++ [.own p]⟩ H (S ++ [c]) ∧ ∀ Wa Ha, Ha p = none → Go Wa Ha W H → Go Wa Ha ⟨W.B, W.ρ ++ [.own p]⟩ H := by
  have le : Le W ⟨W.B, W.ρ ++ [.own p]⟩ := ⟨Same.refl _, List.prefix_append _ _⟩
  refine ⟨⟨r.i, by simp [r.len], fun n m a h1 h2 => ?_, fun a ha => ?_, fun n a c' h1 h2 => ?_⟩, fun Wa Ha hp g => ⟨g.b, g.ρ.trans le.ρ, fun a q1 q2 q3 => ?_⟩⟩
  · rcases snoc_get h1 with k1 | ⟨k1, e1⟩ <;> rcases snoc_get h2 with k2 | ⟨k2, e2⟩
    · exact r.nd n m a k1 k2
    · cases e2; exact absurd (List.mem_of_getElem? k1) nr
    · cases e1; exact absurd (List.mem_of_getElem? k2) nr
    · omega
  · rcases List.mem_append.mp ha with ha | ha
    · exact r.al a ha
    · cases List.mem_singleton.mp ha
      rw [h]; intro z; cases z
  · rcases snoc_get h1 with k1 | ⟨k1, e1⟩
    · have hn : n < S.length := by rw [← r.len]; exact (List.getElem?_eq_some_iff.mp k1).1
      rw [List.getElem?_append_left hn] at h2
      exact (r.c n a c' k1 h2).up le rfl rfl
    · cases e1
      rw [k1, r.len, List.getElem?_append_right (Nat.le_refl _)] at h2
      have e2 : c = c' := by simpa using h2
      subst e2
      exact hc
  · obtain ⟨x1, x2, x3⟩ := g.p a q1 q2 q3
    refine ⟨x1, fun hm => ?_, x3⟩
    rcases List.mem_append.mp hm with hm | hm
    · exact x2 hm
    · cases List.mem_singleton.mp hm
      exact q3 hp
/-- a private thing changes -/
theorem Rel.priv (r : Rel M W H S) {p : Addr} {o : HO} (nb : W.B p = none) (nr : Slot.own p ∉ W.ρ) : Rel M W (upd H p o) S ∧ ∀ Wa Ha, Ha p = none → Go Wa Ha W H → Go Wa Ha W (upd H p o) := by
  refine ⟨⟨fun a u q => ?_, r.len, r.nd, fun a ha => ?_, fun n a c h1 h2 => ?_⟩, fun Wa Ha hp g => ⟨g.b, g.ρ, fun a q1 q2 q3 => ?_⟩⟩
  · have ne : a ≠ p := fun z => by rw [z, nb] at q; cases q
    rw [upd_ne ne]; exact r.i a u q
  · have ne : a ≠ p := fun z => nr (z ▸ ha)
    rw [upd_ne ne]; exact r.al a ha
  · have ne : a ≠ p := fun z => nr (z ▸ List.mem_of_getElem? h1)
    exact (r.c n a c h1 h2).up (Le.refl _) rfl (upd_ne ne)
  · obtain ⟨x1, x2, x3⟩ := g.p a q1 q2 q3
    have ne : a ≠ p := fun z => q3 (z ▸ hp)
    exact ⟨x1, x2, (upd_ne ne).trans x3⟩
/-- a new cell -/
theorem Rel.cell (r : Rel M W H S) {p : Addr} {o : HO} {c : Cell} (h : H p = none) (hc : CellR M ⟨W.B, W.ρ ++ [.own p]⟩ (upd H p o) p c) : Rel M ⟨W.B, W.ρ ++ [.own p]⟩ (upd H p o) (S ++ [c]) ∧ Go W H ⟨W.B, W.ρ ++ [.own p]⟩ (upd H p o) := by
  obtain ⟨r1, g1⟩ := r.priv (p := p) (o := o) (r.none_b h) (r.none_ρ h)
  obtain ⟨r2, g2⟩ := r1.adoptC (c := c) upd_same (r.none_ρ h) hc
  exact ⟨r2, g2 W H h (g1 W H h (.refl W H))⟩
/-- the place of an error that was caught -/
theorem Rel.caught (r : Rel M W H S) (a : Addr) : Rel M ⟨W.B, W.ρ ++ [.exc a]⟩ H (S ++ [.dead]) ∧ Go W H ⟨W.B, W.ρ ++ [.exc a]⟩ H := by
  have le : Le W ⟨W.B, W.ρ ++ [.exc a]⟩ := ⟨Same.refl _, List.prefix_append _ _⟩
  have mem : ∀ b, Slot.own b ∈ W.ρ ++ [Slot.exc a] → Slot.own b ∈ W.ρ := fun b h => by
    rcases List.mem_append.mp h with h | h
    · exact h
    · cases List.mem_singleton.mp h
  have get : ∀ (n : Nat) (b : Addr), (W.ρ ++ [Slot.exc a])[n]? = some (Slot.own b) → W.ρ[n]? = some (Slot.own b) := fun n b h => by
    rcases snoc_get h with h | ⟨_, h⟩
    · exact h
    · cases h
  refine ⟨⟨r.i, by simp [r.len], fun n m b h1 h2 => r.nd n m b (get _ _ h1) (get _ _ h2), fun b h => r.al b (mem b h), fun n b c h1 h2 => ?_⟩, Same.refl _, le.ρ, fun b q1 q2 q3 => ⟨q1, fun h => q2 (mem b h), rfl⟩⟩
  have h1' := get _ _ h1
  have hn : n < S.length := by rw [← r.len]; exact (List.getElem?_eq_some_iff.mp h1').1
  rw [List.getElem?_append_left hn] at h2
  exact (r.c n b c h1' h2).up le rfl rfl
/-- a cell changes -/
theorem Rel.put (r : Rel M W H S) {n : Nat} {a : Addr} {o : HO} {c : Cell} (h : W.ρ[n]? = some (.own a)) (nb : W.B a = none) (hc : CellR M W (upd H a o) a c) : Rel M W (upd H a o) (S.set n c) ∧ Go W H W (upd H a o) := by
  have ha := List.mem_of_getElem? h
  refine ⟨⟨fun b u q => ?_, by simp [r.len], r.nd, fun b hb => ?_, fun m b c' h1 h2 => ?_⟩, Same.refl _, List.prefix_refl _, fun b q1 q2 q3 => ?_⟩
  · have ne : b ≠ a := fun z => by rw [z, nb] at q; cases q
    rw [upd_ne ne]; exact r.i b u q
  · by_cases z : b = a
    · subst z; rw [upd_same]; intro z; cases z
    · rw [upd_ne z]; exact r.al b hb
  · by_cases z : m = n
    · subst z
      rw [h] at h1; cases h1
      have : (S.set m c)[m]? = some c := List.getElem?_set_self (by rw [← r.len]; exact (List.getElem?_eq_some_iff.mp h).1)
      rw [this] at h2; cases h2
      exact hc
    · have ne : b ≠ a := fun q => z (r.nd m n a (q ▸ h1) h)
      rw [List.getElem?_set_ne (Ne.symm z)] at h2
      exact (r.c m b c' h1 h2).up (Le.refl _) rfl (upd_ne ne)
  · have ne : b ≠ a := fun z => q2 (z ▸ ha)
    exact ⟨q1, q2, upd_ne ne⟩
end
end Fx
namespace Fx
open PySem PySem.Spec PyProof.Rows L2 Co
/-! ### outcomes -/
/-- a mark that hangs on a term: simp leaves that term alone -/
inductive Tag {α : Type} (a : α) : Type where
  | mk
def Out.bind {α β : Type} (o : Out α) (f : α → Sta → Out β) (_ : Tag f := Tag.mk) : Out β := match o with
  | .ok a S => f a S
  | .ex c xs S => .ex c xs S
  | .stuck => .stuck
def lift {α : Type} (o : Option α) (S : Sta) : Out α := match o with
  | some a => .ok a S
  | none => .stuck
def OPost {α : Type} (o : Out α) (A : α → Sta → Prop) (E : String → List PV → Sta → Prop) : Prop := match o with
  | .ok a S => A a S
  | .ex c xs S => E c xs S
  | .stuck => False
theorem opost_bind {α β : Type} {o : Out α} {f : α → Sta → Out β} {A : β → Sta → Prop} {E : String → List PV → Sta → Prop} : OPost (o.bind f) A E = OPost o (fun a S => OPost (f a S) A E) E := by cases o <;> rfl
theorem OPost.mono {α : Type} {o : Out α} {A A' : α → Sta → Prop} {E E' : String → List PV → Sta → Prop} (h : OPost o A E) (k : ∀ a S, A a S → A' a S) (k' : ∀ c xs S, E c xs S → E' c xs S) : OPost o A' E' := by
  cases o with
  | ok a S => exact k a S h
  | ex c xs S => exact k' c xs S h
  | stuck => exact h
theorem opost_lift {α : Type} {o : Option α} {S : Sta} {A : α → Sta → Prop} {E : String → List PV → Sta → Prop} (h : OPost (lift o S) A E) : ∃ a, o = some a ∧ A a S := by
  cases o with
  | none => exact h.elim
  | some a => exact ⟨a, rfl, h⟩
section
variable {M : Md} {W W' Wa W0 W1 : Wd} {H H' Ha H1 : Hp} {S S' : Sta} {σ : L2.St} {ε : Env} {X : WX}
/-! ### slots -/
structure Er (M : Md) (W : Wd) (σ : L2.St) (ε : Env) : Prop where
  len : σ.length = ε.length
  get : ∀ (i : Nat) (p : PV), ε[i]? = some (some p) → ∃ v, σ[i]? = some (some v) ∧ Rp M W v p
theorem Er.up (h : Er M W σ ε) (e : Le W W') : Er M W' σ ε := ⟨h.len, fun i p q => by obtain ⟨v, a, b⟩ := h.get i p q; exact ⟨v, a, rp_up e _ _ b⟩⟩
theorem Er.set (h : Er M W σ ε) {i : Nat} {v : V} {p : PV} (r : Rp M W v p) : Er M W (σ.set i (some v)) (ε.set i (some p)) := ⟨by simp [h.len], fun j q hj => by
  by_cases z : i = j
  · subst z
    have hl : i < ε.length := by have := (List.getElem?_eq_some_iff.mp hj).1; simpa using this
    rw [List.getElem?_set_self hl] at hj
    cases hj
    exact ⟨v, List.getElem?_set_self (by rw [h.len]; exact hl), r⟩
  · rw [List.getElem?_set_ne z] at hj
    obtain ⟨w, a, b⟩ := h.get j q hj
    exact ⟨w, by rw [List.getElem?_set_ne z]; exact a, b⟩⟩
theorem Er.unset (h : Er M W σ ε) {i : Nat} {x : Option V} : Er M W (σ.set i x) (ε.set i none) := ⟨by simp [h.len], fun j q hj => by
  by_cases z : i = j
  · subst z
    have hl : i < ε.length := by have := (List.getElem?_eq_some_iff.mp hj).1; simpa using this
    rw [List.getElem?_set_self hl] at hj
    cases hj
  · rw [List.getElem?_set_ne z] at hj
    obtain ⟨w, a, b⟩ := h.get j q hj
    exact ⟨w, by rw [List.getElem?_set_ne z]; exact a, b⟩⟩
theorem er_start (M : Md) (W : Wd) {vs : List V} {ps : List PV} (n : Nat) (h : RpA M W vs ps) : Er M W (vs.map some ++ List.replicate n none) (ps.map some ++ List.replicate n none) := ⟨by simp [rpa_len h], fun i p q => by
  by_cases hl : i < ps.length
  · rw [List.getElem?_append_left (by simpa using hl), List.getElem?_map] at q
    obtain ⟨p', h1, h2⟩ := Option.map_eq_some_iff.mp q
    cases h2
    obtain ⟨v, a, b⟩ := rpa_get h h1
    refine ⟨v, ?_, b⟩
    rw [List.getElem?_append_left (by rw [List.length_map, rpa_len h]; exact hl), List.getElem?_map, a]
    rfl
  · rw [List.getElem?_append_right (by simpa using hl)] at q
    have := List.mem_of_getElem? q
    rw [List.mem_replicate] at this
    cases this.2⟩
/-! ### what a reading keeps of its mirror -/
/-- the fields of an error that is under way -/
def Xd (M : Md) (W : Wd) (c : String) (xs : List PV) : Option Addr → Prop
  | none => xs = [] ∧ M.fl c = []
  | some dx => M.fl c ≠ [] ∧ ∃ vs, W.B dx = some (.xd ((M.fl c).zip vs).reverse) ∧ vs.length = (M.fl c).length ∧ RpA M W vs xs
theorem Xd.up {c : String} {xs : List PV} {d : Option Addr} (e : Le W W') (h : Xd M W c xs d) : Xd M W' c xs d := by
  cases d with
  | none => exact h
  | some dx => obtain ⟨n, vs, h1, h2, h3⟩ := h; exact ⟨n, vs, e.b _ _ h1, h2, rpa_up e _ _ h3⟩
def okG {α β : Type} (R : Md → Wd → β → α → Prop) (M : Md) (W : Wd) (H : Hp) (Q : β → Hp → Prop) (a : α) (S : Sta) : Prop := ∀ b W' H', Go W H W' H' → Rel M W' H' S → R M W' b a → Q b H'
def exE (M : Md) (W : Wd) (H : Hp) (E : XK) (c : String) (xs : List PV) (S : Sta) : Prop := ∀ d W' H', Go W H W' H' → Rel M W' H' S → Xd M W' c xs d → E (.ref (M.AD c)) d H'
abbrev atσ (X : WX) (σ : L2.St) : XK := fun cls d H => X cls d σ H
theorem okG.up {α β : Type} {R : Md → Wd → β → α → Prop} {Q : β → Hp → Prop} {a : α} (h : okG R M W H Q a S) (g : Go W H W' H') : okG R M W' H' Q a S := fun b W2 H2 g2 r q => h b W2 H2 (g.trans g2) r q
theorem exE.up {E : XK} {c : String} {xs : List PV} (h : exE M W H E c xs S) (g : Go W H W' H') : exE M W' H' E c xs S := fun d W2 H2 g2 r q => h d W2 H2 (g.trans g2) r q
/-- the reading t of an expression follows from its mirror m -/
def RG {α β : Type} (R : Md → Wd → β → α → Prop) (M : Md) (W0 : Wd) (X : WX) (t : L2.St → Hp → (β → Hp → Prop) → Prop) (m : Env → Sta → Out α) : Prop :=
  ∀ (W : Wd) (H : Hp) (S : Sta) (σ : L2.St) (ε : Env), Le W0 W → Rel M W H S → Er M W σ ε → ∀ Q : β → Hp → Prop, OPost (m ε S) (okG R M W H Q) (exE M W H (atσ X σ)) → t σ H Q
abbrev RE (M : Md) (W0 : Wd) (X : WX) (te : TE) (m : Env → Sta → Out PV) : Prop := RG Rp M W0 X te m
abbrev RA (M : Md) (W0 : Wd) (X : WX) (ta : TA) (m : Env → Sta → Out (List PV)) : Prop := RG RpA M W0 X ta m
def Rq {α : Type} (_ : Md) (_ : Wd) (b a : α) : Prop := b = a
abbrev RT (M : Md) (W0 : Wd) (X : WX) (tt : TT) (m : Env → Sta → Out Bool) : Prop := RG Rq M W0 X tt m
abbrev RO (M : Md) (W0 : Wd) (X : WX) (to : TO) (m : Env → Sta → Out (Option Int)) : Prop := RG Rq M W0 X to m
theorem RG.thn {α β γ : Type} {R : Md → Wd → β → α → Prop} {t : L2.St → Hp → (β → Hp → Prop) → Prop} {m : Env → Sta → Out α} {f : α → Sta → Out γ} {A : γ → Sta → Prop} {Q : β → Hp → Prop} (h : RG R M W0 X t m) (g : Go Wa Ha W H) (le : Le W0 Wa) (r : Rel M W H S) (er : Er M Wa σ ε)
    (q : OPost ((m ε S).bind f) A (exE M Wa Ha (atσ X σ))) (k : ∀ b a S' W' H', Go W H W' H' → Rel M W' H' S' → R M W' b a → OPost (f a S') A (exE M Wa Ha (atσ X σ)) → Q b H') : t σ H Q := by
  rw [opost_bind] at q
  exact h W H S σ ε (le.trans g.le) r (er.up g.le) Q (q.mono (fun a S' q b W' H' g' r' p => k b a S' W' H' g' r' p q) fun c xs S' z => z.up g)
def VarE (i : Nat) : Env → Sta → Out PV := fun ε S => match ε[i]? with
  | some (some p) => .ok p S
  | _ => .stuck
def CE (p : PV) : Env → Sta → Out PV := fun _ S => .ok p S
theorem re_var {i : Nat} : RE M W0 X (tVar i) (VarE i) := fun W H S σ ε le r er Q q => by
  unfold VarE at q
  cases h : ε[i]? with
  | none => rw [h] at q; exact q.elim
  | some x =>
    cases x with
    | none => rw [h] at q; exact q.elim
    | some p =>
      rw [h] at q
      obtain ⟨v, a, b⟩ := er.get i p h
      exact ⟨v, a, q v W H (.refl W H) r b⟩
theorem re_c {v : V} {p : PV} (h : ∀ W, Rp M W v p) : RE M W0 X (tC v) (CE p) := fun W H S σ ε le r er Q q => q v W H (.refl W H) r (h W)
theorem re_int {i : Int} : RE M W0 X (tC (.int i)) (CE (.int i)) := re_c fun _ => .int i
theorem re_bl {i : Bool} : RE M W0 X (tC (.bl i)) (CE (.bl i)) := re_c fun _ => .bl i
theorem re_str {i : Str} : RE M W0 X (tC (.str i)) (CE (.str i)) := re_c fun _ => .str i
theorem re_non : RE M W0 X (tC .non) (CE .non) := re_c fun _ => .non
/-! ### operators -/
abbrev F2 := Sta → PV → PV → Option PV
def K2 (M : Md) (r : R2) (f : F2) : Prop := ∀ (W : Wd) (H : Hp) (S : Sta) (u v : V) (x y p : PV), Rel M W H S → Rp M W u x → Rp M W v y → f S x y = some p → ∀ Q : VK, okG Rp M W H Q p S → r u v H Q
def OpE (f : F2) (ma mb : Env → Sta → Out PV) : Env → Sta → Out PV := fun ε S => (ma ε S).bind fun x S1 => (mb ε S1).bind fun y S2 => lift (f S2 x y) S2
variable {ta tb tc te : TE} {ma mb mc me : Env → Sta → Out PV} {tt uu : TT} {mt mu : Env → Sta → Out Bool} {ts tr : TA} {ms mr : Env → Sta → Out (List PV)}
theorem re_op {r : R2} {f : F2} (ha : RE M W0 X ta ma) (hb : RE M W0 X tb mb) (hr : K2 M r f) : RE M W0 X (tOp r ta tb) (OpE f ma mb) := fun W H S σ ε le r0 er Q q =>
  ha.thn (.refl W H) le r0 er q fun u x S1 W1 H1 g1 r1 p1 q1 => hb.thn g1 le r1 er q1 fun v y S2 W2 H2 g2 r2 p2 q2 => by
    obtain ⟨p, e, q3⟩ := opost_lift q2
    exact hr W2 H2 S2 u v x y p r2 (rp_up g2.le _ _ p1) p2 e Q (okG.up q3 (g1.trans g2))
def truth : PV → Option Bool
  | .bl b => some b
  | _ => none
theorem rp_bl {v : V} {p : PV} {b : Bool} (h : Rp M W v p) (e : truth p = some b) : v = .bl b := by
  cases h <;> first | (cases e; rfl) | cases e
def AndE (ma mb : Env → Sta → Out PV) : Env → Sta → Out PV := fun ε S => (ma ε S).bind fun x S1 => (lift (truth x) S1).bind fun b S1 => if b = true then mb ε S1 else .ok (.bl false) S1
def OrE (ma mb : Env → Sta → Out PV) : Env → Sta → Out PV := fun ε S => (ma ε S).bind fun x S1 => (lift (truth x) S1).bind fun b S1 => if b = true then .ok (.bl true) S1 else mb ε S1
def NotE (ma : Env → Sta → Out PV) : Env → Sta → Out PV := fun ε S => (ma ε S).bind fun x S1 => (lift (truth x) S1).bind fun b S1 => .ok (.bl (!b)) S1
/-- the last part of an expression -/
theorem RG.end {α β : Type} {R : Md → Wd → β → α → Prop} {t : L2.St → Hp → (β → Hp → Prop) → Prop} {m : Env → Sta → Out α} {Q : β → Hp → Prop} (h : RG R M W0 X t m) (g : Go Wa Ha W H) (le : Le W0 Wa) (r : Rel M W H S) (er : Er M Wa σ ε)
    (q : OPost (m ε S) (okG R M Wa Ha Q) (exE M Wa Ha (atσ X σ))) : t σ H Q :=
  h W H S σ ε (le.trans g.le) r (er.up g.le) Q (q.mono (fun a S' q => okG.up q g) fun c xs S' z => z.up g)
theorem re_and (ha : RE M W0 X ta ma) (hb : RE M W0 X tb mb) : RE M W0 X (tAndV ta tb) (AndE ma mb) := fun W H S σ ε le r0 er Q q =>
  ha.thn (.refl W H) le r0 er q fun u x S1 W1 H1 g1 r1 p1 q1 => by
    rw [opost_bind] at q1
    obtain ⟨b, e, q2⟩ := opost_lift q1
    refine ⟨b, rp_bl p1 e, ?_⟩
    cases b with
    | true => exact iteT (hb.end g1 le r1 er q2)
    | false => exact iteF (q2 _ W1 H1 g1 r1 (.bl false))
theorem re_or (ha : RE M W0 X ta ma) (hb : RE M W0 X tb mb) : RE M W0 X (tOrV ta tb) (OrE ma mb) := fun W H S σ ε le r0 er Q q =>
  ha.thn (.refl W H) le r0 er q fun u x S1 W1 H1 g1 r1 p1 q1 => by
    rw [opost_bind] at q1
    obtain ⟨b, e, q2⟩ := opost_lift q1
    refine ⟨b, rp_bl p1 e, ?_⟩
    cases b with
    | true => exact iteT (q2 _ W1 H1 g1 r1 (.bl true))
    | false => exact iteF (hb.end g1 le r1 er q2)
theorem re_not (ha : RE M W0 X ta ma) : RE M W0 X (tNotV ta) (NotE ma) := fun W H S σ ε le r0 er Q q =>
  ha.thn (.refl W H) le r0 er q fun u x S1 W1 H1 g1 r1 p1 q1 => by
    rw [opost_bind] at q1
    obtain ⟨b, e, q2⟩ := opost_lift q1
    exact ⟨b, rp_bl p1 e, q2 _ W1 H1 g1 r1 (.bl _)⟩
/-! tests -/
def TestE (ma : Env → Sta → Out PV) : Env → Sta → Out Bool := fun ε S => (ma ε S).bind fun x S1 => lift (truth x) S1
def TAnd (ma mb : Env → Sta → Out Bool) : Env → Sta → Out Bool := fun ε S => (ma ε S).bind fun b S1 => if b = true then mb ε S1 else .ok false S1
def TOr (ma mb : Env → Sta → Out Bool) : Env → Sta → Out Bool := fun ε S => (ma ε S).bind fun b S1 => if b = true then .ok true S1 else mb ε S1
def TNot (ma : Env → Sta → Out Bool) : Env → Sta → Out Bool := fun ε S => (ma ε S).bind fun b S1 => .ok (!b) S1
theorem rt_test (ha : RE M W0 X ta ma) : RT M W0 X (tTest ta) (TestE ma) := fun W H S σ ε le r0 er Q q =>
  ha.thn (.refl W H) le r0 er q fun u x S1 W1 H1 g1 r1 p1 q1 => by
    obtain ⟨b, e, q2⟩ := opost_lift q1
    exact ⟨b, rp_bl p1 e, q2 b W1 H1 g1 r1 rfl⟩
theorem rt_B (ha : RE M W0 X ta ma) : RT M W0 X (tB ta) (TestE ma) := fun W H S σ ε le r0 er Q q =>
  ha.thn (.refl W H) le r0 er q fun u x S1 W1 H1 g1 r1 p1 q1 => by
    obtain ⟨b, e, q2⟩ := opost_lift q1
    exact ⟨b, rp_bl p1 e, q2 b W1 H1 g1 r1 rfl⟩
theorem rt_and (ha : RT M W0 X tt mt) (hb : RT M W0 X uu mu) : RT M W0 X (tAnd tt uu) (TAnd mt mu) := fun W H S σ ε le r0 er Q q =>
  ha.thn (.refl W H) le r0 er q fun u b S1 W1 H1 g1 r1 p1 q1 => by
    cases p1
    cases u with
    | true => exact iteT (hb.end g1 le r1 er q1)
    | false => exact iteF (q1 _ W1 H1 g1 r1 rfl)
theorem rt_or (ha : RT M W0 X tt mt) (hb : RT M W0 X uu mu) : RT M W0 X (tOr tt uu) (TOr mt mu) := fun W H S σ ε le r0 er Q q =>
  ha.thn (.refl W H) le r0 er q fun u b S1 W1 H1 g1 r1 p1 q1 => by
    cases p1
    cases u with
    | true => exact iteT (q1 _ W1 H1 g1 r1 rfl)
    | false => exact iteF (hb.end g1 le r1 er q1)
theorem rt_not (ha : RT M W0 X tt mt) : RT M W0 X (tNot tt) (TNot mt) := fun W H S σ ε le r0 er Q q =>
  ha.thn (.refl W H) le r0 er q fun u b S1 W1 H1 g1 r1 p1 q1 => by
    cases p1
    exact q1 _ W1 H1 g1 r1 rfl
def IfE (mt : Env → Sta → Out Bool) (ma mb : Env → Sta → Out PV) : Env → Sta → Out PV := fun ε S => (mt ε S).bind fun b S1 => if b = true then ma ε S1 else mb ε S1
theorem re_if (ht : RT M W0 X tt mt) (ha : RE M W0 X ta ma) (hb : RE M W0 X tb mb) : RE M W0 X (tIf tt ta tb) (IfE mt ma mb) := fun W H S σ ε le r0 er Q q =>
  ht.thn (.refl W H) le r0 er q fun u b S1 W1 H1 g1 r1 p1 q1 => by
    cases p1
    cases u with
    | true => exact iteT (ha.end g1 le r1 er q1)
    | false => exact iteF (hb.end g1 le r1 er q1)
def ChainE (f f' : F2) (ma mb mc : Env → Sta → Out PV) : Env → Sta → Out PV := fun ε S => (ma ε S).bind fun x S1 => (mb ε S1).bind fun y S2 => (lift (f S2 x y) S2).bind fun w S2 => (lift (truth w) S2).bind fun b S2 => if b = true then (mc ε S2).bind fun z S3 => lift (f' S3 y z) S3 else .ok (.bl false) S2
theorem re_chain {r r' : R2} {f f' : F2} (ha : RE M W0 X ta ma) (hb : RE M W0 X tb mb) (hr : K2 M r f) (hc : RE M W0 X tc mc) (hr' : K2 M r' f') : RE M W0 X (tChain r r' ta tb tc) (ChainE f f' ma mb mc) := fun W H S σ ε le r0 er Q q =>
  ha.thn (.refl W H) le r0 er q fun u x S1 W1 H1 g1 r1 p1 q1 => hb.thn g1 le r1 er q1 fun v y S2 W2 H2 g2 r2 p2 q2 => by
    rw [opost_bind] at q2
    obtain ⟨p, e, q3⟩ := opost_lift q2
    refine hr W2 H2 S2 u v x y p r2 (rp_up g2.le _ _ p1) p2 e _ fun w W3 H3 g3 r3 p3 => ?_
    rw [opost_bind] at q3
    obtain ⟨b, e', q4⟩ := opost_lift q3
    refine ⟨b, rp_bl p3 e', ?_⟩
    have g13 := (g1.trans g2).trans g3
    cases b with
    | true => exact iteT (hc.thn g13 le r3 er q4 fun z pz S4 W4 H4 g4 r4 p4 q5 => by
        obtain ⟨p', e2, q6⟩ := opost_lift q5
        exact hr' W4 H4 S4 v z y pz p' r4 (rp_up (g3.trans g4).le _ _ p2) p4 e2 Q (okG.up q6 (g13.trans g4)))
    | false => exact iteF (q4 _ W3 H3 g13 r3 (.bl false))
/-! ### arguments, displays -/
def NilA : Env → Sta → Out (List PV) := fun _ S => .ok [] S
def ConsA (me : Env → Sta → Out PV) (mr : Env → Sta → Out (List PV)) : Env → Sta → Out (List PV) := fun ε S => (me ε S).bind fun x S1 => (mr ε S1).bind fun xs S2 => .ok (x :: xs) S2
theorem ra_nil : RA M W0 X tNil NilA := fun W H S σ ε le r er Q q => q [] W H (.refl W H) r .nil
theorem ra_cons (h : RE M W0 X te me) (hr : RA M W0 X tr mr) : RA M W0 X (tCons te tr) (ConsA me mr) := fun W H S σ ε le r0 er Q q =>
  h.thn (.refl W H) le r0 er q fun u x S1 W1 H1 g1 r1 p1 q1 => hr.thn g1 le r1 er q1 fun vs xs S2 W2 H2 g2 r2 p2 q2 => q2 _ W2 H2 (g1.trans g2) r2 (.cons (rp_up g2.le _ _ p1) p2)
/-- a tuple; a list that never changes; a list that may -/
def TupE (ms : Env → Sta → Out (List PV)) : Env → Sta → Out PV := fun ε S => (ms ε S).bind fun xs S1 => if xs.length ≤ 100000 then .ok (.tup xs) S1 else .stuck
def LstE (ms : Env → Sta → Out (List PV)) : Env → Sta → Out PV := fun ε S => (ms ε S).bind fun xs S1 => if xs.length ≤ 100000 then .ok (.lst xs) S1 else .stuck
def newL (xs : List PV) (S : Sta) : Out PV := .ok (.mu S.length) (S ++ [.lst xs])
def LmuE (ms : Env → Sta → Out (List PV)) : Env → Sta → Out PV := fun ε S => (ms ε S).bind fun xs S1 => if xs.length ≤ 100000 then newL xs S1 else .stuck
theorem ite_post {α : Type} {c : Prop} [Decidable c] {o : Out α} {A : α → Sta → Prop} {E : String → List PV → Sta → Prop} (h : OPost (if c then o else .stuck) A E) : c ∧ OPost o A E := by
  by_cases z : c
  · rw [if_pos z] at h; exact ⟨z, h⟩
  · rw [if_neg z] at h; exact h.elim
theorem big_ok {n : Nat} (h : n ≤ 100000) : n ≤ sizeLine := Nat.le_trans h (by decide)
theorem new_tup {vs : List V} {xs : List PV} {Q : VK} (g : Go Wa Ha W H) (r : Rel M W H S) (h : RpA M W vs xs) (q : okG Rp M Wa Ha Q (.tup xs) S) : ∀ p, H p = none → Q (.ref p) (upd H p (.tup vs)) := fun p hp => by
  obtain ⟨r2, g2⟩ := r.new (o := .tup vs) hp
  exact q _ _ _ (g.trans g2) r2 (.tup (.inl (.inl upd_same)) (rpa_up g2.le _ _ h))
theorem new_lst {vs : List V} {xs : List PV} {Q : VK} (g : Go Wa Ha W H) (r : Rel M W H S) (h : RpA M W vs xs) (q : okG Rp M Wa Ha Q (.lst xs) S) : ∀ p, H p = none → Q (.ref p) (upd H p (.lst vs)) := fun p hp => by
  obtain ⟨r2, g2⟩ := r.new (o := .lst vs) hp
  exact q _ _ _ (g.trans g2) r2 (.lst upd_same (rpa_up g2.le _ _ h))
theorem new_mu {vs : List V} {xs : List PV} {Q : VK} (g : Go Wa Ha W H) (r : Rel M W H S) (h : RpA M W vs xs) (q : okG Rp M Wa Ha Q (.mu S.length) (S ++ [.lst xs])) : ∀ p, H p = none → Q (.ref p) (upd H p (.lst vs)) := fun p hp => by
  have le : Le W ⟨W.B, W.ρ ++ [.own p]⟩ := ⟨Same.refl _, List.prefix_append _ _⟩
  obtain ⟨r2, g2⟩ := r.cell (o := .lst vs) (c := .lst xs) hp ⟨r.none_b hp, vs, upd_same, rpa_up le _ _ h⟩
  refine q _ _ _ (g.trans g2) r2 (.mu ?_)
  rw [← r.len]
  simp
theorem re_tup (h : RA M W0 X ts ms) : RE M W0 X (tTup ts) (TupE ms) := fun W H S σ ε le r0 er Q q =>
  h.thn (.refl W H) le r0 er q fun vs xs S1 W1 H1 g1 r1 p1 q1 => by
    obtain ⟨z, q2⟩ := ite_post q1
    exact ⟨big_ok (by rw [rpa_len p1]; exact z), new_tup g1 r1 p1 q2⟩
theorem re_lst (h : RA M W0 X ts ms) : RE M W0 X (tLst ts) (LstE ms) := fun W H S σ ε le r0 er Q q =>
  h.thn (.refl W H) le r0 er q fun vs xs S1 W1 H1 g1 r1 p1 q1 => by
    obtain ⟨z, q2⟩ := ite_post q1
    exact ⟨big_ok (by rw [rpa_len p1]; exact z), new_lst g1 r1 p1 q2⟩
theorem re_lmu (h : RA M W0 X ts ms) : RE M W0 X (tLst ts) (LmuE ms) := fun W H S σ ε le r0 er Q q =>
  h.thn (.refl W H) le r0 er q fun vs xs S1 W1 H1 g1 r1 p1 q1 => by
    obtain ⟨z, q2⟩ := ite_post q1
    exact ⟨big_ok (by rw [rpa_len p1]; exact z), new_mu g1 r1 p1 q2⟩
/-! ### calls of built-ins and of defs -/
abbrev FC := List PV → Sta → Out PV
def noX : String → List PV → Sta → Prop := fun _ _ _ => False
def KC (M : Md) (r : List V → Hp → VK → Prop) (f : FC) : Prop := ∀ (W : Wd) (H : Hp) (S : Sta) (vs : List V) (xs : List PV), Rel M W H S → RpA M W vs xs → ∀ Q : VK, OPost (f xs S) (okG Rp M W H Q) noX → r vs H Q
/-- what a built-in does, where it raises nothing -/
def calm (o : Out PV) : Out PV := match o with
  | .ok a S => .ok a S
  | _ => .stuck
theorem calm_post {o : Out PV} {A : PV → Sta → Prop} {E : String → List PV → Sta → Prop} (h : OPost (calm o) A E) : OPost o A noX := by
  cases o with
  | ok a S => exact h
  | ex => exact h.elim
  | stuck => exact h.elim
def CbE (f : FC) (ms : Env → Sta → Out (List PV)) : Env → Sta → Out PV := fun ε S => (ms ε S).bind fun xs S1 => calm (f xs S1)
theorem re_cb {r : List V → Hp → VK → Prop} {f : FC} (h : RA M W0 X ts ms) (hr : KC M r f) : RE M W0 X (tCB r ts) (CbE f ms) := fun W H S σ ε le r0 er Q q =>
  h.thn (.refl W H) le r0 er q fun vs xs S1 W1 H1 g1 r1 p1 q1 => hr W1 H1 S1 vs xs r1 p1 Q ((calm_post q1).mono (fun a S' q => okG.up q g1) fun _ _ _ z => z)
/-- the promise of a def whose mirror is f -/
def spM (M : Md) (f : FC) : Sp := fun vs H Q E => ∃ (W : Wd) (S : Sta) (xs : List PV), Rel M W H S ∧ RpA M W vs xs ∧ OPost (f xs S) (okG Rp M W H Q) (exE M W H E)
def CallE (f : FC) (dps : List PV) (ms : Env → Sta → Out (List PV)) : Env → Sta → Out PV := fun ε S => (ms ε S).bind fun xs S1 => f (xs ++ dps) S1
theorem re_call {f : FC} {dvs : List V} {dps : List PV} {E : XK} (h : RA M W0 (fun cls d _ H => E cls d H) ts ms) (hd : ∀ W, RpA M W dvs dps) : RE M W0 (fun cls d _ H => E cls d H) (tCall (spM M f) dvs E ts) (CallE f dps ms) := fun W H S σ ε le r0 er Q q =>
  h.thn (.refl W H) le r0 er q fun vs xs S1 W1 H1 g1 r1 p1 q1 => ⟨W1, S1, xs ++ dps, r1, rpa_app p1 (hd _), q1.mono (fun a S' q => okG.up q g1) fun c ys S' z => exE.up z g1⟩
theorem re_callS {f : FC} (h : RA M W0 X ts ms) : RE M W0 X (tCallS (spM M f) (atσ X) ts) (CallE f [] ms) := fun W H S σ ε le r0 er Q q =>
  h.thn (.refl W H) le r0 er q fun vs xs S1 W1 H1 g1 r1 p1 q1 => ⟨W1, S1, xs, r1, p1, by
    rw [List.append_nil] at q1
    exact q1.mono (fun a S' q => okG.up q g1) fun c ys S' z => exE.up z g1⟩
end
end Fx
namespace Fx
open PySem PySem.Spec PyProof.Rows L2 Co
section
variable {M : Md} {W W' Wa W0 W1 : Wd} {H H' Ha H1 : Hp} {S S' : Sta} {σ : L2.St} {ε : Env} {X : WX}
variable {ta tb tc te : TE} {ma mb mc me : Env → Sta → Out PV} {tt uu : TT} {mt mu : Env → Sta → Out Bool} {ts tr : TA} {ms mr : Env → Sta → Out (List PV)}
/-! ### lists and tuples as they stand now -/
def look (S : Sta) : PV → PV
  | .mu n => match S[n]? with
    | some (.lst xs) => .lst xs
    | _ => .mu n
  | .kls xs => .lst xs
  | p => p
/-- items of a list (true) or a tuple (false) -/
def items (S : Sta) (p : PV) : Option (Bool × List PV) := match look S p with
  | .lst xs => some (true, xs)
  | .tup xs => some (false, xs)
  | _ => none
theorem look_lst (r : Rel M W H S) {v : V} {p : PV} {xs : List PV} (h : Rp M W v p) (e : look S p = .lst xs) : ∃ a vs, v = .ref a ∧ SqL M.K H a vs ∧ RpA M W vs xs := by
  cases h with
  | lst hs ha => cases e; exact ⟨_, _, rfl, .inl (.inl (r.i _ _ hs)), ha⟩
  | kls hs ha => cases e; exact ⟨_, _, rfl, r.i.seq hs, ha⟩
  | @mu n a hm =>
    unfold look at e
    dsimp only at e
    cases q : S[n]? with
    | none => rw [q] at e; cases e
    | some c =>
      rw [q] at e
      cases c with
      | lst ys =>
        cases e
        obtain ⟨_, vs, h1, h2⟩ := r.c n a _ hm q
        exact ⟨a, vs, rfl, .inl (.inl h1), h2⟩
      | obj => cases e
      | dead => cases e
  | _ => cases e
theorem look_tup (r : Rel M W H S) {v : V} {p : PV} {xs : List PV} (h : Rp M W v p) (e : look S p = .tup xs) : ∃ a vs, v = .ref a ∧ SqT M.K H a vs ∧ RpA M W vs xs := by
  cases h with
  | tup hs ha => cases e; exact ⟨_, _, rfl, seqT_up r.i hs, ha⟩
  | @mu n a hm =>
    unfold look at e
    dsimp only at e
    cases q : S[n]? with
    | none => rw [q] at e; cases e
    | some c => rw [q] at e; cases c <;> cases e
  | _ => cases e
theorem look_str {v : V} {p : PV} {z : Str} (h : Rp M W v p) (e : look S p = .str z) : v = .str z := by
  cases h with
  | str => cases e; rfl
  | @mu n a hm =>
    unfold look at e
    dsimp only at e
    cases q : S[n]? with
    | none => rw [q] at e; cases e
    | some c => rw [q] at e; cases c <;> cases e
  | _ => cases e
theorem look_int {v : V} {p : PV} {z : Int} (h : Rp M W v p) (e : look S p = .int z) : v = .int z := by
  cases h with
  | int => cases e; rfl
  | @mu n a hm =>
    unfold look at e
    dsimp only at e
    cases q : S[n]? with
    | none => rw [q] at e; cases e
    | some c => rw [q] at e; cases c <;> cases e
  | _ => cases e
theorem items_sq (r : Rel M W H S) {v : V} {p : PV} {k : Bool} {xs : List PV} (h : Rp M W v p) (e : items S p = some (k, xs)) : ∃ a vs, v = .ref a ∧ SqB M.K k H a vs ∧ RpA M W vs xs := by
  unfold items at e
  split at e
  · rename_i ys q
    cases e
    obtain ⟨a, vs, h1, h2, h3⟩ := look_lst r h q
    exact ⟨a, vs, h1, h2, h3⟩
  · rename_i ys q
    cases e
    obtain ⟨a, vs, h1, h2, h3⟩ := look_tup r h q
    exact ⟨a, vs, h1, h2, h3⟩
  · cases e
/-! ### data -/
mutual
def toD : PV → Option D
  | .non => some .none
  | .bl b => some (.bool b)
  | .int i => some (.int i)
  | .str s => some (.str s)
  | .tup xs => (toDs xs).map .tuple
  | .lst xs => (toDs xs).map .list
  | .kls xs => (toDs xs).map .list
  | .obj _ _ _ => none
  | .mu _ => none
  | .xv _ => none
  | .dct => none
def toDs : List PV → Option (List D)
  | [] => some []
  | p :: ps => match toD p, toDs ps with
    | some d, some ds => some (d :: ds)
    | _, _ => none
end
mutual
def dat (S : Sta) : PV → Option D
  | .non => some .none
  | .bl b => some (.bool b)
  | .int i => some (.int i)
  | .str s => some (.str s)
  | .tup xs => (dats S xs).map .tuple
  | .lst xs => (dats S xs).map .list
  | .kls xs => (dats S xs).map .list
  | .obj _ _ _ => none
  | .mu n => match S[n]? with
    | some (.lst xs) => (toDs xs).map .list
    | _ => none
  | .xv _ => none
  | .dct => none
def dats (S : Sta) : List PV → Option (List D)
  | [] => some []
  | p :: ps => match dat S p, dats S ps with
    | some d, some ds => some (d :: ds)
    | _, _ => none
end
mutual
theorem toD_ok (e : Same W.B H) : ∀ (p : PV) (v : V) (d : D), Rp M W v p → toD p = some d → Dp M.K H v d
  | .non, _, _, h, q => by cases h; simp only [toD] at q; cases q; exact .non
  | .bl b, _, _, h, q => by cases h; simp only [toD] at q; cases q; exact .bl b
  | .int i, _, _, h, q => by cases h; simp only [toD] at q; cases q; exact .int i
  | .str z, _, _, h, q => by cases h; simp only [toD] at q; cases q; exact .str z
  | .tup xs, _, _, h, q => by
    cases h with
    | tup hs ha =>
      simp only [toD] at q
      obtain ⟨ds, q1, rfl⟩ := Option.map_eq_some_iff.mp q
      exact .tup (seqT_up e hs) (toDs_ok e xs _ ds ha q1)
  | .lst xs, _, _, h, q => by
    cases h with
    | lst hs ha =>
      simp only [toD] at q
      obtain ⟨ds, q1, rfl⟩ := Option.map_eq_some_iff.mp q
      exact .lst (.inl (.inl (e _ _ hs))) (toDs_ok e xs _ ds ha q1)
  | .kls xs, _, _, h, q => by
    cases h with
    | kls hs ha =>
      simp only [toD] at q
      obtain ⟨ds, q1, rfl⟩ := Option.map_eq_some_iff.mp q
      exact .lst (e.seq hs) (toDs_ok e xs _ ds ha q1)
  | .obj c ns xs, _, _, h, q => by simp only [toD] at q; cases q
  | .mu n, _, _, h, q => by simp only [toD] at q; cases q
  | .xv n, _, _, h, q => by simp only [toD] at q; cases q
  | .dct, _, _, h, q => by simp only [toD] at q; cases q
theorem toDs_ok (e : Same W.B H) : ∀ (ps : List PV) (vs : List V) (ds : List D), RpA M W vs ps → toDs ps = some ds → DpAll M.K H vs ds
  | [], _, _, h, q => by cases h; simp only [toDs] at q; cases q; exact .nil
  | p :: ps, _, ds, h, q => by
    cases h with
    | cons h1 h2 =>
      simp only [toDs] at q
      split at q
      · rename_i d ds' q1 q2
        cases q
        exact .cons (toD_ok e p _ d h1 q1) (toDs_ok e ps _ ds' h2 q2)
      · cases q
end
mutual
theorem dat_ok (r : Rel M W H S) : ∀ (p : PV) (v : V) (d : D), Rp M W v p → dat S p = some d → Dp M.K H v d
  | .non, _, _, h, q => by cases h; simp only [dat] at q; cases q; exact .non
  | .bl b, _, _, h, q => by cases h; simp only [dat] at q; cases q; exact .bl b
  | .int i, _, _, h, q => by cases h; simp only [dat] at q; cases q; exact .int i
  | .str z, _, _, h, q => by cases h; simp only [dat] at q; cases q; exact .str z
  | .tup xs, _, _, h, q => by
    cases h with
    | tup hs ha =>
      simp only [dat] at q
      obtain ⟨ds, q1, rfl⟩ := Option.map_eq_some_iff.mp q
      exact .tup (seqT_up r.i hs) (dats_ok r xs _ ds ha q1)
  | .lst xs, _, _, h, q => by
    cases h with
    | lst hs ha =>
      simp only [dat] at q
      obtain ⟨ds, q1, rfl⟩ := Option.map_eq_some_iff.mp q
      exact .lst (.inl (.inl (r.i _ _ hs))) (dats_ok r xs _ ds ha q1)
  | .kls xs, _, _, h, q => by
    cases h with
    | kls hs ha =>
      simp only [dat] at q
      obtain ⟨ds, q1, rfl⟩ := Option.map_eq_some_iff.mp q
      exact .lst (r.i.seq hs) (dats_ok r xs _ ds ha q1)
  | .obj c ns xs, _, _, h, q => by simp only [dat] at q; cases q
  | .mu n, v, d, h, q => by
    simp only [dat] at q
    split at q
    · rename_i xs q0
      obtain ⟨ds, q1, rfl⟩ := Option.map_eq_some_iff.mp q
      obtain ⟨a, vs, rfl, hs, ha⟩ := look_lst (xs := xs) r h (by unfold look; dsimp only; rw [q0])
      exact .lst hs (toDs_ok r.i xs vs ds ha q1)
    · cases q
  | .xv n, v, d, h, q => by simp only [dat] at q; cases q
  | .dct, v, d, h, q => by simp only [dat] at q; cases q
theorem dats_ok (r : Rel M W H S) : ∀ (ps : List PV) (vs : List V) (ds : List D), RpA M W vs ps → dats S ps = some ds → DpAll M.K H vs ds
  | [], _, _, h, q => by cases h; simp only [dats] at q; cases q; exact .nil
  | p :: ps, _, ds, h, q => by
    cases h with
    | cons h1 h2 =>
      simp only [dats] at q
      split at q
      · rename_i d ds' q1 q2
        cases q
        exact .cons (dat_ok r p _ d h1 q1) (dats_ok r ps _ ds' h2 q2)
      · cases q
end
/-! ### operators -/
theorem okG_end {v : V} {p : PV} {Q : VK} (r : Rel M W H S) (h : Rp M W v p) (q : okG Rp M W H Q p S) : Q v H := q v W H (.refl W H) r h
def fAdd : F2 := fun S x y => match look S x, look S y with
  | .int i, .int j => some (.int (i + j))
  | .str a, .str b => if a.length + b.length ≤ 100000 then some (.str (a ++ b)) else none
  | .tup xs, .tup ys => if xs.length + ys.length ≤ 100000 then some (.tup (xs ++ ys)) else none
  | .lst xs, .lst ys => match x, y with
    | .kls _, _ => none
    | _, .kls _ => none
    | _, _ => if xs.length + ys.length ≤ 100000 then some (.lst (xs ++ ys)) else none
  | _, _ => none
theorem look_lstH (r : Rel M W H S) {v : V} {p : PV} {xs : List PV} (h : Rp M W v p) (hk : ∀ ys, p ≠ .kls ys) (e : look S p = .lst xs) : ∃ a vs, v = .ref a ∧ H a = some (.lst vs) ∧ RpA M W vs xs := by
  cases h with
  | lst hs ha => cases e; exact ⟨_, _, rfl, r.i _ _ hs, ha⟩
  | kls hs ha => exact absurd rfl (hk _)
  | @mu n a hm =>
    unfold look at e
    dsimp only at e
    cases q : S[n]? with
    | none => rw [q] at e; cases e
    | some c =>
      rw [q] at e
      cases c with
      | lst ys =>
        cases e
        obtain ⟨_, vs, h1, h2⟩ := r.c n a _ hm q
        exact ⟨a, vs, rfl, h1, h2⟩
      | obj => cases e
      | dead => cases e
  | _ => cases e
theorem ite_some {α : Type} {c : Prop} [Decidable c] {x y : α} (h : (if c then some x else none) = some y) : c ∧ x = y := by
  by_cases z : c
  · rw [if_pos z] at h; exact ⟨z, Option.some.inj h⟩
  · rw [if_neg z] at h; cases h
theorem k_add : K2 M (rAddA M.K) fAdd := fun W H S u v x y p r hx hy e Q q => by
  unfold fAdd at e
  split at e
  · rename_i i j ex ey
    cases e
    exact .inl ⟨i, j, look_int hx ex, look_int hy ey, okG_end r (.int _) q⟩
  · rename_i a b ex ey
    obtain ⟨z, rfl⟩ := ite_some e
    exact .inr (.inl ⟨a, b, look_str hx ex, look_str hy ey, big_ok z, okG_end r (.str _) q⟩)
  · rename_i xs ys ex ey
    obtain ⟨z, rfl⟩ := ite_some e
    obtain ⟨a, us, rfl, h1, h2⟩ := look_tup r hx ex
    obtain ⟨b, vs, rfl, h3, h4⟩ := look_tup r hy ey
    refine .inr (.inr (.inr ⟨a, b, us, vs, rfl, rfl, h1, h3, big_ok (by rw [rpa_len h2, rpa_len h4]; exact z), fun z => ?_, fun n z => ?_, fun n1 n2 => new_tup (.refl W H) r (rpa_app h2 h4) q⟩))
    · subst z
      cases h2
      cases hy with
      | tup hs ha => cases ey; exact okG_end r (.tup hs ha) q
      | @mu n b hm =>
        exfalso
        unfold look at ey
        dsimp only at ey
        cases w : S[n]? with
        | none => rw [w] at ey; cases ey
        | some c => rw [w] at ey; cases c <;> cases ey
      | _ => cases ey
    · subst z
      cases h4
      rw [List.append_nil] at q
      cases hx with
      | tup hs ha => cases ex; exact okG_end r (.tup hs ha) q
      | @mu n b hm =>
        exfalso
        unfold look at ex
        dsimp only at ex
        cases w : S[n]? with
        | none => rw [w] at ex; cases ex
        | some c => rw [w] at ex; cases c <;> cases ex
      | _ => cases ex
  · rename_i xs ys ex ey
    have main : (∀ ys, x ≠ .kls ys) → (∀ ys, y ≠ .kls ys) → xs.length + ys.length ≤ 100000 → p = .lst (xs ++ ys) → rAddA M.K u v H Q := fun k1 k2 z e => by
      subst e
      obtain ⟨a, us, rfl, h1, h2⟩ := look_lstH r hx k1 ex
      obtain ⟨b, vs, rfl, h3, h4⟩ := look_lstH r hy k2 ey
      exact .inr (.inr (.inl ⟨a, b, us, vs, rfl, rfl, h1, h3, big_ok (by rw [rpa_len h2, rpa_len h4]; exact z), new_lst (.refl W H) r (rpa_app h2 h4) q⟩))
    split at e
    · cases e
    · cases e
    · rename_i n1 n2
      obtain ⟨z, e⟩ := ite_some e
      exact main (fun ys q => n1 _ q) (fun ys q => n2 _ q) z e.symm
  · cases e
/-- an operator on two ints -/
def fI (C : Int → Int → Prop) [∀ i j, Decidable (C i j)] (g : Int → Int → PV) : F2 := fun S x y => match x, y with
  | .int i, .int j => if C i j then some (g i j) else none
  | _, _ => none
theorem fI_inv {C : Int → Int → Prop} [∀ i j, Decidable (C i j)] {g : Int → Int → PV} {x y p : PV} {u v : V} (hx : Rp M W u x) (hy : Rp M W v y) (e : fI C g S x y = some p) : ∃ i j, u = .int i ∧ v = .int j ∧ C i j ∧ p = g i j := by
  cases x <;> first | (cases e; done) | skip
  cases y <;> first | (cases e; done) | skip
  cases hx; cases hy
  obtain ⟨z, rfl⟩ := ite_some e
  exact ⟨_, _, rfl, rfl, z, rfl⟩
abbrev fI0 (g : Int → Int → PV) : F2 := fI (fun _ _ => True) g
theorem k_I0 {g : Int → Int → PV} {gv : Int → Int → V} (h : ∀ W i j, Rp M W (gv i j) (g i j)) : K2 M (rI0 gv) (fI0 g) := fun W H S u v x y p r hx hy e Q q => by
  obtain ⟨i, j, rfl, rfl, _, rfl⟩ := fI_inv hx hy e
  exact ⟨i, j, rfl, rfl, okG_end r (h _ _ _) q⟩
theorem k_I {C C' : Int → Int → Prop} [∀ i j, Decidable (C i j)] {g : Int → Int → PV} {gv : Int → Int → V} (hc : ∀ i j, C i j → C' i j) (h : ∀ W i j, Rp M W (gv i j) (g i j)) : K2 M (rI C' gv) (fI C g) := fun W H S u v x y p r hx hy e Q q => by
  obtain ⟨i, j, rfl, rfl, z, rfl⟩ := fI_inv hx hy e
  exact ⟨i, j, rfl, rfl, hc _ _ z, okG_end r (h _ _ _) q⟩
abbrev fSub : F2 := fI0 fun i j => .int (i - j)
abbrev fLt : F2 := fI0 fun i j => .bl (decide (i < j))
abbrev fLe : F2 := fI0 fun i j => .bl (decide (i ≤ j))
abbrev fGt : F2 := fI0 fun i j => .bl (decide (j < i))
abbrev fGe : F2 := fI0 fun i j => .bl (decide (j ≤ i))
abbrev fMul : F2 := fI (fun i j => (-18446744073709551616 < i ∧ i < 18446744073709551616) ∨ (-18446744073709551616 < j ∧ j < 18446744073709551616)) fun i j => .int (i * j)
abbrev fMod : F2 := fI (fun _ j => 0 < j) fun i j => .int (i % j)
abbrev fDiv : F2 := fI (fun _ j => 0 < j ∧ j.natAbs.log2 < 9000) fun i j => .int (i / j)
theorem k_sub : K2 M (rI0 fun i j => .int (i - j)) fSub := k_I0 fun _ _ _ => .int _
theorem k_lt : K2 M (rI0 fun i j => .bl (decide (i < j))) fLt := k_I0 fun _ _ _ => .bl _
theorem k_le : K2 M (rI0 fun i j => .bl (decide (i ≤ j))) fLe := k_I0 fun _ _ _ => .bl _
theorem k_gt : K2 M (rI0 fun i j => .bl (decide (j < i))) fGt := k_I0 fun _ _ _ => .bl _
theorem k_ge : K2 M (rI0 fun i j => .bl (decide (j ≤ i))) fGe := k_I0 fun _ _ _ => .bl _
theorem k_mul : K2 M (rI CMul fun i j => .int (i * j)) fMul := k_I (fun _ _ h => by
  have e : (2 : Int) ^ 64 = 18446744073709551616 := by decide
  unfold CMul
  rw [e]
  exact h) fun _ _ _ => .int _
theorem k_mod : K2 M (rI (fun _ j => 0 < j) fun i j => .int (i % j)) fMod := k_I (fun _ _ h => h) fun _ _ _ => .int _
theorem k_div : K2 M (rI CDivW fun i j => .int (i / j)) fDiv := k_I (fun _ _ h => h) fun _ _ _ => .int _
def fEq : F2 := fun S x y => match dat S x, dat S y with
  | some d, some e => if SeqAt.shaped d = true ∧ SeqAt.shaped e = true then some (.bl (PyData.eqv d e)) else none
  | _, _ => none
def fNe : F2 := fun S x y => match dat S x, dat S y with
  | some d, some e => if SeqAt.shaped d = true ∧ SeqAt.shaped e = true then some (.bl (!PyData.eqv d e)) else none
  | _, _ => none
theorem k_eqD : K2 M (rEqD M.K) fEq := fun W H S u v x y p r hx hy e Q q => by
  unfold fEq at e
  split at e
  · rename_i d d' h1 h2
    obtain ⟨⟨z1, z2⟩, rfl⟩ := ite_some e
    exact ⟨d, d', dat_ok r _ _ _ hx h1, dat_ok r _ _ _ hy h2, z1, z2, okG_end r (.bl _) q⟩
  · cases e
theorem k_neD : K2 M (rNeD M.K) fNe := fun W H S u v x y p r hx hy e Q q => by
  unfold fNe at e
  split at e
  · rename_i d d' h1 h2
    obtain ⟨⟨z1, z2⟩, rfl⟩ := ite_some e
    exact ⟨d, d', dat_ok r _ _ _ hx h1, dat_ok r _ _ _ hy h2, z1, z2, okG_end r (.bl _) q⟩
  · cases e
def isNonP : PV → Bool
  | .non => true
  | _ => false
theorem dec_nonP {v : V} {p : PV} (h : Rp M W v p) : decide (v = V.non) = isNonP p := by
  cases h <;> first | rfl | exact decide_eq_false (fun z => nomatch z)
def fIsN : F2 := fun S x y => if isNonP y = true then some (.bl (isNonP x)) else none
def fNotN : F2 := fun S x y => if isNonP y = true then some (.bl (!isNonP x)) else none
theorem isNon_v {v : V} {p : PV} (h : Rp M W v p) (e : isNonP p = true) : v = .non := by
  rw [← dec_nonP h] at e
  exact of_decide_eq_true e
theorem k_isN : K2 M rIsN fIsN := fun W H S u v x y p r hx hy e Q q => by
  obtain ⟨z, rfl⟩ := ite_some e
  refine ⟨isNon_v hy z, ?_⟩
  rw [dec_nonP hx]
  exact okG_end r (.bl _) q
theorem k_notN : K2 M rNotN fNotN := fun W H S u v x y p r hx hy e Q q => by
  obtain ⟨z, rfl⟩ := ite_some e
  refine ⟨isNon_v hy z, ?_⟩
  rw [dec_nonP hx]
  exact okG_end r (.bl _) q
/-- a subscript -/
def fIx : F2 := fun S x y => match look S x, y with
  | .lst xs, .int i => atI xs i
  | .tup xs, .int i => atI xs i
  | .str z, .int i => if z.length ≤ 100000 then (atI z.cps.toList i).map fun c => .str ⟨#[c]⟩ else none
  | _, _ => none
theorem atI_rel {vs : List V} {ps : List PV} {i : Int} {p : PV} (h : RpA M W vs ps) (e : atI ps i = some p) : ∃ v, atI vs i = some v ∧ Rp M W v p := by
  have l := rpa_len h
  unfold atI at e ⊢
  rw [l]
  cases q : ixN ps.length i with
  | none => rw [q] at e; cases e
  | some n =>
    rw [q] at e
    exact rpa_get h e
theorem k_ix : K2 M (rIx M.K) fIx := fun W H S u v x y p r hx hy e Q q => by
  unfold fIx at e
  split at e
  · rename_i xs i ex
    cases hy
    obtain ⟨a, vs, rfl, h1, h2⟩ := look_lst r hx ex
    obtain ⟨w, h3, h4⟩ := atI_rel h2 e
    exact .inl ⟨a, vs, i, w, rfl, rfl, h1, h3, okG_end r h4 q⟩
  · rename_i xs i ex
    cases hy
    obtain ⟨a, vs, rfl, h1, h2⟩ := look_tup r hx ex
    obtain ⟨w, h3, h4⟩ := atI_rel h2 e
    exact .inr (.inl ⟨a, vs, i, w, rfl, rfl, h1, h3, okG_end r h4 q⟩)
  · rename_i z i ex
    cases hy
    obtain ⟨zl, e⟩ : z.length ≤ 100000 ∧ (atI z.cps.toList i).map (fun c => PV.str ⟨#[c]⟩) = some p := by
      by_cases zl : z.length ≤ 100000
      · rw [if_pos zl] at e; exact ⟨zl, e⟩
      · rw [if_neg zl] at e; cases e
    obtain ⟨c, h1, rfl⟩ := Option.map_eq_some_iff.mp e
    exact .inr (.inr ⟨z, i, c, look_str hx ex, rfl, big_ok zl, h1, okG_end r (.str _) q⟩)
  · cases e
/-! ### built-ins -/
theorem rpa1 {vs : List V} {a : PV} (h : RpA M W vs [a]) : ∃ x, vs = [x] ∧ Rp M W x a := by
  cases h with | cons h1 h => cases h; exact ⟨_, rfl, h1⟩
def fLen : FC := fun xs S => match xs with
  | [x] => match look S x with
    | .lst ys => .ok (.int (ys.length : Int)) S
    | .tup ys => .ok (.int (ys.length : Int)) S
    | .str z => if z.length ≤ 100000 then .ok (.int (z.length : Int)) S else .stuck
    | _ => .stuck
  | _ => .stuck
theorem k_len : KC M (rLenA M.K) fLen := fun W H S vs xs r ha Q q => by
  unfold fLen at q
  split at q
  · rename_i x
    obtain ⟨v, rfl, hv⟩ := rpa1 ha
    split at q
    · rename_i ys e
      obtain ⟨a, us, rfl, h1, h2⟩ := look_lst r hv e
      refine ⟨_, _, rfl, .inl ⟨_, h1, rfl⟩, ?_⟩
      rw [rpa_len h2]
      exact okG_end r (.int _) q
    · rename_i ys e
      obtain ⟨a, us, rfl, h1, h2⟩ := look_tup r hv e
      refine ⟨_, _, rfl, .inr ⟨_, h1, rfl⟩, ?_⟩
      rw [rpa_len h2]
      exact okG_end r (.int _) q
    · rename_i z e
      obtain ⟨zl, q⟩ := ite_post q
      have := look_str hv e
      subst this
      exact ⟨_, _, rfl, ⟨big_ok zl, rfl⟩, okG_end r (.int _) q⟩
    · exact q.elim
  · exact q.elim
def fTuple : FC := fun xs S => match xs with
  | [x] => match look S x with
    | .lst ys => .ok (.tup ys) S
    | .tup ys => .ok (.tup ys) S
    | _ => .stuck
  | _ => .stuck
theorem k_tuple : KC M (rTupO M.K) fTuple := fun W H S vs xs r ha Q q => by
  unfold fTuple at q
  split at q
  · rename_i x
    obtain ⟨v, rfl, hv⟩ := rpa1 ha
    split at q
    · rename_i ys e
      obtain ⟨a, us, rfl, h1, h2⟩ := look_lst r hv e
      exact ⟨a, us, rfl, .inl ⟨h1, new_tup (.refl W H) r h2 q⟩⟩
    · rename_i ys e
      cases hv with
      | tup hs hh =>
        cases e
        exact ⟨_, _, rfl, .inr ⟨seqT_up r.i hs, okG_end r (.tup hs hh) q⟩⟩
      | @mu n b hm =>
        exfalso
        unfold look at e
        dsimp only at e
        cases w : S[n]? with
        | none => rw [w] at e; cases e
        | some c => rw [w] at e; cases c <;> cases e
      | _ => cases e
    · exact q.elim
  · exact q.elim
def fList : FC := fun xs S => match xs with
  | [x] => match items S x with
    | some (_, ys) => .ok (.lst ys) S
    | none => .stuck
  | _ => .stuck
def fListM : FC := fun xs S => match xs with
  | [x] => match items S x with
    | some (_, ys) => newL ys S
    | none => .stuck
  | _ => .stuck
theorem sqB_or {k : Bool} {a : Addr} {vs : List V} (h : SqB M.K k H a vs) : SqL M.K H a vs ∨ SqT M.K H a vs := by
  cases k with
  | true => exact .inl h
  | false => exact .inr h
theorem k_list : KC M (rLstO M.K) fList := fun W H S vs xs r ha Q q => by
  unfold fList at q
  split at q
  · rename_i x
    obtain ⟨v, rfl, hv⟩ := rpa1 ha
    split at q
    · rename_i k ys e
      obtain ⟨a, us, rfl, h1, h2⟩ := items_sq r hv e
      exact ⟨a, us, rfl, sqB_or h1, new_lst (.refl W H) r h2 q⟩
    · exact q.elim
  · exact q.elim
theorem k_listM : KC M (rLstO M.K) fListM := fun W H S vs xs r ha Q q => by
  unfold fListM at q
  split at q
  · rename_i x
    obtain ⟨v, rfl, hv⟩ := rpa1 ha
    split at q
    · rename_i k ys e
      obtain ⟨a, us, rfl, h1, h2⟩ := items_sq r hv e
      exact ⟨a, us, rfl, sqB_or h1, new_mu (.refl W H) r h2 q⟩
    · exact q.elim
  · exact q.elim
def bools : List PV → Option (List Bool)
  | [] => some []
  | .bl b :: ps => (bools ps).map (b :: ·)
  | _ :: _ => none
theorem bools_ok : ∀ {ps : List PV} {vs : List V} {bs : List Bool}, RpA M W vs ps → bools ps = some bs → vs = bs.map V.bl
  | [], _, _, h, e => by cases h; cases e; rfl
  | p :: ps, _, _, h, e => by
    cases h with
    | cons h1 h2 =>
      cases h1 <;> first | (simp only [bools] at e; cases e; done) | skip
      simp only [bools] at e
      obtain ⟨bs', h3, rfl⟩ := Option.map_eq_some_iff.mp e
      rw [bools_ok h2 h3]
      rfl
def fAll : FC := fun xs S => match xs with
  | [x] => match look S x with
    | .lst ys => match bools ys with
      | some bs => .ok (.bl (bs.all id)) S
      | none => .stuck
    | _ => .stuck
  | _ => .stuck
theorem k_all : KC M (rAll M.K) fAll := fun W H S vs xs r ha Q q => by
  unfold fAll at q
  split at q
  · rename_i x
    obtain ⟨v, rfl, hv⟩ := rpa1 ha
    split at q
    · rename_i ys e
      split at q
      · rename_i bs e2
        obtain ⟨a, us, rfl, h1, h2⟩ := look_lst r hv e
        have := bools_ok h2 e2
        subst this
        exact ⟨a, bs, rfl, h1, okG_end r (.bl _) q⟩
      · exact q.elim
    · exact q.elim
  · exact q.elim
def fAbs : FC := fun xs S => match xs with
  | [.int i] => .ok (.int (if i < 0 then -i else i)) S
  | _ => .stuck
theorem k_abs : KC M (fun xs H Q => ∃ i, xs = [.int i] ∧ Q (.int (if i < 0 then -i else i)) H) fAbs := fun W H S vs xs r ha Q q => by
  unfold fAbs at q
  split at q
  · obtain ⟨v, rfl, hv⟩ := rpa1 ha
    cases hv
    exact ⟨_, rfl, okG_end r (.int _) q⟩
  · exact q.elim
def fInt : FC := fun xs S => match xs with
  | [.int i] => .ok (.int i) S
  | [.bl b] => .ok (.int (if b then 1 else 0)) S
  | _ => .stuck
theorem k_int : KC M rInt1 fInt := fun W H S vs xs r ha Q q => by
  unfold fInt at q
  split at q
  · obtain ⟨v, rfl, hv⟩ := rpa1 ha
    cases hv
    exact .inl ⟨_, rfl, okG_end r (.int _) q⟩
  · obtain ⟨v, rfl, hv⟩ := rpa1 ha
    cases hv
    exact .inr ⟨_, rfl, okG_end r (.int _) q⟩
  · exact q.elim
def fRepr : FC := fun xs S => match xs with
  | [x] => match dat S x with
    | some d => if d.showable = true ∧ d.depth ≤ 60 ∧ d.shown.length ≤ 1000000 then .ok (.str d.shown) S else .stuck
    | none => .stuck
  | _ => .stuck
theorem k_repr : KC M (rReprD M.K) fRepr := fun W H S vs xs r ha Q q => by
  unfold fRepr at q
  split at q
  · rename_i x
    obtain ⟨v, rfl, hv⟩ := rpa1 ha
    split at q
    · rename_i d e
      obtain ⟨⟨h1, h2, h3⟩, q⟩ := ite_post q
      exact ⟨v, d, rfl, dat_ok r _ _ _ hv e, h1, h2, h3, okG_end r (.str _) q⟩
    · exact q.elim
  · exact q.elim
/-! ### isinstance with built-in classes -/
def tyP (S : Sta) (p : PV) : Option String := match look S p with
  | .non => some "NoneType"
  | .bl _ => some "bool"
  | .int _ => some "int"
  | .str _ => some "str"
  | .tup _ => some "tuple"
  | .lst _ => some "list"
  | .dct => some "dict"
  | _ => none
def isT (t : String) (k : Ty) : Bool := match k with
  | .int => t == "int" || t == "bool"
  | .bool => t == "bool"
  | .str => t == "str"
  | .list => t == "list"
  | .tuple => t == "tuple"
theorem tyx_lst {a : Addr} {vs : List V} {K : PySem.W.Frag} (h : SqL K H a vs) : TyX K H (.ref a) (.type "list") := by
  rcases h with (h | ⟨o, h⟩) | ⟨o, its, n, hk, hc, _⟩
  · exact .base (.lst h)
  · exact .base (.frz h)
  · exact .kList hk hc
theorem tyx_tup {a : Addr} {vs : List V} {K : PySem.W.Frag} (h : SqT K H a vs) : TyX K H (.ref a) (.type "tuple") := by
  rcases h with (h | ⟨o, h⟩) | ⟨o, its, n, hk, hc, _⟩
  · exact .base (.tup h)
  · exact .fTuple h
  · exact .kTuple hk hc
theorem look_mu {v : V} {p : PV} {n : Nat} (e : look S p = .mu n) : tyP S p = none := by
  unfold tyP
  rw [e]
theorem tyP_ok (r : Rel M W H S) {v : V} {p : PV} {t : String} (h : Rp M W v p) (e : tyP S p = some t) : TyX M.K H v (.type t) ∧ (t = "NoneType" ∨ t = "bool" ∨ t = "int" ∨ t = "str" ∨ t = "tuple" ∨ t = "list" ∨ t = "dict") := by
  cases h with
  | non => cases e; exact ⟨.base .non, by decide⟩
  | bl b => cases e; exact ⟨.base (.bl b), by decide⟩
  | int i => cases e; exact ⟨.base (.int i), by decide⟩
  | str z => cases e; exact ⟨.base (.str z), by decide⟩
  | tup hs ha => cases e; exact ⟨tyx_tup (seqT_up r.i hs), by decide⟩
  | lst hs ha => cases e; exact ⟨.base (.lst (r.i _ _ hs)), by decide⟩
  | kls hs ha => cases e; exact ⟨tyx_lst (r.i.seq hs), by decide⟩
  | obj => cases e
  | xv => cases e
  | dct hd => cases e; exact ⟨.base (.dK (r.i _ _ hd)), by decide⟩
  | @mu n a hm =>
    unfold tyP look at e
    dsimp only at e
    cases w : S[n]? with
    | none => rw [w] at e; cases e
    | some c =>
      rw [w] at e
      cases c with
      | lst xs =>
        cases e
        obtain ⟨_, vs, h1, h2⟩ := r.c n a _ hm w
        exact ⟨.base (.lst h1), by decide⟩
      | obj => cases e
      | dead => cases e
theorem kit_isT {t : String} (k : Ty) (h : t = "NoneType" ∨ t = "bool" ∨ t = "int" ∨ t = "str" ∨ t = "tuple" ∨ t = "list" ∨ t = "dict") : kitB t k.nm = some (isT t k) := by
  rcases h with h | h | h | h | h | h | h <;> subst h <;> cases k <;> decide +kernel
def IsiE (k : Ty) (ma : Env → Sta → Out PV) : Env → Sta → Out PV := fun ε S => (ma ε S).bind fun x S1 => (lift (tyP S1 x) S1).bind fun t S1 => .ok (.bl (isT t k)) S1
theorem re_isi (k : Ty) (ha : RE M W0 X ta ma) : RE M W0 X (tCB (rIsi M.K) (tCons ta (tCons (tC (.ty k.nm)) tNil))) (IsiE k ma) := fun W H S σ ε le r0 er Q q =>
  ha.thn (.refl W H) le r0 er q fun u x S1 W1 H1 g1 r1 p1 q1 => by
    rw [opost_bind] at q1
    obtain ⟨t, e, q2⟩ := opost_lift q1
    obtain ⟨h1, h2⟩ := tyP_ok r1 p1 e
    exact ⟨u, .ty k.nm, .type t, .type k.nm, isT t k, rfl, .ty k.nm, h1, kit_ty (kit_isT k h2), q2 _ W1 H1 g1 r1 (.bl _)⟩
def IsiTE (k l : Ty) (ma : Env → Sta → Out PV) : Env → Sta → Out PV := fun ε S => (ma ε S).bind fun x S1 => (lift (tyP S1 x) S1).bind fun t S1 => .ok (.bl (isT t k || isT t l)) S1
theorem re_isiT (n m : Ty) (ha : RE M W0 X ta ma) : RE M W0 X (tCB (rIsiT M.K) (tCons ta (tCons (tTup (tCons (tC (.ty n.nm)) (tCons (tC (.ty m.nm)) tNil))) tNil))) (IsiTE n m ma) := fun W H S σ ε le r0 er Q q =>
  ha.thn (.refl W H) le r0 er q fun u x S1 W1 H1 g1 r1 p1 q1 => by
    rw [opost_bind] at q1
    obtain ⟨t, e, q2⟩ := opost_lift q1
    refine ⟨by show 2 ≤ sizeLine; decide, fun p hp => ?_⟩
    obtain ⟨r2, g2⟩ := r1.new (o := .tup [.ty n.nm, .ty m.nm]) hp
    obtain ⟨h1, h2⟩ := tyP_ok r2 (rp_up g2.le _ _ p1) e
    refine ⟨u, p, _, .type t, [.type n.nm, .type m.nm], isT t n || isT t m, rfl, upd_same, .cons (.ty n.nm) (.cons (.ty m.nm) .nil), h1, ?_, q2 _ _ _ (g1.trans g2) r2 (.bl _)⟩
    refine kitAny_cons (kit_ty (kit_isT n h2)) (fun z => ?_) (fun z => by rw [z]; rfl)
    rw [z]
    refine kitAny_cons (kit_ty (kit_isT m h2)) (fun z' => ?_) (fun z' => by rw [z']; rfl)
    rw [z']
    exact kitAny_nil
/-! ### slices, join -/
def NoO : Env → Sta → Out (Option Int) := fun _ S => .ok none S
def PartO (me : Env → Sta → Out PV) : Env → Sta → Out (Option Int) := fun ε S => (me ε S).bind fun x S1 => match x with
  | .int i => .ok (some i) S1
  | _ => .stuck
theorem ro_none : RO M W0 X tNoPart NoO := fun W H S σ ε le r0 er Q q => q none W H (.refl W H) r0 rfl
theorem ro_part (h : RE M W0 X te me) : RO M W0 X (tPart te) (PartO me) := fun W H S σ ε le r0 er Q q =>
  h.thn (.refl W H) le r0 er q fun u x S1 W1 H1 g1 r1 p1 q1 => by
    split at q1
    · cases p1
      exact ⟨_, rfl, q1 _ W1 H1 g1 r1 rfl⟩
    · exact q1.elim
def cutP (xs : List PV) (lo hi : Option Int) : List PV := (xs.drop (HT.sIx xs.length 0 lo)).take (HT.sIx xs.length xs.length hi - HT.sIx xs.length 0 lo)
def fSl (S : Sta) (x : PV) (l u : Option Int) : Option PV := match look S x with
  | .lst xs => some (.lst (cutP xs l u))
  | .tup xs => some (.tup (cutP xs l u))
  | .str z => if z.length ≤ 100000 then some (.str (cutS z l u)) else none
  | _ => none
def SlE (ma : Env → Sta → Out PV) (ml mh : Env → Sta → Out (Option Int)) : Env → Sta → Out PV := fun ε S => (ma ε S).bind fun x S1 => (ml ε S1).bind fun l S2 => (mh ε S2).bind fun u S3 => lift (fSl S3 x l u) S3
theorem cut_relP {vs : List V} {ps : List PV} {l u : Option Int} (h : RpA M W vs ps) : RpA M W (cutV vs l u) (cutP ps l u) := by
  unfold cutV cutP
  rw [rpa_len h]
  exact rpa_take _ (rpa_drop _ h)
theorem look_tupB {v : V} {p : PV} {xs : List PV} (h : Rp M W v p) (e : look S p = .tup xs) : p = .tup xs := by
  cases h with
  | tup hs ha => cases e; rfl
  | @mu n a hm =>
    unfold look at e
    dsimp only at e
    cases q : S[n]? with
    | none => rw [q] at e; cases e
    | some c => rw [q] at e; cases c <;> cases e
  | _ => cases e
theorem re_sl {tl th : TO} {ml mh : Env → Sta → Out (Option Int)} (ha : RE M W0 X ta ma) (hl : RO M W0 X tl ml) (hh : RO M W0 X th mh) : RE M W0 X (tSl (rSlX M.K) ta tl th) (SlE ma ml mh) := fun W H S σ ε le r0 er Q q =>
  ha.thn (.refl W H) le r0 er q fun v x S1 W1 H1 g1 r1 p1 q1 => hl.thn g1 le r1 er q1 fun l l' S2 W2 H2 g2 r2 p2 q2 => hh.thn (g1.trans g2) le r2 er q2 fun u u' S3 W3 H3 g3 r3 p3 q3 => by
    cases p2; cases p3
    obtain ⟨p, e, q4⟩ := opost_lift q3
    have p1' := rp_up (g2.trans g3).le _ _ p1
    have g13 := (g1.trans g2).trans g3
    unfold fSl at e
    split at e
    · rename_i xs ex
      cases e
      obtain ⟨a, vs, rfl, h1, h2⟩ := look_lst r3 p1' ex
      exact .inl ⟨_, _, rfl, h1, new_lst g13 r3 (cut_relP h2) q4⟩
    · rename_i xs ex
      cases e
      have := look_tupB p1' ex
      subst this
      cases p1' with
      | tup hs hz =>
        refine .inr (.inl ⟨_, _, rfl, seqT_up r3.i hs, fun ⟨z1, z2⟩ => ?_, fun _ => new_tup g13 r3 (cut_relP hz) q4⟩)
        have el := rpa_len hz
        rw [el] at z1 z2
        have ec : cutP xs l u = xs := by
          unfold cutP
          rw [z1, z2]
          simp
        rw [ec] at q4
        exact q4 _ W3 H3 g13 r3 (.tup hs hz)
    · rename_i z ex
      obtain ⟨zl, rfl⟩ := ite_some e
      exact .inr (.inr ⟨z, look_str p1' ex, big_ok zl, q4 _ W3 H3 g13 r3 (.str _)⟩)
    · cases e
def strsP : List PV → Option (List Str)
  | [] => some []
  | .str b :: ps => (strsP ps).map (b :: ·)
  | _ :: _ => none
theorem strs_ok : ∀ {ps : List PV} {vs : List V} {bs : List Str}, RpA M W vs ps → strsP ps = some bs → vs = bs.map V.str
  | [], _, _, h, e => by cases h; cases e; rfl
  | p :: ps, _, _, h, e => by
    cases h with
    | cons h1 h2 =>
      cases h1 <;> first | (simp only [strsP] at e; cases e; done) | skip
      simp only [strsP] at e
      obtain ⟨bs', h3, rfl⟩ := Option.map_eq_some_iff.mp e
      rw [strs_ok h2 h3]
      rfl
def JoinE (ma mb : Env → Sta → Out PV) : Env → Sta → Out PV := fun ε S => (ma ε S).bind fun x S1 => match x with
  | .str a => (mb ε S1).bind fun y S2 => match items S2 y with
    | some (_, ys) => match strsP ys with
      | some zs => if (zs.map (·.length)).sum + zs.length * a.length ≤ 100000 then .ok (.str (Txt.join a zs)) S2 else .stuck
      | none => .stuck
    | none => .stuck
  | _ => .stuck
theorem re_join (ha : RE M W0 X ta ma) (hb : RE M W0 X tb mb) : RE M W0 X (tM1 (rJoin M.K) ta tb) (JoinE ma mb) := fun W H S σ ε le r0 er Q q =>
  ha.thn (.refl W H) le r0 er q fun v x S1 W1 H1 g1 r1 p1 q1 => by
    split at q1
    · rename_i a
      cases p1
      refine ⟨⟨a, rfl⟩, hb.thn g1 le r1 er q1 fun w y S2 W2 H2 g2 r2 p2 q2 => ?_⟩
      split at q2
      · rename_i k ys e
        split at q2
        · rename_i zs ez
          obtain ⟨zl, q3⟩ := ite_post q2
          obtain ⟨b, us, rfl, h1, h2⟩ := items_sq r2 p2 e
          have := strs_ok h2 ez
          subst this
          exact ⟨a, b, zs, rfl, rfl, sqB_or h1, Nat.le_trans zl (by decide), q3 _ W2 H2 (g1.trans g2) r2 (.str _)⟩
        · exact q2.elim
      · exact q2.elim
    · exact q1.elim
end
end Fx
namespace Fx
open PySem PySem.Spec PyProof.Rows L2 Co
/-! ### statements -/
def Out.flow {α : Type} (o : Out α) (ε : Env) (f : α → Sta → Flow) (_ : Tag f := Tag.mk) : Flow := match o with
  | .ok a S => f a S
  | .ex c xs S => .ex c xs ε S
  | .stuck => .stuck
structure Wsh where
  nx : Env → Sta → Prop
  rt : PV → Sta → Prop
  bk : Env → Sta → Prop
  ct : Env → Sta → Prop
  ex : String → List PV → Env → Sta → Prop
def FPost (f : Flow) (D : Wsh) : Prop := match f with
  | .nx ε S => D.nx ε S
  | .rt p S => D.rt p S
  | .bk ε S => D.bk ε S
  | .ct ε S => D.ct ε S
  | .ex c xs ε S => D.ex c xs ε S
  | .stuck => False
section
variable {M : Md} {W W' Wa W0 W1 : Wd} {H H' Ha H1 : Hp} {S S' : Sta} {σ : L2.St} {ε : Env} {X : WX}
variable {ta tb tc te : TE} {ma mb mc me : Env → Sta → Out PV} {tt uu : TT} {mt mu : Env → Sta → Out Bool} {ts tr : TA} {ms mr : Env → Sta → Out (List PV)}
def enG (M : Md) (W : Wd) (H : Hp) (N : L2.St → Hp → Prop) (ε' : Env) (S' : Sta) : Prop := ∀ σ' W' H', Go W H W' H' → Rel M W' H' S' → Er M W' σ' ε' → N σ' H'
def exS (M : Md) (W : Wd) (H : Hp) (X : WX) (c : String) (xs : List PV) (ε' : Env) (S' : Sta) : Prop := ∀ d σ' W' H', Go W H W' H' → Rel M W' H' S' → Er M W' σ' ε' → Xd M W' c xs d → X (.ref (M.AD c)) d σ' H'
theorem enG.up {N : L2.St → Hp → Prop} {ε' : Env} (h : enG M W H N ε' S) (g : Go W H W' H') : enG M W' H' N ε' S := fun σ' W2 H2 g2 r q => h σ' W2 H2 (g.trans g2) r q
theorem exS.up {c : String} {xs : List PV} {ε' : Env} (h : exS M W H X c xs ε' S) (g : Go W H W' H') : exS M W' H' X c xs ε' S := fun d σ' W2 H2 g2 r q => h d σ' W2 H2 (g.trans g2) r q
def wsh (M : Md) (W : Wd) (H : Hp) (D : Ends) (X : WX) : Wsh := ⟨enG M W H D.nx, okG Rp M W H D.rt, enG M W H D.bk, enG M W H D.ct, exS M W H X⟩
theorem FPost.up {f : Flow} {D : Ends} (h : FPost f (wsh M W H D X)) (g : Go W H W' H') : FPost f (wsh M W' H' D X) := by
  cases f with
  | nx => exact enG.up h g
  | rt => exact okG.up h g
  | bk => exact enG.up h g
  | ct => exact enG.up h g
  | ex => exact exS.up h g
  | stuck => exact h
def RS (M : Md) (W0 : Wd) (X : WX) (t : TS) (m : Env → Sta → Flow) : Prop :=
  ∀ (W : Wd) (H : Hp) (S : Sta) (σ : L2.St) (ε : Env), Le W0 W → Rel M W H S → Er M W σ ε → ∀ D : Ends, FPost (m ε S) (wsh M W H D X) → t D σ H
theorem RG.thnS {α β : Type} {R : Md → Wd → β → α → Prop} {t : L2.St → Hp → (β → Hp → Prop) → Prop} {m : Env → Sta → Out α} {f : α → Sta → Flow} {D : Ends} {Q : β → Hp → Prop} (h : RG R M W0 X t m) (g : Go Wa Ha W H) (le : Le W0 Wa) (r : Rel M W H S) (er : Er M Wa σ ε)
    (q : FPost ((m ε S).flow ε f) (wsh M Wa Ha D X)) (k : ∀ b a S' W' H', Go W H W' H' → Rel M W' H' S' → R M W' b a → FPost (f a S') (wsh M Wa Ha D X) → Q b H') : t σ H Q := by
  refine h W H S σ ε (le.trans g.le) r (er.up g.le) Q ?_
  cases e : m ε S with
  | ok a S' =>
    rw [e] at q
    exact fun b W' H' g' r' p => k b a S' W' H' g' r' p q
  | ex c xs S' =>
    rw [e] at q
    exact fun d W' H' g' r' xd => q d σ W' H' (g.trans g') r' (er.up (g.trans g').le) xd
  | stuck => rw [e] at q; exact q
theorem RS.end {t : TS} {m : Env → Sta → Flow} {D : Ends} (h : RS M W0 X t m) (g : Go Wa Ha W H) (le : Le W0 Wa) (r : Rel M W H S) (er : Er M Wa σ ε) (q : FPost (m ε S) (wsh M Wa Ha D X)) : t D σ H :=
  h W H S σ ε (le.trans g.le) r (er.up g.le) D (q.up g)
variable {t u : TS} {m m' mt' mu' : Env → Sta → Flow}
def NextS : Env → Sta → Flow := fun ε S => .nx ε S
def BreakS : Env → Sta → Flow := fun ε S => .bk ε S
def ContS : Env → Sta → Flow := fun ε S => .ct ε S
def RetNS : Env → Sta → Flow := fun _ S => .rt .non S
theorem rs_next : RS M W0 X tNext NextS := fun W H S σ ε le r er D q => q σ W H (.refl W H) r er
theorem rs_break : RS M W0 X tBreak BreakS := fun W H S σ ε le r er D q => q σ W H (.refl W H) r er
theorem rs_cont : RS M W0 X tCont ContS := fun W H S σ ε le r er D q => q σ W H (.refl W H) r er
theorem rs_retN : RS M W0 X tRetN RetNS := fun W H S σ ε le r er D q => q .non W H (.refl W H) r .non
def RetS (me : Env → Sta → Out PV) : Env → Sta → Flow := fun ε S => (me ε S).flow ε fun p S1 => .rt p S1
theorem rs_ret (h : RE M W0 X te me) : RS M W0 X (tRet te) (RetS me) := fun W H S σ ε le r er D q =>
  h.thnS (.refl W H) le r er q fun v p S1 W1 H1 g1 r1 p1 q1 => q1 v W1 H1 g1 r1 p1
def DropS (me : Env → Sta → Out PV) : Env → Sta → Flow := fun ε S => (me ε S).flow ε fun _ S1 => .nx ε S1
theorem rs_drop (h : RE M W0 X te me) : RS M W0 X (tDrop te) (DropS me) := fun W H S σ ε le r er D q =>
  h.thnS (.refl W H) le r er q fun v p S1 W1 H1 g1 r1 p1 q1 => q1 σ W1 H1 g1 r1 (er.up g1.le)
/-- targets; they raise nothing -/
abbrev MG := PV → Env → Sta → Out Env
def RTg (M : Md) (W0 : Wd) (X : WX) (t : TG) (g : MG) : Prop := ∀ (W : Wd) (H : Hp) (S : Sta) (σ : L2.St) (ε : Env) (v : V) (p : PV), Le W0 W → Rel M W H S → Er M W σ ε → Rp M W v p → ∀ N : L2.St → Hp → Prop, OPost (g p ε S) (enG M W H N) noX → t v σ H N
def NameG (i : Nat) : MG := fun p ε S => .ok (ε.set i (some p)) S
theorem rg_name {i : Nat} : RTg M W0 X (gName i) (NameG i) := fun W H S σ ε v p le r er rp N q => q _ W H (.refl W H) r (er.set rp)
def RTgs (M : Md) (W0 : Wd) (X : WX) (t : TGs) (g : List PV → Env → Sta → Out Env) : Prop := ∀ (W : Wd) (H : Hp) (S : Sta) (σ : L2.St) (ε : Env) (vs : List V) (ps : List PV), Le W0 W → Rel M W H S → Er M W σ ε → RpA M W vs ps → ∀ N : L2.St → Hp → Prop, OPost (g ps ε S) (enG M W H N) noX → t vs σ H N
def NilG : List PV → Env → Sta → Out Env := fun ps ε S => match ps with
  | [] => .ok ε S
  | _ => .stuck
def ConsG (g : MG) (gs : List PV → Env → Sta → Out Env) : List PV → Env → Sta → Out Env := fun ps ε S => match ps with
  | p :: ps => (g p ε S).bind fun ε1 S1 => gs ps ε1 S1
  | [] => .stuck
def TupG (n : Nat) (gs : List PV → Env → Sta → Out Env) : MG := fun p ε S => match p with
  | .tup ps => if ps.length = n then gs ps ε S else .stuck
  | _ => .stuck
theorem rgs_nil : RTgs M W0 X gNil NilG := fun W H S σ ε vs ps le r er rp N q => by
  cases rp with
  | nil => exact ⟨rfl, q σ W H (.refl W H) r er⟩
  | cons => exact q.elim
theorem rgs_cons {t : TG} {u : TGs} {g : MG} {gs : List PV → Env → Sta → Out Env} (h : RTg M W0 X t g) (k : RTgs M W0 X u gs) : RTgs M W0 X (gCons t u) (ConsG g gs) := fun W H S σ ε vs ps le r er rp N q => by
  cases rp with
  | nil => exact q.elim
  | cons h1 h2 =>
    refine ⟨_, _, rfl, h W H S σ ε _ _ le r er h1 _ ?_⟩
    unfold ConsG at q
    dsimp only at q
    rw [opost_bind] at q
    exact q.mono (fun ε1 S1 q σ1 W1 H1 g1 r1 er1 => k W1 H1 S1 σ1 ε1 _ _ (le.trans g1.le) r1 er1 (rpa_up g1.le _ _ h2) N (q.mono (fun ε2 S2 q => enG.up q g1) fun _ _ _ z => z)) fun _ _ _ z => z
theorem rg_tup {n : Nat} {u : TGs} {gs : List PV → Env → Sta → Out Env} (k : RTgs M W0 X u gs) : RTg M W0 X (gTup M.K n u) (TupG n gs) := fun W H S σ ε v p le r er rp N q => by
  unfold TupG at q
  split at q
  · rename_i ps
    obtain ⟨z, q⟩ := ite_post q
    cases rp with
    | tup hs ha => exact ⟨_, _, rfl, seqT_up r.i hs, by rw [rpa_len ha]; exact z, k W H S σ ε _ _ le r er ha N q⟩
  · exact q.elim
/-- x[i] = v on a list that may change -/
def quiet {α : Type} (o : Out α) : Out α := match o with
  | .ok a S => .ok a S
  | _ => .stuck
theorem quiet_post {α : Type} {o : Out α} {A : α → Sta → Prop} {E : String → List PV → Sta → Prop} (h : OPost (quiet o) A E) : ∃ a S, o = .ok a S ∧ A a S := by
  cases o with
  | ok a S => exact ⟨a, S, rfl, h⟩
  | ex => exact h.elim
  | stuck => exact h.elim
def putL (S : Sta) (o i : PV) (p : PV) : Option Sta := match o, i with
  | .mu n, .int k => match S[n]? with
    | some (.lst xs) => match ixN xs.length k with
      | some j => some (S.set n (.lst (xs.set j p)))
      | none => none
    | _ => none
  | _, _ => none
def SubG (mo mi : Env → Sta → Out PV) : MG := fun p ε S => (quiet (mo ε S)).bind fun o S1 => (quiet (mi ε S1)).bind fun i S2 => match putL S2 o i p with
  | some S3 => .ok ε S3
  | none => .stuck
theorem rg_sub (ha : RE M W0 X ta ma) (hb : RE M W0 X tb mb) : RTg M W0 X (gSub ta tb rSetL) (SubG ma mb) := fun W H S σ ε v p le r er rp N q => by
  unfold SubG at q
  rw [opost_bind] at q
  obtain ⟨o, S1, e1, q1⟩ := quiet_post q
  clear q
  refine ha W H S σ ε le r er _ ?_
  rw [e1]
  intro w W1 H1 g1 r1 p1
  rw [opost_bind] at q1
  obtain ⟨i, S2, e2, q⟩ := quiet_post q1
  clear q1
  refine hb W1 H1 S1 σ ε (le.trans g1.le) r1 (er.up g1.le) _ ?_
  rw [e2]
  intro w2 W2 H2 g2 r2 p2
  unfold putL at q
  cases o <;> first | (exact q.elim) | skip
  cases i <;> first | (exact q.elim) | skip
  rename_i n k
  have p1' := rp_up g2.le _ _ p1
  cases p2
  cases p1' with
  | @mu _ a hm =>
    dsimp only at q
    cases e3 : S2[n]? with
    | none => rw [e3] at q; exact q.elim
    | some c =>
      rw [e3] at q
      cases c with
      | lst xs =>
        dsimp only at q
        obtain ⟨nb, vs, h1, h2⟩ := r2.c n a _ hm e3
        cases e4 : ixN xs.length k with
        | none => rw [e4] at q; exact q.elim
        | some j =>
          rw [e4] at q
          refine ⟨a, vs, k, j, rfl, rfl, h1, by rw [rpa_len h2]; exact e4, ?_⟩
          obtain ⟨r3, g3⟩ := r2.put (o := .lst (vs.set j v)) (c := .lst (xs.set j p)) hm nb ⟨nb, _, upd_same, rpa_set (rp_up (g1.trans g2).le _ _ rp) j h2⟩
          exact q σ W2 _ ((g1.trans g2).trans g3) r3 (er.up ((g1.trans g2).trans g3).le)
      | obj => exact q.elim
      | dead => exact q.elim
def AsgS (me : Env → Sta → Out PV) (g : MG) : Env → Sta → Flow := fun ε S => (me ε S).flow ε fun p S1 => match g p ε S1 with
  | .ok ε' S2 => .nx ε' S2
  | _ => .stuck
theorem rs_asg {tg : TG} {g : MG} (h : RE M W0 X te me) (hg : RTg M W0 X tg g) : RS M W0 X (tAsg te tg) (AsgS me g) := fun W H S σ ε le r er D q =>
  h.thnS (.refl W H) le r er q fun v p S1 W1 H1 g1 r1 p1 q1 => by
    refine hg W1 H1 S1 σ ε v p (le.trans g1.le) r1 (er.up g1.le) p1 _ ?_
    split at q1
    · rename_i ε' S2 e
      rw [e]
      exact enG.up q1 g1
    · exact q1.elim
def SetS (i : Nat) (me : Env → Sta → Out PV) : Env → Sta → Flow := fun ε S => (me ε S).flow ε fun p S1 => .nx (ε.set i (some p)) S1
theorem rs_set {i : Nat} (h : RE M W0 X te me) : RS M W0 X (tAsg te (gName i)) (SetS i me) := fun W H S σ ε le r er D q =>
  h.thnS (.refl W H) le r er q fun v p S1 W1 H1 g1 r1 p1 q1 => q1 _ W1 H1 g1 r1 ((er.up g1.le).set p1)
def IfS (mc : Env → Sta → Out Bool) (m m' : Env → Sta → Flow) : Env → Sta → Flow := fun ε S => (mc ε S).flow ε fun b S1 => if b = true then m ε S1 else m' ε S1
theorem rs_if (h : RT M W0 X tt mt) (h1 : RS M W0 X t m) (h2 : RS M W0 X u m') : RS M W0 X (tIfS tt t u) (IfS mt m m') := fun W H S σ ε le r er D q =>
  h.thnS (.refl W H) le r er q fun b b' S1 W1 H1 g1 r1 p1 q1 => by
    cases p1
    cases b with
    | true => exact iteT (h1.end g1 le r1 er q1)
    | false => exact iteF (h2.end g1 le r1 er q1)
def Flow.then (f : Flow) (k : Env → Sta → Flow) (_ : Tag k := Tag.mk) : Flow := match f with
  | .nx ε S => k ε S
  | f => f
def SeqS (m m' : Env → Sta → Flow) : Env → Sta → Flow := fun ε S => (m ε S).then m'
theorem rs_seq (h1 : RS M W0 X t m) (h2 : RS M W0 X u m') : RS M W0 X (tSeq t u) (SeqS m m') := fun W H S σ ε le r er D q => by
  refine h1 W H S σ ε le r er _ ?_
  unfold SeqS at q
  cases e : m ε S with
  | nx ε' S' => rw [e] at q; exact fun σ' W' H' g' r' er' => h2 W' H' S' σ' ε' (le.trans g'.le) r' er' D (FPost.up q g')
  | rt p S' => rw [e] at q; exact q
  | bk ε' S' => rw [e] at q; exact q
  | ct ε' S' => rw [e] at q; exact q
  | ex c xs ε' S' => rw [e] at q; exact q
  | stuck => rw [e] at q; exact q
def AugS (i : Nat) (me : Env → Sta → Out PV) (f : F2) : Env → Sta → Flow := fun ε S => match ε[i]? with
  | some (some x) => (me ε S).flow ε fun y S1 => match f S1 x y with
    | some z => .nx (ε.set i (some z)) S1
    | none => .stuck
  | _ => .stuck
theorem rs_aug {i : Nat} {ti : TIp} {f : F2} (h : RE M W0 X te me) (hf : K2 M ti f) : RS M W0 X (tAug i te ti) (AugS i me f) := fun W H S σ ε le r er D q => by
  unfold AugS at q
  split at q
  · rename_i x ex
    obtain ⟨v, h1, h2⟩ := er.get i x ex
    refine ⟨v, h1, h.thnS (.refl W H) le r er q fun w y S1 W1 H1 g1 r1 p1 q1 => ?_⟩
    split at q1
    · rename_i z ez
      exact hf W1 H1 S1 v w x y z r1 (rp_up g1.le _ _ h2) p1 ez _ fun b W2 H2 g2 r2 p2 => q1 _ W2 H2 (g1.trans g2) r2 ((er.up (g1.trans g2).le).set p2)
    · exact q1.elim
  · exact q.elim
theorem k_ipI {f : Int → Int → Int} : K2 M (ipI f) (fI0 fun i j => .int (f i j)) := fun W H S u v x y p r hx hy e Q q => by
  obtain ⟨i, j, rfl, rfl, _, rfl⟩ := fI_inv hx hy e
  exact ⟨i, j, rfl, rfl, okG_end r (.int _) q⟩
/-! ### errors -/
/-- raise C(..), C's fields being names -/
def RaiseS (c : String) (names : List Str) (ms : Env → Sta → Out (List PV)) : Env → Sta → Flow := fun ε S => (ms ε S).flow ε fun xs S1 => if xs.length = names.length then .ex c xs ε S1 else .stuck
def Raise0S (c : String) : Env → Sta → Flow := fun ε S => .ex c [] ε S
theorem fite_post {c : Prop} [Decidable c] {f : Flow} {D : Wsh} (h : FPost (if c then f else .stuck) D) : c ∧ FPost f D := by
  by_cases z : c
  · rw [if_pos z] at h; exact ⟨z, h⟩
  · rw [if_neg z] at h; exact h.elim
theorem rs_raise {c : String} {names : List Str} (h : RA M W0 X ts ms) (hn : M.fl c = names) (hz : names.length ≤ 1000) (h0 : names ≠ []) : RS M W0 X (fun _ σ H => tMkO (M.AD c) (spIni (M.AD c) names) [] ts σ H fun cls d H' => X cls d σ H') (RaiseS c names ms) := fun W H S σ ε le r er D q =>
  h.thnS (.refl W H) le r er q fun vs xs S1 W1 H1 g1 r1 p1 q1 => by
    obtain ⟨hl, q2⟩ := fite_post q1
    have lw := rpa_len p1
    refine ⟨by omega, fun a ha => ⟨a, vs, by rw [List.append_nil], by omega, upd_same, fun dx hdx hne => ?_⟩⟩
    have hd1 : H1 dx = none := by rw [upd_ne hne] at hdx; exact hdx
    refine ⟨rfl, dx, (names.zip vs).reverse, upd_same, by rw [upd_ne hne, upd_same], hd1, ?_⟩
    have hH : upd (del (upd (upd (upd H1 a (exo a (M.AD c) none)) dx (exd dx (names.zip vs).reverse)) a (exo a (M.AD c) (some dx))) a) dx (.xd (names.zip vs).reverse) = upd H1 dx (.xd (names.zip vs).reverse) := by
      funext b
      by_cases z : b = dx
      · subst z; rw [upd_same, upd_same]
      · rw [upd_ne z, upd_ne z]
        by_cases y : b = a
        · subst y; rw [ha]; simp [del]
        · have : del (upd (upd (upd H1 a (exo a (M.AD c) none)) dx (exd dx (names.zip vs).reverse)) a (exo a (M.AD c) (some dx))) a b = upd (upd (upd H1 a (exo a (M.AD c) none)) dx (exd dx (names.zip vs).reverse)) a (exo a (M.AD c) (some dx)) b := by simp [del, y]
          rw [this, upd_ne y, upd_ne z, upd_ne y]
    rw [hH]
    obtain ⟨r2, g2⟩ := r1.new (o := .xd (names.zip vs).reverse) hd1
    exact q2 (some dx) σ _ _ (g1.trans g2) r2 (er.up (g1.trans g2).le) ⟨by rw [hn]; exact h0, vs, by rw [hn]; exact upd_same, by rw [hn]; omega, rpa_up g2.le _ _ p1⟩
theorem rs_raise0 {c : String} (hn : M.fl c = []) : RS M W0 X (fun _ σ H => (fun (_ : L2.St) (H : Hp) (Q : XK) => Q (.ref (M.AD c)) none H) σ H fun cls d H' => X cls d σ H') (Raise0S c) := fun W H S σ ε le r er D q =>
  q none σ W H (.refl W H) r er ⟨rfl, hn⟩
/-- try .. except C as e: sub c tells whether the handler is for errors of the class c -/
def unslot (i : Nat) : Flow → Flow
  | .nx ε S => .nx (ε.set i none) S
  | .bk ε S => .bk (ε.set i none) S
  | .ct ε S => .ct (ε.set i none) S
  | f => f
def TryAsS (i : Nat) (sub : String → Option Bool) (mb : Env → Sta → Flow) (ms : String → List PV → Nat → Env → Sta → Flow) : Env → Sta → Flow := fun ε S => match mb ε S with
  | .ex c xs ε' S' => match sub c with
    | some true => unslot i (ms c xs S'.length (ε'.set i (some (.xv S'.length))) (S' ++ [.dead]))
    | some false => .ex c xs ε' S'
    | none => .stuck
  | f => f
theorem rs_tryas {i : Nat} {cl : Value} {sub : String → Option Bool} {tb : WX → TS} {ts : Addr → Value → Option Addr → TS} {mb : Env → Sta → Flow} {ms : String → List PV → Nat → Env → Sta → Flow} (hb : ∀ Wx, RS M W0 Wx (tb Wx) mb) (hsub : ∀ c b, sub c = some b → PySem.W.exmOne M.K (.ref (M.AD c)) cl = some b)
    (hs : ∀ (a : Addr) (d : Option Addr) (c : String) (xs : List PV) (W1 : Wd) (n : Nat), Le W0 W1 → W1.ρ[n]? = some (.exc a) → Xd M W1 c xs d → RS M W1 X (ts a (.ref (M.AD c)) d) (ms c xs n)) :
    RS M W0 X (fun D σ H => tb (wAs M.K cl i ts X D) D σ H) (TryAsS i sub mb ms) := fun W H S σ ε le r er D q => by
  refine hb _ W H S σ ε le r er D ?_
  unfold TryAsS at q
  cases e : mb ε S with
  | nx ε' S' => rw [e] at q; exact q
  | rt p S' => rw [e] at q; exact q
  | bk ε' S' => rw [e] at q; exact q
  | ct ε' S' => rw [e] at q; exact q
  | stuck => rw [e] at q; exact q
  | ex c xs ε' S' =>
    rw [e] at q
    dsimp only at q
    intro d σ' W' H' g' r' er' xd
    cases e2 : sub c with
    | none => rw [e2] at q; exact q.elim
    | some b =>
      rw [e2] at q
      refine ⟨b, hsub c b e2, fun hb => ?_, fun hb => ?_⟩
      · subst hb
        intro a ha
        dsimp only at q
        obtain ⟨r2, g2⟩ := r'.caught a
        have hn : (W'.ρ ++ [Slot.exc a])[S'.length]? = some (.exc a) := by rw [← r'.len]; simp
        have er2 : Er M ⟨W'.B, W'.ρ ++ [.exc a]⟩ (σ'.set i (some (.ref a))) (ε'.set i (some (.xv S'.length))) := (er'.up g2.le).set (.xv hn)
        refine hs a d c xs ⟨W'.B, W'.ρ ++ [.exc a]⟩ S'.length (le.trans (g'.trans g2).le) hn (xd.up g2.le) _ _ _ _ _ (Le.refl _) r2 er2 _ ?_
        have gg := g'.trans g2
        cases e3 : ms c xs S'.length (ε'.set i (some (.xv S'.length))) (S' ++ [.dead]) with
        | nx ε3 S3 => rw [e3] at q; exact fun σ3 W3 H3 g3 r3 er3 => q _ W3 H3 (gg.trans g3) r3 er3.unset
        | bk ε3 S3 => rw [e3] at q; exact fun σ3 W3 H3 g3 r3 er3 => q _ W3 H3 (gg.trans g3) r3 er3.unset
        | ct ε3 S3 => rw [e3] at q; exact fun σ3 W3 H3 g3 r3 er3 => q _ W3 H3 (gg.trans g3) r3 er3.unset
        | rt p S3 => rw [e3] at q; exact okG.up q gg
        | ex c3 xs3 ε3 S3 => rw [e3] at q; exact exS.up q gg
        | stuck => rw [e3] at q; exact q
      · subst hb
        exact q d σ' W' H' g' r' er' xd
/-- try .. except C: -/
def TryS (sub : String → Option Bool) (mb : Env → Sta → Flow) (ms : String → List PV → Env → Sta → Flow) : Env → Sta → Flow := fun ε S => match mb ε S with
  | .ex c xs ε' S' => match sub c with
    | some true => ms c xs ε' S'
    | some false => .ex c xs ε' S'
    | none => .stuck
  | f => f
theorem rs_try {cl : Value} {sub : String → Option Bool} {tb : WX → TS} {ts : Addr → Value → Option Addr → TS} {mb : Env → Sta → Flow} {ms : String → List PV → Env → Sta → Flow} (hb : ∀ Wx, RS M W0 Wx (tb Wx) mb) (hsub : ∀ c b, sub c = some b → PySem.W.exmOne M.K (.ref (M.AD c)) cl = some b)
    (hs : ∀ (a : Addr) (d : Option Addr) (c : String) (xs : List PV), RS M W0 X (ts a (.ref (M.AD c)) d) (ms c xs)) :
    RS M W0 X (fun D σ H => tb (wOnly M.K cl ts X D) D σ H) (TryS sub mb ms) := fun W H S σ ε le r er D q => by
  refine hb _ W H S σ ε le r er D ?_
  unfold TryS at q
  cases e : mb ε S with
  | nx ε' S' => rw [e] at q; exact q
  | rt p S' => rw [e] at q; exact q
  | bk ε' S' => rw [e] at q; exact q
  | ct ε' S' => rw [e] at q; exact q
  | stuck => rw [e] at q; exact q
  | ex c xs ε' S' =>
    rw [e] at q
    dsimp only at q
    intro d σ' W' H' g' r' er' xd
    cases e2 : sub c with
    | none => rw [e2] at q; exact q.elim
    | some b =>
      rw [e2] at q
      refine ⟨b, hsub c b e2, fun hb => ?_, fun hb => ?_⟩
      · subst hb
        exact fun a ha => hs a d c xs W' H' S' σ' ε' (le.trans g'.le) r' er' D (FPost.up q g')
      · subst hb
        exact q d σ' W' H' g' r' er' xd
/-- a field of the error that was caught: the class it must be of, the number of the field -/
def XfE (c0 : String) (k : Nat) (c : String) (xs : List PV) (n i : Nat) : Env → Sta → Out PV := fun ε S => match ε[i]? with
  | some (some (.xv n')) => if n' = n ∧ c = c0 then (match xs[k]? with
    | some p => .ok p S
    | none => .stuck) else .stuck
  | _ => .stuck
theorem lookup_zip_rev {ns : List Str} {vs : List V} (hl : vs.length = ns.length) (hd : ns.Nodup) {k : Nat} {f : Str} {v : V} (h1 : ns[k]? = some f) (h2 : vs[k]? = some v) : (ns.zip vs).reverse.lookup f = some v := by
  have key : ∀ (l : List (Str × V)), (l.map Prod.fst).Nodup → (f, v) ∈ l → l.lookup f = some v := by
    intro l
    induction l with
    | nil => intro _ h; cases h
    | cons x l ih =>
      intro nd hm
      obtain ⟨y, w⟩ := x
      rw [List.map_cons, List.nodup_cons] at nd
      rcases List.mem_cons.mp hm with e | hm2
      · cases e; simp [List.lookup]
      · have ne : f ≠ y := by intro z; subst z; have hq := List.mem_map_of_mem (f := Prod.fst) hm2; exact nd.1 hq
        have nb : (f == y) = false := by simpa using ne
        rw [List.lookup_cons, nb]
        exact ih nd.2 hm2
  refine key _ ?_ ?_
  · rw [List.map_reverse, List.map_fst_zip (by omega)]
    exact List.pairwise_reverse.mpr (hd.imp Ne.symm)
  · rw [List.mem_reverse]
    refine List.mem_of_getElem? (i := k) ?_
    rw [List.getElem?_zip_eq_some]
    exact ⟨h1, h2⟩
theorem re_xf {a : Addr} {d : Option Addr} {c c0 : String} {xs : List PV} {W1 : Wd} {n i k : Nat} {f : Str} (hn : W1.ρ[n]? = some (.exc a)) (hx : Xd M W1 c xs d) (hf : (M.fl c0)[k]? = some f) (hd : (M.fl c0).Nodup) : RE M W1 X (tXf a (.ref (M.AD c)) d (M.AD c0) f (tVar i)) (XfE c0 k c xs n i) := fun W H S σ ε le r er Q q => by
  unfold XfE at q
  split at q
  · rename_i n' e
    obtain ⟨⟨rfl, rfl⟩, q2⟩ := ite_post q
    clear q
    obtain ⟨v, h1, h2⟩ := er.get i _ e
    cases h2 with
    | xv hv =>
      rw [pre_get le.ρ hn] at hv
      cases hv
      refine ⟨_, h1, rfl, rfl, ?_⟩
      cases d with
      | none =>
        obtain ⟨_, h0⟩ := hx
        rw [h0] at hf; cases hf
      | some dx =>
        obtain ⟨_, vs, b1, b2, b3⟩ := hx
        cases ep : xs[k]? with
        | none => rw [ep] at q2; exact q2.elim
        | some p =>
          rw [ep] at q2
          obtain ⟨w, c1, c2⟩ := rpa_get b3 ep
          exact ⟨dx, _, w, rfl, r.i _ _ (le.b _ _ b1), lookup_zip_rev b2 hd hf c1, okG_end r (rp_up le _ _ c2) q2⟩
  · exact q.elim
end
end Fx
namespace Fx
open PySem PySem.Spec PyProof.Rows L2 Co
/-! ### equal values -/
mutual
def beq : PV → PV → Bool
  | .non, .non => true
  | .bl a, .bl b => a == b
  | .int a, .int b => decide (a = b)
  | .str a, .str b => decide (a = b)
  | .tup xs, .tup ys => beqs xs ys
  | .lst xs, .lst ys => beqs xs ys
  | .kls xs, .kls ys => beqs xs ys
  | .obj c ns xs, .obj c' ns' xs' => decide (c = c') && decide (ns = ns') && beqs xs xs'
  | .mu n, .mu m => decide (n = m)
  | .xv n, .xv m => decide (n = m)
  | .dct, .dct => true
  | _, _ => false
def beqs : List PV → List PV → Bool
  | [], [] => true
  | p :: ps, q :: qs => beq p q && beqs ps qs
  | _, _ => false
end
mutual
theorem beq_eq : ∀ (p q : PV), beq p q = true → p = q
  | .non, q, h => by cases q <;> first | rfl | (simp [beq] at h; done)
  | .bl a, q, h => by cases q <;> first | (simp [beq] at h; done) | (simp [beq] at h; rw [h])
  | .int a, q, h => by cases q <;> first | (simp [beq] at h; done) | (simp [beq] at h; rw [h])
  | .str a, q, h => by cases q <;> first | (simp [beq] at h; done) | (simp [beq] at h; rw [h])
  | .tup xs, q, h => by cases q <;> first | (simp [beq] at h; done) | (simp only [beq] at h; rw [beqs_eq xs _ h])
  | .lst xs, q, h => by cases q <;> first | (simp [beq] at h; done) | (simp only [beq] at h; rw [beqs_eq xs _ h])
  | .kls xs, q, h => by cases q <;> first | (simp [beq] at h; done) | (simp only [beq] at h; rw [beqs_eq xs _ h])
  | .obj c ns xs, q, h => by
    cases q <;> first | (simp [beq] at h; done) | skip
    simp only [beq, Bool.and_eq_true, decide_eq_true_eq] at h
    rw [h.1.1, h.1.2, beqs_eq xs _ h.2]
  | .mu n, q, h => by cases q <;> first | (simp [beq] at h; done) | (simp [beq] at h; rw [h])
  | .xv n, q, h => by cases q <;> first | (simp [beq] at h; done) | (simp [beq] at h; rw [h])
  | .dct, q, h => by cases q <;> first | rfl | (simp [beq] at h; done)
theorem beqs_eq : ∀ (ps qs : List PV), beqs ps qs = true → ps = qs
  | [], qs, h => by cases qs <;> first | rfl | (simp [beqs] at h; done)
  | p :: ps, qs, h => by
    cases qs with
    | nil => simp [beqs] at h
    | cons q qs =>
      simp only [beqs, Bool.and_eq_true] at h
      rw [beq_eq p q h.1, beqs_eq ps qs h.2]
end
mutual
theorem beq_rfl : ∀ (p : PV), beq p p = true
  | .non => by simp [beq]
  | .bl a => by simp [beq]
  | .int a => by simp [beq]
  | .str a => by simp [beq]
  | .tup xs => by simp only [beq]; exact beqs_rfl xs
  | .lst xs => by simp only [beq]; exact beqs_rfl xs
  | .kls xs => by simp only [beq]; exact beqs_rfl xs
  | .obj c ns xs => by simp only [beq, beqs_rfl xs]; simp
  | .mu n => by simp [beq]
  | .xv n => by simp [beq]
  | .dct => by simp [beq]
theorem beqs_rfl : ∀ (ps : List PV), beqs ps ps = true
  | [] => by simp [beqs]
  | p :: ps => by simp only [beqs, beq_rfl p, beqs_rfl ps, Bool.and_self]
end
/-! ### what a loop walks over: the items, and the lists that must stay as they are meanwhile -/
structure IT where
  xs : List PV
  pins : List (Nat × List PV)
def Pinned (S : Sta) (pins : List (Nat × List PV)) : Prop := ∀ q, q ∈ pins → S[q.1]? = some (.lst q.2)
def pinsOk (S : Sta) (pins : List (Nat × List PV)) : Bool := pins.all fun q => match S[q.1]? with
  | some (.lst xs) => beqs xs q.2
  | _ => false
theorem pinned_of {S : Sta} {pins : List (Nat × List PV)} (h : pinsOk S pins = true) : Pinned S pins := fun q hq => by
  have := List.all_eq_true.mp h q hq
  split at this
  · rename_i xs e
    rw [e, beqs_eq _ _ this]
  · cases this
theorem pinsOk_nil {S : Sta} : pinsOk S [] = true := rfl
section
variable {M : Md} {W W' Wa W0 W1 : Wd} {H H' Ha H1 : Hp} {S S' : Sta} {σ : L2.St} {ε : Env} {X : WX}
variable {ta tb tc te : TE} {ma mb mc me : Env → Sta → Out PV} {tt uu : TT} {mt mu : Env → Sta → Out Bool} {ts tr : TA} {ms mr : Env → Sta → Out (List PV)}
def Walk (M : Md) (W : Wd) (J : L2.It) (it : IT) : Prop := ∀ (W' : Wd) (H' : Hp) (S' : Sta) (i : Nat), Le W W' → Rel M W' H' S' → Pinned S' it.pins →
  (∀ p, it.xs[i]? = some p → J.go i H' ∧ ∀ x H'', J.yld i H' x H'' → ∃ W'', Go W' H' W'' H'' ∧ Rel M W'' H'' S' ∧ Rp M W'' x p) ∧ (i = it.xs.length → J.stop i H')
theorem Walk.up {J : L2.It} {it : IT} (h : Walk M W J it) (e : Le W W') : Walk M W' J it := fun W2 H2 S2 i l r p => h W2 H2 S2 i (e.trans l) r p
abbrev RI (M : Md) (W0 : Wd) (X : WX) (wi : TI) (mi : Env → Sta → Out IT) : Prop := RG (fun M W J it => Walk M W J it) M W0 X wi mi
def Holds (M : Md) (k : Bool) (a : Addr) (it : IT) (W : Wd) : Prop := ∀ (W' : Wd) (H' : Hp) (S' : Sta), Le W W' → Rel M W' H' S' → Pinned S' it.pins → ∃ vs, SqB M.K k H' a vs ∧ RpA M W' vs it.xs
theorem Holds.up {k : Bool} {a : Addr} {it : IT} (h : Holds M k a it W) (e : Le W W') : Holds M k a it W' := fun W2 H2 S2 l r p => h W2 H2 S2 (e.trans l) r p
def seqIt (S : Sta) : PV → Option (Bool × IT)
  | .lst xs => some (true, ⟨xs, []⟩)
  | .kls xs => some (true, ⟨xs, []⟩)
  | .tup xs => some (false, ⟨xs, []⟩)
  | .mu n => match S[n]? with
    | some (.lst xs) => some (true, ⟨xs, [(n, xs)]⟩)
    | _ => none
  | _ => none
theorem holds_of {v : V} {p : PV} {k : Bool} {it : IT} (r : Rel M W H S) (h : Rp M W v p) (e : seqIt S p = some (k, it)) : ∃ a, v = .ref a ∧ Holds M k a it W := by
  cases h with
  | lst hs ha => cases e; exact ⟨_, rfl, fun W2 H2 S2 l r2 _ => ⟨_, .inl (.inl (r2.i _ _ (l.b _ _ hs))), rpa_up l _ _ ha⟩⟩
  | kls hs ha => cases e; exact ⟨_, rfl, fun W2 H2 S2 l r2 _ => ⟨_, r2.i.seq (l.b.seq hs), rpa_up l _ _ ha⟩⟩
  | tup hs ha => cases e; exact ⟨_, rfl, fun W2 H2 S2 l r2 _ => ⟨_, seqT_up (l.b.trans r2.i) hs, rpa_up l _ _ ha⟩⟩
  | @mu n a hm =>
    simp only [seqIt] at e
    split at e
    · rename_i xs q
      cases e
      refine ⟨a, rfl, fun W2 H2 S2 l r2 pn => ?_⟩
      have h1 := pn (n, xs) (by simp)
      obtain ⟨_, vs, h2, h3⟩ := r2.c n a _ (pre_get l.ρ hm) h1
      exact ⟨vs, .inl (.inl h2), h3⟩
    · cases e
  | _ => cases e
theorem walk_seq {a : Addr} {it : IT} : ∀ {k : Bool}, Holds M k a it W → Walk M W (if k = true then Itl M.K a else Itt M.K a) it
  | true, h => fun W2 H2 S2 i l r pn => by
    obtain ⟨vs, h1, h2⟩ := h W2 H2 S2 l r pn
    refine ⟨fun p hp => ?_, fun hi => ⟨vs, h1, by rw [rpa_len h2, hi]; exact Nat.le_refl _⟩⟩
    obtain ⟨w, c1, c2⟩ := rpa_get h2 hp
    refine ⟨⟨vs, w, h1, c1⟩, ?_⟩
    rintro x H3 ⟨rfl, hx⟩
    have := hx vs h1
    rw [c1] at this
    cases this
    exact ⟨W2, .refl _ _, r, c2⟩
  | false, h => fun W2 H2 S2 i l r pn => by
    obtain ⟨vs, h1, h2⟩ := h W2 H2 S2 l r pn
    refine ⟨fun p hp => ?_, fun hi => ⟨vs, h1, by rw [rpa_len h2, hi]; exact Nat.le_refl _⟩⟩
    obtain ⟨w, c1, c2⟩ := rpa_get h2 hp
    refine ⟨⟨vs, w, h1, c1⟩, ?_⟩
    rintro x H3 ⟨rfl, hx⟩
    have := hx vs h1
    rw [c1] at this
    cases this
    exact ⟨W2, .refl _ _, r, c2⟩
theorem nopin (r : Rel M W H S) {v : V} {p : PV} {k : Bool} {it : IT} (e : seqIt S p = some (k, it)) : Pinned S it.pins := by
  cases p <;> first | (cases e; done) | (cases e; exact fun q h => by cases h) | skip
  simp only [seqIt] at e
  split at e
  · rename_i xs q
    cases e
    intro q2 h
    cases List.mem_singleton.mp h
    exact q
  · cases e
def SeqI (me : Env → Sta → Out PV) : Env → Sta → Out IT := fun ε S => (me ε S).bind fun p S1 => (lift (seqIt S1 p) S1).bind fun x S1 => .ok x.2 S1
theorem ri_seq (h : RE M W0 X te me) : RI M W0 X (iSeq M.K te) (SeqI me) := fun W H S σ ε le r0 er Q q =>
  h.thn (.refl W H) le r0 er q fun v p S1 W1 H1 g1 r1 p1 q1 => by
    rw [opost_bind] at q1
    obtain ⟨⟨k, it⟩, e, q2⟩ := opost_lift q1
    obtain ⟨a, rfl, hh⟩ := holds_of r1 p1 e
    obtain ⟨vs, h1, h2⟩ := hh W1 H1 S1 (Le.refl _) r1 (nopin (v := .non) r1 e)
    have wk := walk_seq hh
    cases k with
    | true => exact ⟨a, vs, rfl, .inl ⟨h1, q2 _ W1 H1 g1 r1 wk⟩⟩
    | false => exact ⟨a, vs, rfl, .inr ⟨h1, q2 _ W1 H1 g1 r1 wk⟩⟩
/-- range -/
def intsP (lo : Int) (n : Nat) : List PV := (List.range n).map fun (i : Nat) => .int (lo + (i : Int))
theorem walk_rng {lo : Int} {n : Nat} : Walk M W (Itr lo n) ⟨intsP lo n, []⟩ := fun W2 H2 S2 i l r pn => by
  refine ⟨fun p hp => ?_, fun hi => ?_⟩
  · simp only [intsP, List.getElem?_map] at hp
    obtain ⟨j, h1, rfl⟩ := Option.map_eq_some_iff.mp hp
    obtain ⟨hl, h2⟩ := List.getElem?_eq_some_iff.mp h1
    simp at hl h2
    subst h2
    refine ⟨hl, ?_⟩
    rintro x H3 ⟨rfl, rfl⟩
    exact ⟨W2, .refl _ _, r, .int _⟩
  · simp [intsP] at hi
    show n ≤ i
    omega
def Rng1I (ms : Env → Sta → Out (List PV)) : Env → Sta → Out IT := fun ε S => (ms ε S).bind fun xs S1 => match xs with
  | [.int n] => if -4611686018427387904 ≤ n ∧ n < 4611686018427387904 then .ok ⟨intsP 0 n.toNat, []⟩ S1 else .stuck
  | _ => .stuck
theorem ri_rng1 (h : RA M W0 X ts ms) : RI M W0 X (iRng1 ts) (Rng1I ms) := fun W H S σ ε le r0 er Q q =>
  h.thn (.refl W H) le r0 er q fun vs xs S1 W1 H1 g1 r1 p1 q1 => by
    split at q1
    · rename_i n
      obtain ⟨z, q2⟩ := ite_post q1
      obtain ⟨v, rfl, hv⟩ := rpa1 p1
      cases hv
      have e : (2 : Int) ^ 62 = 4611686018427387904 := by decide
      exact ⟨n, rfl, by rw [e]; exact z.1, by rw [e]; exact z.2, q2 _ W1 H1 g1 r1 walk_rng⟩
    · exact q1.elim
theorem rpa2 {vs : List V} {a b : PV} (h : RpA M W vs [a, b]) : ∃ x y, vs = [x, y] ∧ Rp M W x a ∧ Rp M W y b := by
  cases h with | cons h1 h => cases h with | cons h2 h => cases h; exact ⟨_, _, rfl, h1, h2⟩
def Rng2I (ms : Env → Sta → Out (List PV)) : Env → Sta → Out IT := fun ε S => (ms ε S).bind fun xs S1 => match xs with
  | [.int i, .int j] => if -4611686018427387904 ≤ i ∧ i < 4611686018427387904 ∧ -4611686018427387904 ≤ j ∧ j < 4611686018427387904 then .ok ⟨intsP i (j - i).toNat, []⟩ S1 else .stuck
  | _ => .stuck
theorem ri_rng2 (h : RA M W0 X ts ms) : RI M W0 X (iRng2 ts) (Rng2I ms) := fun W H S σ ε le r0 er Q q =>
  h.thn (.refl W H) le r0 er q fun vs xs S1 W1 H1 g1 r1 p1 q1 => by
    split at q1
    · rename_i n m
      obtain ⟨z, q2⟩ := ite_post q1
      obtain ⟨v, w, rfl, hv, hw⟩ := rpa2 p1
      cases hv
      cases hw
      have e : (2 : Int) ^ 62 = 4611686018427387904 := by decide
      exact ⟨n, m, rfl, by rw [e]; exact z, q2 _ W1 H1 g1 r1 walk_rng⟩
    · exact q1.elim
/-- a text -/
def StrI (me : Env → Sta → Out PV) : Env → Sta → Out IT := fun ε S => (me ε S).bind fun p S1 => match p with
  | .str z => .ok ⟨z.cps.toList.map fun c => .str ⟨#[c]⟩, []⟩ S1
  | _ => .stuck
theorem ri_str (h : RE M W0 X te me) : RI M W0 X (iStr te) (StrI me) := fun W H S σ ε le r0 er Q q =>
  h.thn (.refl W H) le r0 er q fun v p S1 W1 H1 g1 r1 p1 q1 => by
    split at q1
    · rename_i z
      cases p1
      refine ⟨z, rfl, q1 _ W1 H1 g1 r1 fun W2 H2 S2 i l r pn => ⟨fun p hp => ?_, fun hi => ?_⟩⟩
      · simp only [List.getElem?_map] at hp
        obtain ⟨c, h1, rfl⟩ := Option.map_eq_some_iff.mp hp
        have h2 : z.cps[i]? = some c := by simpa using h1
        have hl : i < z.cps.size := (Array.getElem?_eq_some_iff.mp h2).1
        refine ⟨hl, ?_⟩
        rintro x H3 ⟨rfl, c', hc, rfl⟩
        rw [h2] at hc
        cases hc
        exact ⟨W2, .refl _ _, r, .str _⟩
      · simp at hi
        show z.cps.size ≤ i
        omega
    · exact q1.elim
/-- zip -/
def zipIt (a b : IT) : IT := ⟨(a.xs.zip b.xs).map fun q => .tup [q.1, q.2], a.pins ++ b.pins⟩
theorem walk_zip {k m : Bool} {a b : Addr} {i1 i2 : IT} (h1 : Holds M k a i1 W) (h2 : Holds M m b i2 W) : Walk M W (ItzG M.K k m a b) (zipIt i1 i2) := fun W2 H2 S2 i l r pn => by
  obtain ⟨us, a1, a2⟩ := h1 W2 H2 S2 l r fun q hq => pn q (List.mem_append_left _ hq)
  obtain ⟨ws, b1, b2⟩ := h2 W2 H2 S2 l r fun q hq => pn q (List.mem_append_right _ hq)
  have la := rpa_len a2
  have lb := rpa_len b2
  refine ⟨fun p hp => ?_, fun hi => ?_⟩
  · simp only [zipIt, List.getElem?_map] at hp
    obtain ⟨⟨x, y⟩, e1, rfl⟩ := Option.map_eq_some_iff.mp hp
    rw [List.getElem?_zip_eq_some] at e1
    obtain ⟨u, c1, c2⟩ := rpa_get a2 e1.1
    obtain ⟨w, d1, d2⟩ := rpa_get b2 e1.2
    refine ⟨⟨us, ws, u, w, a1, b1, c1, d1⟩, ?_⟩
    rintro v H3 ⟨T, x', y', rfl, hT, rfl, f1, f2⟩
    have z1 := f1 us a1
    have z2 := f2 ws b1
    rw [c1] at z1
    rw [d1] at z2
    cases z1
    cases z2
    obtain ⟨r3, g3⟩ := r.new (o := .tup [u, w]) hT
    exact ⟨_, g3, r3, .tup (.inl (.inl upd_same)) (.cons (rp_up g3.le _ _ c2) (.cons (rp_up g3.le _ _ d2) .nil))⟩
  · simp [zipIt] at hi
    exact ⟨us, ws, a1, b1, by omega, by omega, by omega⟩
def ZipI (ms : Env → Sta → Out (List PV)) : Env → Sta → Out IT := fun ε S => (ms ε S).bind fun xs S1 => match xs with
  | [x, y] => match seqIt S1 x, seqIt S1 y with
    | some (_, i1), some (_, i2) => .ok (zipIt i1 i2) S1
    | _, _ => .stuck
  | _ => .stuck
theorem ri_zip (h : RA M W0 X ts ms) : RI M W0 X (iZipG M.K ts) (ZipI ms) := fun W H S σ ε le r0 er Q q =>
  h.thn (.refl W H) le r0 er q fun vs xs S1 W1 H1 g1 r1 p1 q1 => by
    split at q1
    · rename_i x y
      obtain ⟨v, w, rfl, hv, hw⟩ := rpa2 p1
      split at q1
      · rename_i k i1 m i2 e1 e2
        obtain ⟨a, rfl, ha⟩ := holds_of r1 hv e1
        obtain ⟨b, rfl, hb⟩ := holds_of r1 hw e2
        obtain ⟨us, a1, a2⟩ := ha W1 H1 S1 (Le.refl _) r1 (nopin (v := .non) r1 e1)
        obtain ⟨ws, b1, b2⟩ := hb W1 H1 S1 (Le.refl _) r1 (nopin (v := .non) r1 e2)
        exact ⟨a, b, us, ws, k, m, rfl, a1, b1, q1 _ W1 H1 g1 r1 (walk_zip ha hb)⟩
      · exact q1.elim
    · exact q1.elim
/-- reversed -/
def RevI (me : Env → Sta → Out PV) : Env → Sta → Out IT := fun ε S => (me ε S).bind fun p S1 => (lift (seqIt S1 p) S1).bind fun x S1 => .ok ⟨x.2.xs.reverse, x.2.pins⟩ S1
theorem ri_rev (h : RE M W0 X te me) : RI M W0 X (RT.iRevA M.K te) (RevI me) := fun W H S σ ε le r0 er Q q =>
  h.thn (.refl W H) le r0 er q fun v p S1 W1 H1 g1 r1 p1 q1 => by
    rw [opost_bind] at q1
    obtain ⟨⟨k, it⟩, e, q2⟩ := opost_lift q1
    obtain ⟨a, rfl, hh⟩ := holds_of r1 p1 e
    obtain ⟨vs, h1, h2⟩ := hh W1 H1 S1 (Le.refl _) r1 (nopin (v := .non) r1 e)
    have lv := rpa_len h2
    have get : ∀ {n i : Nat} {p : PV} {us : List V} {W2 : Wd}, n = it.xs.length → RpA M W2 us it.xs → it.xs.reverse[i]? = some p → i < n ∧ ∃ w, us[n - 1 - i]? = some w ∧ Rp M W2 w p := fun {n i p us W2} hn ha hp => by
      have hi := (List.getElem?_eq_some_iff.mp hp).1
      rw [List.length_reverse] at hi
      rw [List.getElem?_reverse hi] at hp
      subst hn
      exact ⟨hi, rpa_get ha hp⟩
    cases k with
    | true =>
      refine ⟨a, vs, rfl, .inl ⟨h1, q2 _ W1 H1 g1 r1 fun W2 H2 S2 i l r pn => ?_⟩⟩
      obtain ⟨us, a1, a2⟩ := hh W2 H2 S2 l r pn
      refine ⟨fun p hp => ?_, fun hi => by show vs.length ≤ i; rw [hi, List.length_reverse, lv]; exact Nat.le_refl _⟩
      obtain ⟨hi, w, c1, c2⟩ := get lv a2 hp
      refine ⟨⟨hi, us, w, a1, c1⟩, ?_⟩
      rintro x H3 ⟨rfl, hx⟩
      have := hx us a1
      rw [c1] at this
      cases this
      exact ⟨W2, .refl _ _, r, c2⟩
    | false =>
      refine ⟨a, vs, rfl, .inr ⟨h1, q2 _ W1 H1 g1 r1 fun W2 H2 S2 i l r pn => ?_⟩⟩
      obtain ⟨us, a1, a2⟩ := hh W2 H2 S2 l r pn
      refine ⟨fun p hp => ?_, fun hi => by show vs.length ≤ i; rw [hi, List.length_reverse, lv]; exact Nat.le_refl _⟩
      obtain ⟨hi, w, c1, c2⟩ := get lv a2 hp
      refine ⟨⟨hi, us, w, a1, c1⟩, ?_⟩
      rintro x H3 ⟨rfl, hx⟩
      have := hx us a1
      rw [c1] at this
      cases this
      exact ⟨W2, .refl _ _, r, c2⟩
/-! ### for -/
def loop (g : MG) (mb : Env → Sta → Flow) (pins : List (Nat × List PV)) : List PV → Env → Sta → Flow
  | [], ε, S => if pinsOk S pins = true then .nx ε S else .stuck
  | x :: xs, ε, S => if pinsOk S pins = true then (match g x ε S with
      | .ok ε1 S1 => (match mb ε1 S1 with
        | .nx ε2 S2 => loop g mb pins xs ε2 S2
        | .ct ε2 S2 => loop g mb pins xs ε2 S2
        | .bk ε2 S2 => .nx ε2 S2
        | f => f)
      | _ => .stuck) else .stuck
def ForS (mi : Env → Sta → Out IT) (g : MG) (mb : Env → Sta → Flow) : Env → Sta → Flow := fun ε S => (mi ε S).flow ε fun it S1 => loop g mb it.pins it.xs ε S1
theorem rs_for {wi : TI} {mi : Env → Sta → Out IT} {tg : TG} {g : MG} {tb : TS} {mb : Env → Sta → Flow} (hi : RI M W0 X wi mi) (hg : RTg M W0 X tg g) (hb : RS M W0 X tb mb) : RS M W0 X (tFor wi tg tb) (ForS mi g mb) := fun W H S σ ε le r er D q =>
  hi.thnS (.refl W H) le r er q fun J it S1 W1 H1 g1 r1 wk q1 => by
    refine ⟨fun i m σ' H' => m = it.xs.length - i ∧ i ≤ it.xs.length ∧ ∃ W' S' ε', Go W H W' H' ∧ Le W1 W' ∧ Rel M W' H' S' ∧ Er M W' σ' ε' ∧ FPost (loop g mb it.pins (it.xs.drop i) ε' S') (wsh M W H D X), ⟨_, rfl, Nat.zero_le _, W1, S1, ε, g1, Le.refl _, r1, er.up g1.le, q1⟩, ?_⟩
    rintro i m σ' H' ⟨rfl, hil, W', S', ε', g', le', r', er', q'⟩
    by_cases hlt : i < it.xs.length
    · have hx : it.xs[i]? = some it.xs[i] := List.getElem?_eq_getElem hlt
      rw [List.drop_eq_getElem_cons hlt] at q'
      simp only [loop] at q'
      obtain ⟨pk, q2⟩ := fite_post q'
      obtain ⟨wgo, _⟩ := wk W' H' S' i le' r' (pinned_of pk)
      obtain ⟨hgo, hyl⟩ := wgo _ hx
      refine .inr ⟨hgo, fun σ2 H2 => i + 1 ≤ it.xs.length ∧ ∃ W' S' ε', Go W H W' H2 ∧ Le W1 W' ∧ Rel M W' H2 S' ∧ Er M W' σ2 ε' ∧ FPost (loop g mb it.pins (it.xs.drop (i + 1)) ε' S') (wsh M W H D X), fun σ2 H2 p => ⟨it.xs.length - (i + 1), by omega, rfl, p⟩, fun v H2 hy => ?_⟩
      obtain ⟨W2, g2, r2, p2⟩ := hyl v H2 hy
      have g02 := g'.trans g2
      refine hg W2 H2 S' σ' ε' v _ (le.trans g02.le) r2 (er'.up g2.le) p2 _ ?_
      cases e : g it.xs[i] ε' S' with
      | ok ε1 S3 =>
        rw [e] at q2
        intro σ3 W3 H3 g3 r3 er3
        have g03 := g02.trans g3
        refine hb W3 H3 S3 σ3 ε1 (le.trans g03.le) r3 er3 _ ?_
        dsimp only at q2
        have lew : ∀ {W4 : Wd} {H4 : Hp}, Go W3 H3 W4 H4 → Le W1 W4 := fun g4 => le'.trans ((g2.trans g3).trans g4).le
        cases e2 : mb ε1 S3 with
        | nx ε2 S4 => rw [e2] at q2; exact fun σ4 W4 H4 g4 r4 er4 => ⟨hlt, W4, S4, ε2, g03.trans g4, lew g4, r4, er4, q2⟩
        | ct ε2 S4 => rw [e2] at q2; exact fun σ4 W4 H4 g4 r4 er4 => ⟨hlt, W4, S4, ε2, g03.trans g4, lew g4, r4, er4, q2⟩
        | bk ε2 S4 => rw [e2] at q2; exact enG.up q2 g03
        | rt p S4 => rw [e2] at q2; exact okG.up q2 g03
        | ex c xs ε2 S4 => rw [e2] at q2; exact exS.up q2 g03
        | stuck => rw [e2] at q2; exact q2
      | ex c xs S3 => rw [e] at q2; exact q2.elim
      | stuck => rw [e] at q2; exact q2.elim
    · have hie : i = it.xs.length := by omega
      rw [hie, List.drop_length] at q'
      simp only [loop] at q'
      obtain ⟨pk, q2⟩ := fite_post q'
      obtain ⟨_, wst⟩ := wk W' H' S' i le' r' (pinned_of pk)
      exact .inl ⟨wst hie, q2 σ' W' H' g' r' er'⟩
/-! ### while -/
def iterW (mc : Env → Sta → Out Bool) (mb : Env → Sta → Flow) : Nat → Env → Sta → Flow
  | 0, _, _ => .stuck
  | n + 1, ε, S => (mc ε S).flow ε fun b S1 => if b = true then (match mb ε S1 with
      | .nx ε2 S2 => iterW mc mb n ε2 S2
      | .ct ε2 S2 => iterW mc mb n ε2 S2
      | .bk ε2 S2 => .nx ε2 S2
      | f => f) else .nx ε S1
theorem rs_while {tb : TS} {mb : Env → Sta → Flow} (n : Nat) (hc : RT M W0 X tt mt) (hb : RS M W0 X tb mb) : RS M W0 X (tWhile tt tb) (iterW mt mb n) := fun W H S σ ε le r er D q => by
  refine ⟨fun m σ' H' => ∃ W' S' ε', Le W W' ∧ Rel M W' H' S' ∧ Er M W' σ' ε' ∧ FPost (iterW mt mb m ε' S') (wsh M W' H' D X), ⟨n, W, S, ε, .refl W, r, er, q⟩, ?_⟩
  rintro m σ' H' ⟨W', S', ε', l', r', er', q'⟩
  cases m with
  | zero => exact q'.elim
  | succ m =>
    simp only [iterW] at q'
    refine hc.thnS (Wa := W') (Ha := H') (.refl W' H') (le.trans l') r' er' q' fun b b' S1 W1 H1 g1 r1 p1 q1 => ?_
    cases p1
    cases b with
    | true =>
      refine iteT ⟨fun σ2 H2 => ∃ W' S' ε', Le W W' ∧ Rel M W' H2 S' ∧ Er M W' σ2 ε' ∧ FPost (iterW mt mb m ε' S') (wsh M W' H2 D X), fun σ2 H2 p => ⟨m, Nat.lt_succ_self m, p⟩, ?_⟩
      refine hb W1 H1 S1 σ' ε' (le.trans (l'.trans g1.le)) r1 (er'.up g1.le) _ ?_
      rw [if_pos rfl] at q1
      have q2 := q1
      cases e2 : mb ε' S1 with
      | nx ε2 S4 => rw [e2] at q2; exact fun σ4 W4 H4 g4 r4 er4 => ⟨W4, S4, ε2, l'.trans (g1.trans g4).le, r4, er4, FPost.up q2 (g1.trans g4)⟩
      | ct ε2 S4 => rw [e2] at q2; exact fun σ4 W4 H4 g4 r4 er4 => ⟨W4, S4, ε2, l'.trans (g1.trans g4).le, r4, er4, FPost.up q2 (g1.trans g4)⟩
      | bk ε2 S4 => rw [e2] at q2; exact enG.up q2 g1
      | rt p S4 => rw [e2] at q2; exact okG.up q2 g1
      | ex c xs ε2 S4 => rw [e2] at q2; exact exS.up q2 g1
      | stuck => rw [e2] at q2; exact q2
    | false => exact iteF (q1 σ' W1 H1 g1 r1 (er'.up g1.le))
theorem iterW_mono {mb : Env → Sta → Flow} : ∀ (n k : Nat) (ε : Env) (S : Sta), iterW mt mb n ε S ≠ .stuck → iterW mt mb (n + k) ε S = iterW mt mb n ε S
  | 0, _, _, _, h => absurd rfl h
  | n + 1, k, ε, S, h => by
    rw [Nat.add_right_comm]
    simp only [iterW] at h ⊢
    cases e : mt ε S with
    | ok b S1 =>
      rw [e] at h
      simp only [Out.flow] at h ⊢
      cases b with
      | true =>
        simp only [if_true] at h ⊢
        cases e2 : mb ε S1 with
        | nx ε2 S2 => rw [e2] at h; exact iterW_mono n k ε2 S2 h
        | ct ε2 S2 => rw [e2] at h; exact iterW_mono n k ε2 S2 h
        | bk ε2 S2 => rfl
        | rt p S2 => rfl
        | ex c xs ε2 S2 => rfl
        | stuck => rfl
      | false => rfl
    | ex c xs S1 => rfl
    | stuck => rfl
/-! ### comprehensions -/
def wipeP (ε : Env) : List Nat → Env
  | [] => ε
  | i :: vs => (wipeP ε vs).set i none
theorem Er.wipe (h : Er M W σ ε) : ∀ vs : List Nat, Er M W (wipe σ vs) (wipeP ε vs)
  | [] => h
  | i :: vs => (Er.wipe h vs).unset
theorem wipe_get (σ : L2.St) (j : Nat) : ∀ vs : List Nat, (wipe σ vs)[j]? = if j ∈ vs then (σ[j]?).map (fun _ => none) else σ[j]?
  | [] => rfl
  | i :: vs => by
    show ((wipe σ vs).set i none)[j]? = _
    by_cases z : i = j
    · subst z
      have hl : (wipe σ vs).length = σ.length := by
        clear i
        induction vs with
        | nil => rfl
        | cons k vs ih => show ((wipe σ vs).set k none).length = _; rw [List.length_set, ih]
      rw [List.getElem?_set, if_pos rfl, hl]
      have hm : i ∈ i :: vs := by simp
      rw [if_pos hm]
      by_cases q : i < σ.length
      · rw [if_pos q, List.getElem?_eq_getElem q]; rfl
      · rw [if_neg q, List.getElem?_eq_none (by omega)]; rfl
    · rw [List.getElem?_set_ne z, wipe_get σ j vs]
      by_cases q : j ∈ vs
      · rw [if_pos q, if_pos (List.mem_cons_of_mem _ q)]
      · rw [if_neg q, if_neg (fun hq => by rcases List.mem_cons.mp hq with e | e; exact z e.symm; exact q e)]
theorem wipe_set {σ' : L2.St} {vs : List Nat} {j : Nat} {x : Option V} (hj : j ∈ vs) (h : wipe σ' vs = wipe σ vs) : wipe (σ'.set j x) vs = wipe σ vs := by
  rw [← h]
  apply List.ext_getElem?
  intro i
  rw [wipe_get, wipe_get]
  by_cases z : i ∈ vs
  · rw [if_pos z, if_pos z]
    by_cases e : j = i
    · subst e
      rw [List.getElem?_set, if_pos rfl]
      by_cases q : j < σ'.length
      · rw [if_pos q, List.getElem?_eq_getElem q]; rfl
      · rw [if_neg q, List.getElem?_eq_none (by omega)]
    · rw [List.getElem?_set_ne e]
  · have e : j ≠ i := fun e => z (e ▸ hj)
    rw [if_neg z, if_neg z, List.getElem?_set_ne e]
theorem wipe_wipe {vs : List Nat} : wipe (wipe σ vs) vs = wipe σ vs := by
  apply List.ext_getElem?
  intro i
  rw [wipe_get, wipe_get]
  by_cases z : i ∈ vs
  · rw [if_pos z, if_pos z]; cases σ[i]? <;> rfl
  · rw [if_neg z, if_neg z]
def RTn (M : Md) (W0 : Wd) (vs : List Nat) (t : TG) (g : MG) : Prop := ∀ (W : Wd) (H : Hp) (S : Sta) (σ0 σ : L2.St) (ε : Env) (v : V) (p : PV), Le W0 W → Rel M W H S → Er M W σ ε → Rp M W v p → wipe σ vs = wipe σ0 vs → ∀ N : L2.St → Hp → Prop, OPost (g p ε S) (enG M W H fun σ' H' => wipe σ' vs = wipe σ0 vs → N σ' H') noX → t v σ H N
def RTns (M : Md) (W0 : Wd) (ix : List Nat) (t : TGs) (g : List PV → Env → Sta → Out Env) : Prop := ∀ (W : Wd) (H : Hp) (S : Sta) (σ0 σ : L2.St) (ε : Env) (vs : List V) (ps : List PV), Le W0 W → Rel M W H S → Er M W σ ε → RpA M W vs ps → wipe σ ix = wipe σ0 ix → ∀ N : L2.St → Hp → Prop, OPost (g ps ε S) (enG M W H fun σ' H' => wipe σ' ix = wipe σ0 ix → N σ' H') noX → t vs σ H N
theorem rn_name {vs : List Nat} {i : Nat} (hi : i ∈ vs) : RTn M W0 vs (gName i) (NameG i) := fun W H S σ0 σ ε v p le r er rp hw N q => q _ W H (.refl W H) r (er.set rp) (wipe_set hi hw)
theorem rns_nil {ix : List Nat} : RTns M W0 ix gNil NilG := fun W H S σ0 σ ε vs ps le r er rp hw N q => by
  cases rp with
  | nil => exact ⟨rfl, q σ W H (.refl W H) r er hw⟩
  | cons => exact q.elim
theorem rns_cons {ix : List Nat} {t : TG} {u : TGs} {g : MG} {gs : List PV → Env → Sta → Out Env} (h : RTn M W0 ix t g) (k : RTns M W0 ix u gs) : RTns M W0 ix (gCons t u) (ConsG g gs) := fun W H S σ0 σ ε vs ps le r er rp hw N q => by
  cases rp with
  | nil => exact q.elim
  | cons h1 h2 =>
    refine ⟨_, _, rfl, h W H S σ0 σ ε _ _ le r er h1 hw _ ?_⟩
    unfold ConsG at q
    dsimp only at q
    rw [opost_bind] at q
    exact q.mono (fun ε1 S1 q σ1 W1 H1 g1 r1 er1 hw1 => k W1 H1 S1 σ0 σ1 ε1 _ _ (le.trans g1.le) r1 er1 (rpa_up g1.le _ _ h2) hw1 N (q.mono (fun ε2 S2 q => enG.up q g1) fun _ _ _ z => z)) fun _ _ _ z => z
theorem rn_tup {ix : List Nat} {n : Nat} {u : TGs} {gs : List PV → Env → Sta → Out Env} (k : RTns M W0 ix u gs) : RTn M W0 ix (gTup M.K n u) (TupG n gs) := fun W H S σ0 σ ε v p le r er rp hw N q => by
  unfold TupG at q
  split at q
  · rename_i ps
    obtain ⟨z, q⟩ := ite_post q
    cases rp with
    | tup hs ha => exact ⟨_, _, rfl, seqT_up r.i hs, by rw [rpa_len ha]; exact z, k W H S σ0 σ ε _ _ le r er ha hw N q⟩
  · exact q.elim
def YesT : Env → Sta → Out Bool := fun _ S => .ok true S
theorem rt_yes : RT M W0 X tYes YesT := fun W H S σ ε le r er Q q => q true W H (.refl W H) r rfl
def lcLoop (g : MG) (mc : Env → Sta → Out Bool) (me : Env → Sta → Out PV) (pins : List (Nat × List PV)) (ε : Env) : List PV → List PV → Sta → Out (List PV)
  | [], acc, S => if pinsOk S pins = true then .ok acc S else .stuck
  | x :: xs, acc, S => if pinsOk S pins = true then (quiet (g x ε S)).bind fun ε1 S1 => (mc ε1 S1).bind fun b S2 => if b = true then (me ε1 S2).bind fun y S3 => (if acc.length < 100000 then lcLoop g mc me pins ε xs (acc ++ [y]) S3 else .stuck) else lcLoop g mc me pins ε xs acc S2 else .stuck
def LcA (mi : Env → Sta → Out IT) (g : MG) (mc : Env → Sta → Out Bool) (me : Env → Sta → Out PV) (vs : List Nat) : Env → Sta → Out (List PV) := fun ε S => (mi ε S).bind fun it S1 => lcLoop g mc me it.pins (wipeP ε vs) it.xs [] S1
def LcE (mi : Env → Sta → Out IT) (g : MG) (mc : Env → Sta → Out Bool) (me : Env → Sta → Out PV) (vs : List Nat) : Env → Sta → Out PV := fun ε S => (LcA mi g mc me vs ε S).bind fun acc S2 => .ok (.lst acc) S2
def LcM (mi : Env → Sta → Out IT) (g : MG) (mc : Env → Sta → Out Bool) (me : Env → Sta → Out PV) (vs : List Nat) : Env → Sta → Out PV := fun ε S => (LcA mi g mc me vs ε S).bind fun acc S2 => newL acc S2
structure LcI (M : Md) (W : Wd) (H : Hp) (W1 : Wd) (D : Addr) (S' : Sta) (acc : List PV) (W' : Wd) (H' : Hp) : Prop where
  g : Go W H W' H'
  l : Le W1 W'
  r : Rel M W' H' S'
  nb : W'.B D = none
  nr : Slot.own D ∉ W'.ρ
  at' : ∃ vs, H' D = some (.lst vs) ∧ RpA M W' vs acc
theorem LcI.step {D : Addr} {acc : List PV} {W2 : Wd} {H2 : Hp} (i : LcI M W H W1 D S acc W' H') (g : Go W' H' W2 H2) (r : Rel M W2 H2 S') : LcI M W H W1 D S' acc W2 H2 := by
  obtain ⟨vs, h1, h2⟩ := i.at'
  obtain ⟨x1, x2, x3⟩ := g.p D i.nb i.nr (by rw [h1]; intro z; cases z)
  exact ⟨i.g.trans g, i.l.trans g.le, r, x1, x2, vs, x3.trans h1, rpa_up g.le _ _ h2⟩
theorem re_lcA {wi : TI} {mi : Env → Sta → Out IT} {tg : TG} {g : MG} {vs : List Nat} {Xi : WX} {Q : VK} (hi : RI M W0 X wi mi) (hg : RTn M W0 vs tg g) (hc : RT M W0 Xi tt mt) (he : RE M W0 Xi te me) (hX : ∀ cls d σ σ' H, X cls d σ H → Xi cls d σ' H) (le : Le W0 W) (r : Rel M W H S) (er : Er M W σ ε)
    (q : OPost (LcA mi g mt me vs ε S) (fun acc S2 => ∀ (D : Addr) (W1 W' : Wd) (H' : Hp), H D = none → LcI M W H W1 D S2 acc W' H' → Q (.ref D) H') (exE M W H (atσ X σ))) : tLc wi tg tt te vs σ H Q := by
  unfold LcA at q
  refine hi.thn (.refl W H) le r er q fun J it S1 W1 H1 g1 r1 wk q1 => ?_
  intro D hD
  have hHD : H D = none ∨ H D ≠ none := by cases H D <;> simp
  have nbD := r1.none_b hD
  have nrD := r1.none_ρ hD
  have hD0 : H D = none := by
    cases e : H D with
    | none => rfl
    | some o =>
      exfalso
      by_cases hb : W.B D = none
      · by_cases hr : Slot.own D ∈ W.ρ
        · exact nrD (g1.ρ.subset hr)
        · have := (g1.p D hb hr (by rw [e]; intro z; cases z)).2.2
          rw [hD, e] at this; cases this
      · cases eb : W.B D with
        | none => exact hb eb
        | some o' => have := g1.b D o' eb; rw [nbD] at this; cases this
  obtain ⟨r1', gg⟩ := r1.priv (p := D) (o := .lst []) nbD nrD
  have i0 : LcI M W H W1 D S1 [] W1 (upd H1 D (.lst [])) := ⟨gg W H hD0 g1, Le.refl _, r1', nbD, nrD, [], upd_same, .nil⟩
  refine ⟨fun i m H' => m = it.xs.length - i ∧ i ≤ it.xs.length ∧ ∃ W' S' acc, LcI M W H W1 D S' acc W' H' ∧ OPost (lcLoop g mt me it.pins (wipeP ε vs) (it.xs.drop i) acc S') (fun acc S2 => ∀ (D : Addr) (W1 W' : Wd) (H' : Hp), H D = none → LcI M W H W1 D S2 acc W' H' → Q (.ref D) H') (exE M W H (atσ X σ)), ⟨_, rfl, Nat.zero_le _, W1, S1, [], i0, q1⟩, ?_⟩
  rintro i m H' ⟨rfl, hil, W', S', acc, hI, q'⟩
  by_cases hlt : i < it.xs.length
  · have hx : it.xs[i]? = some it.xs[i] := List.getElem?_eq_getElem hlt
    rw [List.drop_eq_getElem_cons hlt] at q'
    simp only [lcLoop] at q'
    obtain ⟨pk, q2⟩ := ite_post q'
    obtain ⟨wgo, _⟩ := wk W' H' S' i hI.l hI.r (pinned_of pk)
    obtain ⟨hgo, hyl⟩ := wgo _ hx
    refine .inr ⟨hgo, fun H2 => i + 1 ≤ it.xs.length ∧ ∃ W' S' acc, LcI M W H W1 D S' acc W' H2 ∧ OPost (lcLoop g mt me it.pins (wipeP ε vs) (it.xs.drop (i + 1)) acc S') (fun acc S2 => ∀ (D : Addr) (W1 W' : Wd) (H' : Hp), H D = none → LcI M W H W1 D S2 acc W' H' → Q (.ref D) H') (exE M W H (atσ X σ)), fun H2 p => ⟨it.xs.length - (i + 1), by omega, rfl, p⟩, fun v H2 hy => ?_⟩
    obtain ⟨W2, g2, r2, p2⟩ := hyl v H2 hy
    have I2 := hI.step g2 r2
    rw [opost_bind] at q2
    obtain ⟨ε1, S3, e, q3⟩ := quiet_post q2
    refine hg W2 H2 S' σ (wipe σ vs) (wipeP ε vs) v _ (le.trans I2.g.le) r2 ((er.up I2.g.le).wipe vs) p2 wipe_wipe _ ?_
    rw [e]
    intro σ3 W3 H3 g3 r3 er3 hw3
    have I3 := I2.step g3 r3
    refine ⟨hw3, ?_⟩
    rw [opost_bind] at q3
    refine hc W3 H3 S3 σ3 ε1 (le.trans I3.g.le) r3 er3 _ (q3.mono (fun b S4 q4 b' W4 H4 g4 r4 p4 => ?_) fun c xs S4 z d W4 H4 g4 r4 xd => hX _ _ _ _ _ (z d W4 H4 (I3.g.trans g4) r4 xd))
    cases p4
    have I4 := I3.step g4 r4
    cases b with
    | true =>
      refine iteT ?_
      rw [if_pos rfl] at q4
      have q5 := q4
      rw [opost_bind] at q5
      refine he W4 H4 S4 σ3 ε1 (le.trans I4.g.le) r4 (er3.up g4.le) _ (q5.mono (fun y S5 q6 w W5 H5 g5 r5 p5 => ?_) fun c xs S5 z d W5 H5 g5 r5 xd => hX _ _ _ _ _ (z d W5 H5 (I4.g.trans g5) r5 xd))
      have I5 := I4.step g5 r5
      obtain ⟨hz, q7⟩ := ite_post q6
      obtain ⟨us, b1, b2⟩ := I5.at'
      obtain ⟨r6, gp⟩ := r5.priv (p := D) (o := .lst (us ++ [w])) I5.nb I5.nr
      exact ⟨us, b1, Nat.lt_of_lt_of_le (by rw [rpa_len b2]; exact hz) (by decide), hlt, W5, S5, acc ++ [y], ⟨gp W H hD0 I5.g, I5.l, r6, I5.nb, I5.nr, _, upd_same, rpa_app b2 (.cons p5 .nil)⟩, q7⟩
    | false => exact iteF ⟨hlt, W4, S4, acc, I4, q4⟩
  · have hie : i = it.xs.length := by omega
    rw [hie, List.drop_length] at q'
    simp only [lcLoop] at q'
    obtain ⟨pk, q2⟩ := ite_post q'
    obtain ⟨_, wst⟩ := wk W' H' S' i hI.l hI.r (pinned_of pk)
    exact .inl ⟨wst hie, q2 D W1 W' H' hD0 hI⟩
theorem re_lc {wi : TI} {mi : Env → Sta → Out IT} {tg : TG} {g : MG} {vs : List Nat} {Xi : WX} (hi : RI M W0 X wi mi) (hg : RTn M W0 vs tg g) (hc : RT M W0 Xi tt mt) (he : RE M W0 Xi te me) (hX : ∀ cls d σ σ' H, X cls d σ H → Xi cls d σ' H) : RE M W0 X (tLc wi tg tt te vs) (LcE mi g mt me vs) := fun W H S σ ε le r er Q q => by
  unfold LcE at q
  rw [opost_bind] at q
  refine re_lcA hi hg hc he hX le r er (q.mono (fun acc S2 q D W1 W' H' hD I => ?_) fun _ _ _ z => z)
  obtain ⟨us, b1, b2⟩ := I.at'
  obtain ⟨r2, g2⟩ := I.r.adopt b1 I.nb I.nr
  have gg := g2 W H hD I.g
  have lw : Le W' ⟨upd W'.B D (.lst us), W'.ρ⟩ := ⟨fun a u z => by show upd W'.B D (.lst us) a = some u; rw [upd_ne (ne_of_none z I.nb)]; exact z, List.prefix_refl _⟩
  exact q _ _ H' gg r2 (.lst upd_same (rpa_up lw _ _ b2))
theorem re_lcM {wi : TI} {mi : Env → Sta → Out IT} {tg : TG} {g : MG} {vs : List Nat} {Xi : WX} (hi : RI M W0 X wi mi) (hg : RTn M W0 vs tg g) (hc : RT M W0 Xi tt mt) (he : RE M W0 Xi te me) (hX : ∀ cls d σ σ' H, X cls d σ H → Xi cls d σ' H) : RE M W0 X (tLc wi tg tt te vs) (LcM mi g mt me vs) := fun W H S σ ε le r er Q q => by
  unfold LcM at q
  rw [opost_bind] at q
  refine re_lcA hi hg hc he hX le r er (q.mono (fun acc S2 q D W1 W' H' hD I => ?_) fun _ _ _ z => z)
  obtain ⟨us, b1, b2⟩ := I.at'
  have lw : Le W' ⟨W'.B, W'.ρ ++ [.own D]⟩ := ⟨Same.refl _, List.prefix_append _ _⟩
  obtain ⟨r2, g2⟩ := I.r.adoptC (c := .lst acc) b1 I.nr ⟨I.nb, us, b1, rpa_up lw _ _ b2⟩
  refine q _ _ H' (g2 W H hD I.g) r2 (.mu ?_)
  rw [← I.r.len]
  simp
end
end Fx
namespace Fx
open PySem PySem.Spec PyProof.Rows L2 Co
section
variable {M : Md} {W W' Wa W0 W1 : Wd} {H H' Ha H1 : Hp} {S S' : Sta} {σ : L2.St} {ε : Env} {X : WX}
variable {ta tb tc te : TE} {ma mb mc me : Env → Sta → Out PV} {tt uu : TT} {mt mu : Env → Sta → Out Bool} {ts tr : TA} {ms mr : Env → Sta → Out (List PV)}
/-! ### more operators -/
def scalP : PV → PV → Option Bool
  | .int i, .int j => some (decide (i = j))
  | .str i, .str j => some (decide (i = j))
  | .bl i, .bl j => some (decide (i = j))
  | _, _ => none
def fEqA : F2 := fun S x y => match scalP x y with
  | some b => some (.bl b)
  | none => fEq S x y
def fNeA : F2 := fun S x y => match scalP x y with
  | some b => some (.bl (!b))
  | none => fNe S x y
theorem scalP_ok {u v : V} {x y : PV} {b : Bool} (hx : Rp M W u x) (hy : Rp M W v y) (e : scalP x y = some b) : ∀ H : Hp, scal u v = true ∧ decide (u = v) = b := by
  cases hx <;> first | (cases e; done) | skip
  · cases hy <;> first | (cases e; done) | skip
    simp only [scalP, Option.some.injEq] at e
    subst e
    exact fun _ => ⟨rfl, by simp⟩
  · cases hy <;> first | (cases e; done) | skip
    simp only [scalP, Option.some.injEq] at e
    subst e
    exact fun _ => ⟨rfl, by simp⟩
  · cases hy <;> first | (cases e; done) | skip
    simp only [scalP, Option.some.injEq] at e
    subst e
    exact fun _ => ⟨rfl, by simp⟩
theorem k_eqA : K2 M (rEqA M.K) fEqA := fun W H S u v x y p r hx hy e Q q => by
  unfold fEqA at e
  split at e
  · rename_i b eb
    cases e
    obtain ⟨h1, h2⟩ := scalP_ok hx hy eb H
    exact .inr ⟨h1, by rw [h2]; exact okG_end r (.bl _) q⟩
  · exact .inl (k_eqD W H S u v x y p r hx hy e Q q)
theorem k_neA : K2 M (rNeA M.K) fNeA := fun W H S u v x y p r hx hy e Q q => by
  unfold fNeA at e
  split at e
  · rename_i b eb
    cases e
    obtain ⟨h1, h2⟩ := scalP_ok hx hy eb H
    exact .inr ⟨h1, by rw [h2]; exact okG_end r (.bl _) q⟩
  · exact .inl (k_neD W H S u v x y p r hx hy e Q q)
abbrev fPow : F2 := fI (fun i j => 0 ≤ j ∧ j ≤ 1000000 ∧ i.natAbs < 18446744073709551616) fun i j => .int (i ^ j.toNat)
theorem k_pow : K2 M (rI CPow fun i j => .int (i ^ j.toNat)) fPow := k_I (fun _ _ h => by
  have e : (2 : Nat) ^ 64 = 18446744073709551616 := by decide
  unfold CPow
  rw [e]
  exact h) fun _ _ _ => .int _
def fInS : F2 := fun S x y => match x, y with
  | .str c, .str z => match c.cps.toList with
    | [n] => some (.bl (decide (n ∈ z.cps.toList)))
    | _ => none
  | _, _ => none
theorem k_inS : K2 M rInS fInS := fun W H S u v x y p r hx hy e Q q => by
  unfold fInS at e
  split at e
  · rename_i c z
    cases hx; cases hy
    split at e
    · rename_i n en
      cases e
      have : c = ⟨#[n]⟩ := by
        cases c with
        | mk cps =>
          congr 1
          apply Array.ext'
          simpa using en
      subst this
      exact ⟨n, z, rfl, rfl, okG_end r (.bl _) q⟩
    · cases e
  · cases e
def fIsB : F2 := fun S x y => match x, y with
  | .bl a, .bl b => some (.bl (decide (a = b)))
  | _, _ => none
theorem k_isB : K2 M rIsB fIsB := fun W H S u v x y p r hx hy e Q q => by
  unfold fIsB at e
  split at e
  · cases e
    cases hx; cases hy
    exact ⟨_, _, rfl, rfl, okG_end r (.bl _) q⟩
  · cases e
def NegE (me : Env → Sta → Out PV) : Env → Sta → Out PV := fun ε S => (me ε S).bind fun x S1 => match x with
  | .int i => .ok (.int (-i)) S1
  | _ => .stuck
theorem re_neg (h : RE M W0 X te me) : RE M W0 X (tUn (rU fun i => V.int (-i)) te) (NegE me) := fun W H S σ ε le r0 er Q q =>
  h.thn (.refl W H) le r0 er q fun v p S1 W1 H1 g1 r1 p1 q1 => by
    split at q1
    · cases p1
      exact ⟨_, rfl, q1 _ W1 H1 g1 r1 (.int _)⟩
    · exact q1.elim
theorem rpa_intsP {ns : List Int} : RpA M W (ns.map V.int) (ns.map .int) := by
  induction ns with
  | nil => exact .nil
  | cons n ns ih => exact .cons (.int n) ih
/-- list(range(n)) -/
def LrgE (me : Env → Sta → Out PV) : Env → Sta → Out PV := fun ε S => (me ε S).bind fun x S1 => match x with
  | .int n => if -1000 ≤ n ∧ n ≤ 90000 then .ok (.lst (intsP 0 n.toNat)) S1 else .stuck
  | _ => .stuck
theorem re_lrg (h : RE M W0 X te me) : RE M W0 X (tLstRg (tRg1 te)) (LrgE me) := fun W H S σ ε le r0 er Q q =>
  h.thn (.refl W H) le r0 er q fun v p S1 W1 H1 g1 r1 p1 q1 => by
    split at q1
    · rename_i n
      obtain ⟨z, q2⟩ := ite_post q1
      cases p1
      refine ⟨n, rfl, ⟨by omega, by omega, by omega, by omega, by omega⟩, new_lst g1 r1 (xs := intsP 0 n.toNat) ?_ q2⟩
      have hv : rgV 0 n = ((List.range n.toNat).map fun (i : Nat) => (i : Int)).map V.int := by simp [rgV]
      have hd : intsP 0 n.toNat = ((List.range n.toNat).map fun (i : Nat) => (i : Int)).map PV.int := by simp [intsP]
      rw [hv, hd]
      exact rpa_intsP
    · exact q1.elim
/-- tuple(reversed(l)) -/
def TrvE (me : Env → Sta → Out PV) : Env → Sta → Out PV := fun ε S => (me ε S).bind fun x S1 => match look S1 x with
  | .lst xs => .ok (.tup xs.reverse) S1
  | _ => .stuck
theorem rpa_rev {vs : List V} {ps : List PV} (h : RpA M W vs ps) : RpA M W vs.reverse ps.reverse := by
  induction vs generalizing ps with
  | nil => cases h; exact .nil
  | cons v vs ih => cases h with | cons h1 h2 => rw [List.reverse_cons, List.reverse_cons]; exact rpa_app (ih h2) (.cons h1 .nil)
theorem re_trv (h : RE M W0 X te me) : RE M W0 X (RT.tTupRev M.K te) (TrvE me) := fun W H S σ ε le r0 er Q q =>
  h.thn (.refl W H) le r0 er q fun v p S1 W1 H1 g1 r1 p1 q1 => by
    split at q1
    · rename_i xs e
      obtain ⟨a, vs, rfl, h1, h2⟩ := look_lst r1 p1 e
      exact ⟨a, vs, rfl, h1, new_tup g1 r1 (rpa_rev h2) q1⟩
    · exact q1.elim
/-- p.append(e), p a list that may change -/
def AppE (mo me : Env → Sta → Out PV) : Env → Sta → Out PV := fun ε S => (mo ε S).bind fun o S1 => match o with
  | .mu n => match S1[n]? with
    | some (.lst _) => (me ε S1).bind fun p S2 => match S2[n]? with
      | some (.lst xs) => if xs.length < 100000 then .ok .non (S2.set n (.lst (xs ++ [p]))) else .stuck
      | _ => .stuck
    | _ => .stuck
  | _ => .stuck
theorem re_app (ho : RE M W0 X ta ma) (h : RE M W0 X te me) : RE M W0 X (tBM M.K "list" rAppend ta (tCons te tNil)) (AppE ma me) := fun W H S σ ε le r0 er Q q =>
  ho.thn (.refl W H) le r0 er q fun v o S1 W1 H1 g1 r1 p1 q1 => by
    split at q1
    · rename_i n
      cases p1 with
      | @mu _ a hm =>
        split at q1
        · rename_i ys ey
          obtain ⟨_, us, b1, _⟩ := r1.c n a _ hm ey
          refine ⟨.inl ⟨rfl, us, SqL.of b1⟩, ?_⟩
          refine h.thn g1 le r1 er q1 fun w p S2 W2 H2 g2 r2 p2 q2 => ?_
          split at q2
          · rename_i xs ex
            obtain ⟨z, q3⟩ := ite_post q2
            have hm2 := pre_get g2.ρ hm
            obtain ⟨nb, vs, c1, c2⟩ := r2.c n a _ hm2 ex
            obtain ⟨r3, g3⟩ := r2.put (o := .lst (vs ++ [w])) (c := .lst (xs ++ [p])) hm2 nb ⟨nb, _, upd_same, rpa_app c2 (.cons p2 .nil)⟩
            exact ⟨a, vs, w, rfl, rfl, c1, Nat.lt_of_lt_of_le (by rw [rpa_len c2]; exact z) (by decide), q3 _ W2 _ ((g1.trans g2).trans g3) r3 .non⟩
          · exact q2.elim
        · exact q1.elim
    · exact q1.elim
/-! ### leaving a scope: what was made within it never changes again, and its cells go -/
mutual
def clean (k : Nat) : PV → Bool
  | .tup xs => cleans k xs
  | .lst xs => cleans k xs
  | .kls xs => cleans k xs
  | .obj _ _ xs => cleans k xs
  | .mu n => decide (n < k)
  | .xv n => decide (n < k)
  | _ => true
def cleans (k : Nat) : List PV → Bool
  | [] => true
  | p :: ps => clean k p && cleans k ps
end
mutual
def frz (k : Nat) (S : Sta) : PV → Option PV
  | .tup xs => (frzs k S xs).map .tup
  | .lst xs => (frzs k S xs).map .lst
  | .kls xs => (frzs k S xs).map .kls
  | .obj c ns xs => (frzs k S xs).map (.obj c ns)
  | .mu n => if n < k then some (.mu n) else match S[n]? with
    | some (.lst xs) => if cleans k xs = true then some (.lst xs) else none
    | some (.obj c ns xs) => if cleans k xs = true then some (.obj c ns xs) else none
    | _ => none
  | .xv n => if n < k then some (.xv n) else none
  | p => some p
def frzs (k : Nat) (S : Sta) : List PV → Option (List PV)
  | [] => some []
  | p :: ps => match frz k S p, frzs k S ps with
    | some q, some qs => some (q :: qs)
    | _, _ => none
end
def frzC (k : Nat) (S : Sta) : Cell → Option Cell
  | .lst xs => (frzs k S xs).map .lst
  | .obj c ns xs => (frzs k S xs).map (.obj c ns)
  | .dead => some .dead
def frzCs (k : Nat) (S : Sta) : List Cell → Option (List Cell)
  | [] => some []
  | c :: cs => match frzC k S c, frzCs k S cs with
    | some q, some qs => some (q :: qs)
    | _, _ => none
/-- values and state, when the cells from k on go -/
def leave (k : Nat) (ps : List PV) (S : Sta) : Option (List PV × Sta) := if S.length ≤ k then some (ps, S) else match frzs k S ps, frzCs k S (S.take k) with
  | some qs, some T => some (qs, T)
  | _, _ => none
/-- the cells that stay as they are -/
def still (k : Nat) (S : Sta) (n : Nat) : Prop := k ≤ n ∧ match S[n]? with
  | some (.lst xs) => cleans k xs = true
  | some (.obj _ _ xs) => cleans k xs = true
  | _ => False
open Classical in
noncomputable def shut (W : Wd) (H : Hp) (S : Sta) (k : Nat) : Wd := ⟨fun a => if ∃ n, W.ρ[n]? = some (.own a) ∧ still k S n then H a else W.B a, W.ρ.take k⟩
theorem shut_b (r : Rel M W H S) (k : Nat) : Same W.B (shut W H S k).B := fun a o q => by
  unfold shut
  dsimp only
  split
  · exact r.i a o q
  · exact q
theorem take_get {α : Type} {xs : List α} {k n : Nat} {a : α} (h : xs[n]? = some a) (hk : n < k) : (xs.take k)[n]? = some a := by
  rw [List.getElem?_take, if_pos hk]; exact h
theorem get_take {α : Type} {xs : List α} {k n : Nat} {a : α} (h : (xs.take k)[n]? = some a) : n < k ∧ xs[n]? = some a := by
  rw [List.getElem?_take] at h
  by_cases z : n < k
  · rw [if_pos z] at h; exact ⟨z, h⟩
  · rw [if_neg z] at h; cases h
mutual
theorem clean_rp (r : Rel M W H S) (k : Nat) : ∀ (p : PV) (v : V), Rp M W v p → clean k p = true → Rp M (shut W H S k) v p
  | .non, _, h, _ => by cases h; exact .non
  | .bl b, _, h, _ => by cases h; exact .bl b
  | .int i, _, h, _ => by cases h; exact .int i
  | .str z, _, h, _ => by cases h; exact .str z
  | .tup xs, _, h, c => by
    cases h with
    | tup hs ha => exact .tup (seqT_up (shut_b r k) hs) (cleans_rp r k xs _ ha (by simpa only [clean] using c))
  | .lst xs, _, h, c => by
    cases h with
    | lst hs ha => exact .lst (shut_b r k _ _ hs) (cleans_rp r k xs _ ha (by simpa only [clean] using c))
  | .kls xs, _, h, c => by
    cases h with
    | kls hs ha => exact .kls ((shut_b r k).seq hs) (cleans_rp r k xs _ ha (by simpa only [clean] using c))
  | .obj _ _ xs, _, h, c => by
    cases h with
    | obj h1 h3 ha => exact .obj (h1.up (shut_b r k)) h3 (cleans_rp r k xs _ ha (by simpa only [clean] using c))
  | .mu n, _, h, c => by
    cases h with
    | mu h => exact .mu (take_get h (by simpa only [clean, decide_eq_true_eq] using c))
  | .xv n, _, h, c => by
    cases h with
    | xv h => exact .xv (take_get h (by simpa only [clean, decide_eq_true_eq] using c))
  | .dct, _, h, _ => by
    cases h with
    | dct h => exact .dct (shut_b r k _ _ h)
theorem cleans_rp (r : Rel M W H S) (k : Nat) : ∀ (ps : List PV) (vs : List V), RpA M W vs ps → cleans k ps = true → RpA M (shut W H S k) vs ps
  | [], _, h, _ => by cases h; exact .nil
  | p :: ps, _, h, c => by
    cases h with
    | cons h1 h2 =>
      simp only [cleans, Bool.and_eq_true] at c
      exact .cons (clean_rp r k p _ h1 c.1) (cleans_rp r k ps _ h2 c.2)
end
theorem shut_at (r : Rel M W H S) {k n : Nat} {a : Addr} (h : W.ρ[n]? = some (.own a)) (st : still k S n) : (shut W H S k).B a = H a := by
  unfold shut
  dsimp only
  rw [if_pos ⟨n, h, st⟩]
mutual
theorem frz_rp (r : Rel M W H S) (k : Nat) : ∀ (p q : PV) (v : V), Rp M W v p → frz k S p = some q → Rp M (shut W H S k) v q
  | .non, _, _, h, e => by simp only [frz, Option.some.injEq] at e; subst e; cases h; exact .non
  | .bl b, _, _, h, e => by simp only [frz, Option.some.injEq] at e; subst e; cases h; exact .bl b
  | .int i, _, _, h, e => by simp only [frz, Option.some.injEq] at e; subst e; cases h; exact .int i
  | .str z, _, _, h, e => by simp only [frz, Option.some.injEq] at e; subst e; cases h; exact .str z
  | .tup xs, _, _, h, e => by
    simp only [frz] at e
    obtain ⟨ys, e1, rfl⟩ := Option.map_eq_some_iff.mp e
    cases h with
    | tup hs ha => exact .tup (seqT_up (shut_b r k) hs) (frzs_rp r k xs ys _ ha e1)
  | .lst xs, _, _, h, e => by
    simp only [frz] at e
    obtain ⟨ys, e1, rfl⟩ := Option.map_eq_some_iff.mp e
    cases h with
    | lst hs ha => exact .lst (shut_b r k _ _ hs) (frzs_rp r k xs ys _ ha e1)
  | .kls xs, _, _, h, e => by
    simp only [frz] at e
    obtain ⟨ys, e1, rfl⟩ := Option.map_eq_some_iff.mp e
    cases h with
    | kls hs ha => exact .kls ((shut_b r k).seq hs) (frzs_rp r k xs ys _ ha e1)
  | .obj c ns xs, _, _, h, e => by
    simp only [frz] at e
    obtain ⟨ys, e1, rfl⟩ := Option.map_eq_some_iff.mp e
    cases h with
    | obj h1 h3 ha =>
      have hr := frzs_rp r k xs ys _ ha e1
      exact .obj (h1.up (shut_b r k)) (by rw [h3, ← rpa_len ha, rpa_len hr]) hr
  | .mu n, q, v, h, e => by
    simp only [frz] at e
    cases h with
    | @mu _ a h =>
      by_cases z : n < k
      · rw [if_pos z] at e
        cases e
        exact .mu (take_get h z)
      · rw [if_neg z] at e
        split at e
        · rename_i xs es
          obtain ⟨hc, rfl⟩ := ite_some e
          obtain ⟨nb, vs, h1, h2⟩ := r.c n a _ h es
          have st : still k S n := ⟨by omega, by rw [es]; exact hc⟩
          exact .lst ((shut_at r h st).trans h1) (cleans_rp r k xs vs h2 hc)
        · rename_i c ns xs es
          obtain ⟨hc, rfl⟩ := ite_some e
          obtain ⟨nb, er, l, dx, vs, h1, h2, h3⟩ := r.c n a _ h es
          have st : still k S n := ⟨by omega, by rw [es]; exact hc⟩
          exact .obj (.inl ⟨er, dx, (shut_at r h st).trans h1, shut_b r k _ _ h2⟩) l (cleans_rp r k xs vs h3 hc)
        · cases e
  | .xv n, q, v, h, e => by
    simp only [frz] at e
    obtain ⟨z, rfl⟩ := ite_some e
    cases h with
    | xv h => exact .xv (take_get h z)
  | .dct, q, v, h, e => by
    simp only [frz, Option.some.injEq] at e
    subst e
    cases h with
    | dct h => exact .dct (shut_b r k _ _ h)
theorem frzs_rp (r : Rel M W H S) (k : Nat) : ∀ (ps qs : List PV) (vs : List V), RpA M W vs ps → frzs k S ps = some qs → RpA M (shut W H S k) vs qs
  | [], _, _, h, e => by simp only [frzs, Option.some.injEq] at e; subst e; cases h; exact .nil
  | p :: ps, qs, _, h, e => by
    cases h with
    | cons h1 h2 =>
      simp only [frzs] at e
      split at e
      · rename_i q qs' e1 e2
        cases e
        exact .cons (frz_rp r k p q _ h1 e1) (frzs_rp r k ps qs' _ h2 e2)
      · cases e
end
theorem frzCs_get {k : Nat} : ∀ {cs T : List Cell} {n : Nat} {c : Cell}, frzCs k S cs = some T → T[n]? = some c → ∃ c0, cs[n]? = some c0 ∧ frzC k S c0 = some c
  | [], T, n, c, e, h => by simp only [frzCs, Option.some.injEq] at e; subst e; simp at h
  | c1 :: cs, T, n, c, e, h => by
    simp only [frzCs] at e
    split at e
    · rename_i q qs e1 e2
      cases e
      cases n with
      | zero => simp at h; subst h; exact ⟨c1, by simp, e1⟩
      | succ n => simp at h; obtain ⟨c0, a, b⟩ := frzCs_get e2 h; exact ⟨c0, by simpa using a, b⟩
    · cases e
theorem frzCs_len {k : Nat} : ∀ {cs T : List Cell}, frzCs k S cs = some T → T.length = cs.length
  | [], T, e => by simp only [frzCs, Option.some.injEq] at e; subst e; rfl
  | c1 :: cs, T, e => by
    simp only [frzCs] at e
    split at e
    · rename_i q qs e1 e2
      cases e
      simp [frzCs_len e2]
    · cases e
theorem shut_rel (r : Rel M W H S) {k : Nat} {T : Sta} (hk : k ≤ S.length) (e : frzCs k S (S.take k) = some T) : Rel M (shut W H S k) H T := by
  have notstill : ∀ {n : Nat} {a : Addr}, n < k → W.ρ[n]? = some (.own a) → (shut W H S k).B a = W.B a := fun {n a} hn h => by
    unfold shut
    dsimp only
    rw [if_neg]
    rintro ⟨m, h1, h2⟩
    have := r.nd n m a h h1
    have := h2.1
    omega
  refine ⟨fun a o q => ?_, ?_, fun n m a h1 h2 => ?_, fun a h => ?_, fun n a c h1 h2 => ?_⟩
  · unfold shut at q
    dsimp only at q
    split at q
    · exact q
    · exact r.i a o q
  · rw [frzCs_len e, List.length_take]
    show (W.ρ.take k).length = _
    rw [List.length_take, r.len]
  · exact r.nd n m a (get_take h1).2 (get_take h2).2
  · exact r.al a (List.mem_of_mem_take h)
  · obtain ⟨hn, h1'⟩ := get_take h1
    obtain ⟨c0, f1, f2⟩ := frzCs_get e h2
    obtain ⟨_, f1'⟩ := get_take f1
    have base := r.c n a c0 h1' f1'
    cases c0 with
    | lst xs =>
      simp only [frzC] at f2
      obtain ⟨ys, e1, rfl⟩ := Option.map_eq_some_iff.mp f2
      obtain ⟨nb, vs, b1, b2⟩ := base
      exact ⟨(notstill hn h1').trans nb, vs, b1, frzs_rp r k xs ys vs b2 e1⟩
    | obj c1 ns xs =>
      simp only [frzC] at f2
      obtain ⟨ys, e1, rfl⟩ := Option.map_eq_some_iff.mp f2
      obtain ⟨nb, er, l, dx, vs, b1, b2, b3⟩ := base
      have hr := frzs_rp r k xs ys vs b3 e1
      exact ⟨(notstill hn h1').trans nb, er, by rw [l, ← rpa_len b3, rpa_len hr], dx, vs, b1, shut_b r k _ _ b2, hr⟩
    | dead =>
      simp only [frzC, Option.some.injEq] at f2
      subst f2
      exact trivial
theorem shut_go (r : Rel M W H S) {k : Nat} (hk : Wa.ρ.length = k) (g : Go Wa Ha W H) : Go Wa Ha (shut W H S k) H := by
  refine ⟨g.b.trans (shut_b r k), ?_, fun a q1 q2 q3 => ?_⟩
  · obtain ⟨t, ht⟩ := g.ρ
    show Wa.ρ <+: W.ρ.take k
    rw [← ht, ← hk, List.take_left']
    · exact List.prefix_refl _
    · rfl
  · obtain ⟨x1, x2, x3⟩ := g.p a q1 q2 q3
    refine ⟨?_, fun h => x2 (List.mem_of_mem_take h), x3⟩
    unfold shut
    dsimp only
    rw [if_neg]
    · exact x1
    · rintro ⟨n, h1, _⟩
      exact x2 (List.mem_of_getElem? h1)
theorem leave_rp {k : Nat} {ps qs : List PV} {T : Sta} {vs : List V} (r : Rel M W H S) (hk : Wa.ρ.length = k) (g : Go Wa Ha W H) (h : RpA M W vs ps) (e : leave k ps S = some (qs, T)) : ∃ W', Go Wa Ha W' H ∧ Rel M W' H T ∧ RpA M W' vs qs ∧ Le W ⟨W'.B, W.ρ⟩ ∧ (∀ (n : Nat) (x : Slot), n < k → W.ρ[n]? = some x → W'.ρ[n]? = some x) := by
  unfold leave at e
  by_cases z : S.length ≤ k
  · rw [if_pos z] at e
    cases e
    exact ⟨W, g, r, h, Le.refl _, fun _ _ _ q => q⟩
  · rw [if_neg z] at e
    split at e
    · rename_i q' T' e1 e2
      cases e
      exact ⟨shut W H S k, shut_go r hk g, shut_rel r (by omega) e2, frzs_rp r k ps _ vs h e1, ⟨shut_b r k, List.prefix_refl _⟩, fun n x hn q => take_get q hn⟩
    · cases e
end
end Fx
namespace Fx
open PySem PySem.Spec PyProof.Rows L2 Co
section
variable {M : Md} {W W' Wa W0 W1 : Wd} {H H' Ha H1 : Hp} {S S' : Sta} {σ : L2.St} {ε : Env} {X : WX}
variable {ta tb tc te : TE} {ma mb mc me : Env → Sta → Out PV} {tt uu : TT} {mt mu : Env → Sta → Out Bool} {ts tr : TA} {ms mr : Env → Sta → Out (List PV)}
/-! ### a scope within a def: a loop's turn -/
def frzO (k : Nat) (S : Sta) : Option PV → Option PV
  | some p => frz k S p
  | none => none
def leaveE (k : Nat) (ε : Env) (S : Sta) : Option (Env × Sta) := if S.length ≤ k then some (ε, S) else match frzCs k S (S.take k) with
  | some T => some (ε.map (frzO k S), T)
  | none => none
theorem Er.shut (r : Rel M W H S) (k : Nat) (h : Er M W σ ε) : Er M (shut W H S k) σ (ε.map (frzO k S)) := ⟨by rw [h.len, List.length_map], fun i p q => by
  rw [List.getElem?_map] at q
  obtain ⟨x, h1, h2⟩ := Option.map_eq_some_iff.mp q
  cases x with
  | none => cases h2
  | some p0 =>
    obtain ⟨v, a, b⟩ := h.get i p0 h1
    exact ⟨v, a, frz_rp r k p0 p v b h2⟩⟩
theorem leaveE_ok {k : Nat} {ε' : Env} {T : Sta} (r : Rel M W H S) (hk : Wa.ρ.length = k) (g : Go Wa Ha W H) (er : Er M W σ ε) (e : leaveE k ε S = some (ε', T)) : ∃ W', Go Wa Ha W' H ∧ Rel M W' H T ∧ Er M W' σ ε' := by
  unfold leaveE at e
  by_cases z : S.length ≤ k
  · rw [if_pos z] at e
    cases e
    exact ⟨W, g, r, er⟩
  · rw [if_neg z] at e
    split at e
    · rename_i T' e2
      cases e
      exact ⟨Fx.shut W H S k, shut_go r hk g, shut_rel r (by omega) e2, er.shut r k⟩
    · cases e
def scopeS (m : Env → Sta → Flow) : Env → Sta → Flow := fun ε S => match m ε S with
  | .nx ε' S' => match leaveE S.length ε' S' with
    | some x => .nx x.1 x.2
    | none => .stuck
  | .ct ε' S' => match leaveE S.length ε' S' with
    | some x => .ct x.1 x.2
    | none => .stuck
  | .bk ε' S' => match leaveE S.length ε' S' with
    | some x => .bk x.1 x.2
    | none => .stuck
  | f => f
theorem RS.scope {t : TS} {m : Env → Sta → Flow} (h : RS M W0 X t m) : RS M W0 X t (scopeS m) := fun W H S σ ε le r er D q => by
  refine h W H S σ ε le r er D ?_
  unfold scopeS at q
  have key : ∀ {N : L2.St → Hp → Prop} {ε' : Env} {S' : Sta} {x : Env × Sta}, leaveE S.length ε' S' = some x → enG M W H N x.1 x.2 → enG M W H N ε' S' := fun {N ε' S' x} e q σ' W' H' g' r' er' => by
    obtain ⟨W2, g2, r2, er2⟩ := leaveE_ok r' r.len g' er' e
    exact q σ' W2 H' g2 r2 er2
  cases e : m ε S with
  | nx ε' S' =>
    rw [e] at q
    dsimp only at q
    split at q
    · rename_i x ex; exact key ex q
    · exact q.elim
  | ct ε' S' =>
    rw [e] at q
    dsimp only at q
    split at q
    · rename_i x ex; exact key ex q
    · exact q.elim
  | bk ε' S' =>
    rw [e] at q
    dsimp only at q
    split at q
    · rename_i x ex; exact key ex q
    · exact q.elim
  | rt p S' => rw [e] at q; exact q
  | ex c xs ε' S' => rw [e] at q; exact q
  | stuck => rw [e] at q; exact q
/-! ### defs -/
def envOf (len : Nat) (ps : List PV) : Env := ps.map some ++ List.replicate (len - ps.length) none
def give (k : Nat) (p : PV) (S : Sta) : Out PV := match leave k [p] S with
  | some ([q], T) => .ok q T
  | _ => .stuck
def giveX (k : Nat) (c : String) (xs : List PV) (S : Sta) : Out PV := match leave k xs S with
  | some (ys, T) => .ex c ys T
  | none => .stuck
/-- a def of n parameters and len slots: what it makes never changes any more (keep: it may) -/
def defM (keep : Bool) (n len : Nat) (body : Env → Sta → Flow) : FC := fun ps S => if ps.length = n then match body (envOf len ps) S with
  | .rt p S' => if keep = true then .ok p S' else give S.length p S'
  | .nx _ S' => if keep = true then .ok .non S' else give S.length .non S'
  | .ex c xs _ S' => giveX S.length c xs S'
  | _ => .stuck
  else .stuck
def calmF (f : FC) : FC := fun ps S => calm (f ps S)
theorem le_bot (W : Wd) : Le ⟨fun _ => none, []⟩ W := ⟨(fun _ _ h => nomatch h), List.nil_prefix⟩
theorem spM_len {f : FC} {n : Nat} (hf : ∀ xs S, f xs S ≠ .stuck → xs.length = n) {vs : List V} {H : Hp} {Q : VK} {E : XK} (h : spM M f vs H Q E) : vs.length = n := by
  obtain ⟨W, S, xs, r, ra, q⟩ := h
  rw [rpa_len ra]
  refine hf xs S fun z => ?_
  rw [z] at q
  exact q
theorem defM_len {keep : Bool} {n len : Nat} {body : Env → Sta → Flow} : ∀ xs S, defM keep n len body xs S ≠ .stuck → xs.length = n := fun xs S h => by
  unfold defM at h
  by_cases z : xs.length = n
  · exact z
  · rw [if_neg z] at h; exact absurd rfl h
theorem calmF_len {f : FC} {n : Nat} (hf : ∀ xs S, f xs S ≠ .stuck → xs.length = n) : ∀ xs S, calmF f xs S ≠ .stuck → xs.length = n := fun xs S h => hf xs S fun z => h (by unfold calmF; rw [z]; rfl)
theorem rpa_one {v : V} {p : PV} (h : Rp M W v p) : RpA M W [v] [p] := .cons h .nil
theorem give_ok {p : PV} {Q : VK} {E : String → List PV → Sta → Prop} (r0 : Rel M W H S) (q : OPost (give S.length p S') (okG Rp M W H Q) E) : okG Rp M W H Q p S' := fun v W' H' g r' rp => by
  unfold give at q
  split at q
  · rename_i q' T e
    obtain ⟨W2, g2, r2, ra, _, _⟩ := leave_rp r' r0.len g (rpa_one rp) e
    cases ra with
    | cons h _ => exact q v W2 H' g2 r2 h
  · exact q.elim
theorem def_ok {N : List Str} {keep : Bool} {n len : Nat} {body : Env → Sta → Flow} {t : TS} {vs : List V} {Q : VK} {E : XK} (hlen : N.length = len) (h : RS M ⟨fun _ => none, []⟩ (fun cls d _ H => E cls d H) t body) (sp : spM M (defM keep n len body) vs H Q E) : t { nx := fun _ H' => Q .non H', rt := Q } (L2.start N vs) H := by
  obtain ⟨W, S, xs, r, ra, q⟩ := sp
  have er : Er M W (L2.start N vs) (envOf len xs) := by
    unfold L2.start envOf
    rw [rpa_len ra, hlen]
    exact er_start M W _ ra
  refine h W H S _ _ (le_bot W) r er _ ?_
  unfold defM at q
  obtain ⟨_, q⟩ := ite_post q
  cases e : body (envOf len xs) S with
  | rt p S' =>
    rw [e] at q
    dsimp only at q
    cases keep with
    | true => exact q
    | false => exact give_ok r q
  | nx ε' S' =>
    rw [e] at q
    dsimp only at q
    refine fun σ' W' H' g r' er' => ?_
    cases keep with
    | true => exact q .non W' H' g r' .non
    | false => exact give_ok r q .non W' H' g r' .non
  | ex c ys ε' S' =>
    rw [e] at q
    dsimp only at q
    refine fun d σ' W' H' g r' er' xd => ?_
    unfold giveX at q
    split at q
    · rename_i zs T ez
      cases d with
      | none =>
        obtain ⟨rfl, h0⟩ := xd
        obtain ⟨W2, g2, r2, ra2, le2, _⟩ := leave_rp r' r.len g .nil ez
        cases ra2
        exact q none W2 H' g2 r2 ⟨rfl, h0⟩
      | some dx =>
        obtain ⟨h0, us, b1, b2, b3⟩ := xd
        obtain ⟨W2, g2, r2, ra2, le2, _⟩ := leave_rp r' r.len g b3 ez
        exact q (some dx) W2 H' g2 r2 ⟨h0, us, le2.b _ _ b1, b2, ra2⟩
    · exact q.elim
  | bk => rw [e] at q; exact q.elim
  | ct => rw [e] at q; exact q.elim
  | stuck => rw [e] at q; exact q.elim
/-- a def that lets no error out -/
theorem def_ok0 {N : List Str} {keep : Bool} {n len : Nat} {body : Env → Sta → Flow} {t : TS} {vs : List V} {Q : VK} {E : XK} (hlen : N.length = len) (h : RS M ⟨fun _ => none, []⟩ (fun _ _ _ _ => False) t body) (sp : spM M (calmF (defM keep n len body)) vs H Q E) : t { nx := fun _ H' => Q .non H', rt := Q } (L2.start N vs) H := by
  obtain ⟨W, S, xs, r, ra, q⟩ := sp
  refine def_ok (keep := keep) (n := n) (E := fun _ _ _ => False) hlen h ⟨W, S, xs, r, ra, ?_⟩
  exact (calm_post q).mono (fun _ _ z => z) fun _ _ _ z => z.elim
theorem calm_any {o : Out PV} {A : PV → Sta → Prop} {E E' : String → List PV → Sta → Prop} (h : OPost (calm o) A E) : OPost (calm o) A E' := by
  cases o with
  | ok a S => exact h
  | ex => exact h.elim
  | stuck => exact h.elim
theorem re_call0 {f : FC} {dvs : List V} {dps : List PV} {E : XK} (h : RA M W0 X ts ms) (hd : ∀ W, RpA M W dvs dps) : RE M W0 X (tCall (spM M (calmF f)) dvs E ts) (CallE (calmF f) dps ms) := fun W H S σ ε le r0 er Q q =>
  h.thn (.refl W H) le r0 er q fun vs xs S1 W1 H1 g1 r1 p1 q1 => ⟨W1, S1, xs ++ dps, r1, rpa_app p1 (hd _), OPost.mono (calm_any (E' := exE M W1 H1 E) q1) (fun a S' q => okG.up q g1) fun c ys S' z => z⟩
theorem sub_one {K : PySem.W.Frag} {AD : String → Addr} {C : String} {cl : Value} (h : PySem.W.exmOne K (.ref (AD C)) cl = some true) : ∀ c b, (if c = C then some true else none) = some b → PySem.W.exmOne K (.ref (AD c)) cl = some b := fun c b e => by
  obtain ⟨rfl, rfl⟩ := ite_some e
  exact h
def isC (C : String) : String → Option Bool := fun c => if c = C then some true else none
end
end Fx
namespace Fx
open PySem PySem.Spec PyProof.Rows L2 Co
section
variable {M : Md} {W W' Wa W0 W1 : Wd} {H H' Ha H1 : Hp} {S S' : Sta} {σ : L2.St} {ε : Env} {X : WX}
variable {ta tb tc te : TE} {ma mb mc me : Env → Sta → Out PV} {tt uu : TT} {mt mu : Env → Sta → Out Bool} {ts tr : TA} {ms mr : Env → Sta → Out (List PV)}
/-! ### enumerate over zip -/
def enumIt (it : IT) : IT := ⟨it.xs.zipIdx.map fun q => .tup [.int (q.2 : Int), q.1], it.pins⟩
theorem walk_enumZ {k m : Bool} {a b : Addr} {i1 i2 : IT} (h1 : Holds M k a i1 W) (h2 : Holds M m b i2 W) : Walk M W (ItEZ M.K k m a b) (enumIt (zipIt i1 i2)) := fun W2 H2 S2 i l r pn => by
  obtain ⟨us, a1, a2⟩ := h1 W2 H2 S2 l r fun q hq => pn q (List.mem_append_left _ hq)
  obtain ⟨ws, b1, b2⟩ := h2 W2 H2 S2 l r fun q hq => pn q (List.mem_append_right _ hq)
  have la := rpa_len a2
  have lb := rpa_len b2
  refine ⟨fun p hp => ?_, fun hi => ?_⟩
  · simp only [enumIt, zipIt, List.getElem?_map, List.getElem?_zipIdx] at hp
    obtain ⟨q, e0, rfl⟩ := Option.map_eq_some_iff.mp hp
    obtain ⟨q', e1', rfl⟩ := Option.map_eq_some_iff.mp e0
    obtain ⟨⟨x, y⟩, e1, rfl⟩ := Option.map_eq_some_iff.mp e1'
    rw [List.getElem?_zip_eq_some] at e1
    obtain ⟨u, c1, c2⟩ := rpa_get a2 e1.1
    obtain ⟨w, d1, d2⟩ := rpa_get b2 e1.2
    refine ⟨⟨us, ws, u, w, a1, b1, c1, d1⟩, ?_⟩
    rintro v H3 ⟨T, U, x', y', rfl, hT, hU, rfl, f1, f2⟩
    have z1 := f1 us a1
    have z2 := f2 ws b1
    rw [c1] at z1
    rw [d1] at z2
    cases z1
    cases z2
    obtain ⟨r3, g3⟩ := r.new (o := .tup [u, w]) hT
    obtain ⟨r4, g4⟩ := r3.new (o := .tup [.int (i : Nat), .ref T]) hU
    have p3 : Rp M ⟨upd W2.B T (.tup [u, w]), W2.ρ⟩ (.ref T) (.tup [x, y]) := .tup (.inl (.inl upd_same)) (.cons (rp_up g3.le _ _ c2) (.cons (rp_up g3.le _ _ d2) .nil))
    refine ⟨_, g3.trans g4, r4, .tup (.inl (.inl upd_same)) (.cons ?_ (.cons (rp_up g4.le _ _ p3) .nil))⟩
    rw [Nat.zero_add]
    exact .int _
  · simp [enumIt, zipIt] at hi
    exact ⟨us, ws, a1, b1, by omega, by omega, by omega⟩
def EnumZI (ms : Env → Sta → Out (List PV)) : Env → Sta → Out IT := fun ε S => (ms ε S).bind fun xs S1 => match xs with
  | [x, y] => match seqIt S1 x, seqIt S1 y with
    | some (_, i1), some (_, i2) => .ok (enumIt (zipIt i1 i2)) S1
    | _, _ => .stuck
  | _ => .stuck
theorem ri_enumZ (h : RA M W0 X ts ms) : RI M W0 X (iEZ M.K ts) (EnumZI ms) := fun W H S σ ε le r0 er Q q =>
  h.thn (.refl W H) le r0 er q fun vs xs S1 W1 H1 g1 r1 p1 q1 => by
    split at q1
    · rename_i x y
      obtain ⟨v, w, rfl, hv, hw⟩ := rpa2 p1
      split at q1
      · rename_i k i1 m i2 e1 e2
        obtain ⟨a, rfl, ha⟩ := holds_of r1 hv e1
        obtain ⟨b, rfl, hb⟩ := holds_of r1 hw e2
        obtain ⟨us, a1, a2⟩ := ha W1 H1 S1 (Le.refl _) r1 (nopin (v := .non) r1 e1)
        obtain ⟨ws, b1, b2⟩ := hb W1 H1 S1 (Le.refl _) r1 (nopin (v := .non) r1 e2)
        exact ⟨a, b, us, ws, k, m, rfl, a1, b1, q1 _ W1 H1 g1 r1 (walk_enumZ ha hb)⟩
      · exact q1.elim
    · exact q1.elim
/-! ### instances -/
def zlook (f : Str) : List Str → List PV → Option PV
  | n :: ns, x :: xs => if f = n then some x else zlook f ns xs
  | _, _ => none
theorem zlook_ok {f : Str} {p : PV} : ∀ {ns : List Str} {vs : List V} {xs : List PV}, RpA M W vs xs → zlook f ns xs = some p → ∃ v, (ns.zip vs).lookup f = some v ∧ Rp M W v p
  | [], _, xs, _, e => by cases xs <;> cases e
  | n :: ns, vs, xs, h, e => by
    cases h with
    | nil => cases e
    | @cons v vs x xs h1 h2 =>
      unfold zlook at e
      by_cases z : f = n
      · rw [if_pos z] at e
        cases e
        subst z
        exact ⟨v, by simp [List.lookup], h1⟩
      · rw [if_neg z] at e
        obtain ⟨w, a, b⟩ := zlook_ok h2 e
        refine ⟨w, ?_, b⟩
        have nb : (f == n) = false := by simpa using z
        rw [List.zip_cons_cons, List.lookup_cons, nb]
        exact a
def zput (f : Str) (p : PV) : List Str → List PV → List Str × List PV
  | n :: ns, x :: xs => if n = f then (n :: ns, p :: xs) else (n :: (zput f p ns xs).1, x :: (zput f p ns xs).2)
  | _, _ => ([f], [p])
theorem zput_ok {f : Str} {p : PV} {v : V} (hp : Rp M W v p) : ∀ {ns : List Str} {vs : List V} {xs : List PV}, ns.length = xs.length → RpA M W vs xs →
    ∃ ws, putF f v (ns.zip vs) = (zput f p ns xs).1.zip ws ∧ RpA M W ws (zput f p ns xs).2 ∧ (zput f p ns xs).1.length = (zput f p ns xs).2.length
  | [], _, xs, hl, h => by
    cases xs with
    | nil => cases h; exact ⟨[v], rfl, .cons hp .nil, rfl⟩
    | cons => cases hl
  | n :: ns, vs, xs, hl, h => by
    cases h with
    | nil => cases hl
    | @cons v' vs x xs h1 h2 =>
      unfold zput
      by_cases z : n = f
      · rw [if_pos z]
        refine ⟨v :: vs, ?_, .cons hp h2, hl⟩
        subst z
        simp [putF]
      · rw [if_neg z]
        obtain ⟨ws, a, b, c⟩ := zput_ok (f := f) hp (ns := ns) (by simpa using hl) h2
        refine ⟨v' :: ws, ?_, .cons h1 b, by simp [c]⟩
        rw [List.zip_cons_cons, List.zip_cons_cons]
        unfold putF
        rw [if_neg z, a]
def objOf (S : Sta) : PV → Option (String × List Str × List PV)
  | .obj c ns xs => some (c, ns, xs)
  | .mu n => match S[n]? with
    | some (.obj c ns xs) => some (c, ns, xs)
    | _ => none
  | _ => none
theorem objOf_ok (r : Rel M W H S) {v : V} {p : PV} {c : String} {ns : List Str} {xs : List PV} (h : Rp M W v p) (he : M.er c = false) (e : objOf S p = some (c, ns, xs)) : ∃ a dx vs, v = .ref a ∧ H a = some (.ins (M.AD c) dx (ns.zip vs)) ∧ ns.length = xs.length ∧ RpA M W vs xs := by
  cases h <;> first | (cases e; done) | skip
  · rename_i h1 h3 h4
    cases e
    rcases h1 with ⟨_, dx, h1, _⟩ | ⟨h0, _⟩
    · exact ⟨_, _, _, rfl, r.i _ _ h1, h3, h4⟩
    · rw [he] at h0; cases h0
  · rename_i n a hm
    unfold objOf at e
    dsimp only at e
    split at e
    · rename_i c' ns' xs' es
      cases e
      obtain ⟨_, _, l, dx, vs, h1, _, h3⟩ := r.c n a _ hm es
      exact ⟨a, dx, vs, rfl, h1, l, h3⟩
    · cases e
/-- e.f, e being an instance of one of the classes cs -/
def FldE (cs : List String) (f : Str) (me : Env → Sta → Out PV) : Env → Sta → Out PV := fun ε S => (me ε S).bind fun p S1 => match objOf S1 p with
  | some (c, ns, xs) => if c ∈ cs then lift (zlook f ns xs) S1 else .stuck
  | none => .stuck
def Flds (M : Md) (cs : List String) (f : Str) : Prop := ∀ c ∈ cs, M.er c = false ∧ Cls M.K (M.AD c) ∧ NoAttr M.K (M.AD c) f
theorem re_fld {cs : List String} {f : Str} (h : RE M W0 X te me) (hc : Flds M cs f) : RE M W0 X (tFld M.K te f) (FldE cs f me) := fun W H S σ ε le r0 er Q q =>
  h.thn (.refl W H) le r0 er q fun v p S1 W1 H1 g1 r1 p1 q1 => by
    split at q1
    · rename_i c ns xs e
      obtain ⟨hm, q2⟩ := ite_post q1
      obtain ⟨a, dx, vs, rfl, h1, h2, h3⟩ := objOf_ok r1 p1 (hc c hm).1 e
      obtain ⟨x, ex, q3⟩ := opost_lift q2
      obtain ⟨w, b1, b2⟩ := zlook_ok h3 ex
      exact ⟨a, _, dx, _, w, rfl, h1, (hc c hm).2.1, (hc c hm).2.2, b1, q3 w W1 H1 g1 r1 b2⟩
    · exact q1.elim
/-- e.f = value -/
def putO (S : Sta) (cs : List String) (f : Str) (o p : PV) : Option Sta := match o with
  | .mu n => match S[n]? with
    | some (.obj c ns xs) => if c ∈ cs ∧ ns.length < 900 then some (S.set n (.obj c (zput f p ns xs).1 (zput f p ns xs).2)) else none
    | _ => none
  | _ => none
def SetFS (cs : List String) (f : Str) (mo me : Env → Sta → Out PV) : Env → Sta → Flow := fun ε S => (me ε S).flow ε fun p S1 => (mo ε S1).flow ε fun o S2 => match putO S2 cs f o p with
  | some S3 => .nx ε S3
  | none => .stuck
theorem rs_fld {cs : List String} {f : Str} (ho : RE M W0 X ta ma) (h : RE M W0 X te me) (hc : Flds M cs f) : RS M W0 X (sFld M.K ta te f) (SetFS cs f ma me) := fun W H S σ ε le r er D q =>
  h.thnS (.refl W H) le r er q fun v p S1 W1 H1 g1 r1 p1 q1 => ho.thnS g1 le r1 er q1 fun u o S2 W2 H2 g2 r2 p2 q2 => by
    split at q2
    · rename_i S3 e
      unfold putO at e
      split at e
      · rename_i n
        split at e
        · rename_i c ns xs es
          obtain ⟨⟨hm, hl⟩, e⟩ := ite_some e
          subst e
          cases p2 with
          | @mu _ a hm2 =>
            obtain ⟨nb, ec, l, dx, vs, h1, h2, h3⟩ := r2.c n a _ hm2 es
            obtain ⟨ws, b1, b2, b3⟩ := zput_ok (f := f) (rp_up g2.le _ _ p1) l h3
            have hz : (ns.zip vs).length < 1000 := by
              rw [List.length_zip]
              have := Nat.min_le_left ns.length vs.length
              omega
            refine ⟨a, _, dx, _, rfl, h1, (hc c hm).2.1, (hc c hm).2.2, hz, ?_⟩
            rw [b1]
            obtain ⟨r3, g3⟩ := r2.put (o := .ins (M.AD c) dx ((zput f p ns xs).1.zip ws)) (c := .obj c (zput f p ns xs).1 (zput f p ns xs).2) hm2 nb ⟨nb, ec, b3, dx, ws, upd_same, h2, b2⟩
            exact q2 σ W2 _ ((g1.trans g2).trans g3) r3 (er.up ((g1.trans g2).trans g3).le)
        · cases e
      · cases e
    · exact q2.elim
/-- C(..): made and filled, it changes no more -/
def mkO (c : String) (f : FC) (xs : List PV) (S : Sta) : Out PV := match f (.mu S.length :: xs) (S ++ [.obj c [] []]) with
  | .ok .non S2 => give S.length (.mu S.length) S2
  | .ex d ys S2 => giveX S.length d ys S2
  | _ => .stuck
def MakeE (c : String) (f : FC) (dps : List PV) (ms : Env → Sta → Out (List PV)) : Env → Sta → Out PV := fun ε S => (ms ε S).bind fun xs S1 => mkO c f (xs ++ dps) S1
theorem mkO_ok {c : String} {f : FC} {xs : List PV} {vs : List V} {Q : VK} {E : XK} (he : M.er c = false) (r : Rel M W H S) (ra : RpA M W vs xs) (q : OPost (mkO c f xs S) (okG Rp M W H Q) (exE M W H E)) :
    ∀ x dx, H x = none → H dx = none → dx ≠ x → spM M f (.ref x :: vs) (upd (upd H dx (.own x)) x (.ins (M.AD c) dx [])) (fun v H2 => v = .non ∧ Q (.ref x) H2) E := fun x dx hx hdx hne => by
  obtain ⟨r1, g1⟩ := r.new (o := .own x) hdx
  have hx1 : upd H dx (.own x) x = none := by rw [upd_ne (Ne.symm hne)]; exact hx
  obtain ⟨r2, g2⟩ := r1.cell (p := x) (o := .ins (M.AD c) dx []) (c := .obj c [] []) hx1 ⟨r1.none_b hx1, he, rfl, dx, [], upd_same, upd_same, .nil⟩
  have g := g1.trans g2
  have hn : (W.ρ ++ [Slot.own x])[S.length]? = some (.own x) := by rw [← r.len]; simp
  refine ⟨_, _, .mu S.length :: xs, r2, .cons (.mu hn) (rpa_up g.le _ _ ra), ?_⟩
  unfold mkO at q
  cases e : f (.mu S.length :: xs) (S ++ [.obj c [] []]) with
  | ok p S2 =>
    rw [e] at q
    intro v W' H' g' r' rp
    have gg := g.trans g'
    cases p <;> first | exact q.elim | skip
    cases rp
    exact ⟨rfl, give_ok r q (.ref x) W' H' gg r' (.mu (pre_get g'.ρ hn))⟩
  | ex d ys S2 =>
    rw [e] at q
    intro dd W' H' g' r' xd
    have gg := g.trans g'
    dsimp only at q
    unfold giveX at q
    split at q
    · rename_i zs T ez
      cases dd with
      | none =>
        obtain ⟨rfl, h0⟩ := xd
        obtain ⟨W3, g3, r3, ra3, le3, _⟩ := leave_rp r' r.len gg .nil ez
        cases ra3
        exact q none W3 H' g3 r3 ⟨rfl, h0⟩
      | some dx' =>
        obtain ⟨h0, us, b1, b2, b3⟩ := xd
        obtain ⟨W3, g3, r3, ra3, le3, _⟩ := leave_rp r' r.len gg b3 ez
        exact q (some dx') W3 H' g3 r3 ⟨h0, us, le3.b _ _ b1, b2, ra3⟩
    · exact q.elim
  | stuck => rw [e] at q; exact q.elim
theorem re_make {c : String} {f : FC} {dvs : List V} {dps : List PV} {E : XK} (he : M.er c = false) (h : RA M W0 (fun cls d _ H => E cls d H) ts ms) (hd : ∀ W, RpA M W dvs dps) : RE M W0 (fun cls d _ H => E cls d H) (tMake (M.AD c) (spM M f) dvs E ts) (MakeE c f dps ms) := fun W H S σ ε le r0 er Q q =>
  h.thn (.refl W H) le r0 er q fun vs xs S1 W1 H1 g1 r1 p1 q1 => mkO_ok he r1 (rpa_app p1 (hd _)) (q1.mono (fun a S' q => okG.up q g1) fun c ys S' z => exE.up z g1)
theorem re_make0 {c : String} {f : FC} {dvs : List V} {dps : List PV} {E : XK} (he : M.er c = false) (h : RA M W0 X ts ms) (hd : ∀ W, RpA M W dvs dps) : RE M W0 X (tMake (M.AD c) (spM M (calmF f)) dvs E ts) (MakeE c (calmF f) dps ms) := fun W H S σ ε le r0 er Q q =>
  h.thn (.refl W H) le r0 er q fun vs xs S1 W1 H1 g1 r1 p1 q1 => mkO_ok (E := E) he r1 (rpa_app p1 (hd _)) (by
    have key : ∀ {o : Out PV}, OPost (match calm o with
        | .ok .non S2 => give S1.length (.mu S1.length) S2
        | .ex d ys S2 => giveX S1.length d ys S2
        | _ => .stuck) (okG Rp M W H Q) (exE M W H (atσ X σ)) → OPost (match calm o with
        | .ok .non S2 => give S1.length (.mu S1.length) S2
        | .ex d ys S2 => giveX S1.length d ys S2
        | _ => .stuck) (okG Rp M W1 H1 Q) (exE M W1 H1 E) := fun {o} z => by
      cases o with
      | ok p S2 =>
        cases p <;> first | exact z.elim | skip
        unfold calm at z ⊢
        dsimp only at z ⊢
        unfold give at z ⊢
        split at z
        · exact okG.up z g1
        · exact z.elim
      | ex => exact z.elim
      | stuck => exact z.elim
    exact key q1)
/-- the same in a try -/
def tMakeS (C : Addr) (sp : Sp) (E : L2.St → XK) (t : TA) : TE := fun σ H Q => t σ H fun vs H1 => ∀ x dx, H1 x = none → H1 dx = none → dx ≠ x → sp (.ref x :: vs) (upd (upd H1 dx (.own x)) x (.ins C dx [])) (fun v H2 => v = .non ∧ Q (.ref x) H2) (E σ)
theorem re_makeS {c : String} {f : FC} (he : M.er c = false) (h : RA M W0 X ts ms) : RE M W0 X (tMakeS (M.AD c) (spM M f) (atσ X) ts) (MakeE c f [] ms) := fun W H S σ ε le r0 er Q q =>
  h.thn (.refl W H) le r0 er q fun vs xs S1 W1 H1 g1 r1 p1 q1 => mkO_ok he r1 p1 (by
    rw [List.append_nil] at q1
    exact q1.mono (fun a S' q => okG.up q g1) fun c ys S' z => exE.up z g1)
end
section
variable {X : Cx} {CX : CXT} {k : Nat} {f C : Addr} {fd : FuncData} {ps : List Str} {sp : Sp} {E : L2.St → XK} {x m : Str} {p pos apos : Pos} {e o : Expr} {es : List Expr} {ta : TE} {t : TA}
theorem pe_makeS (M : Mk X.K C f) (F : FnOk X.prog X.w X.K X.mg X.base CX k f fd ps sp) (hr : Room (k + 1) X.A) (hg : Gl X x) (hm : X.mg x = some (.ref C)) (hb : Binds X.K fd ps []) (hx : ∀ σ, PassesAt CX X σ (E σ))
    (ha : PA X (e :: es) t) (hdb : (x == ("__debug__" : Str)) = false := by decide) (he : starEach (e :: es) X.env = (false, eval e X.env) :: starEach es X.env := by rfl) (hpl : (backTo pos (starEach es X.env)).any (·.1) = false := by rfl) :
    PE X (.Call (.Name x p) (e :: es) [] pos) (tMakeS C sp E t) := by
  refine ⟨fun pins s σ H Q I h => ?_⟩
  refine wpAny_Call_Name_kw (ld_glob I hg hm (?_ : wpAny _ _ _ _ _ _) hdb)
  refine PySem.W.callWith_K (h₀ := X.base) I.ok.mod.kin M.kp (thn (ha.run pos pins s σ H _ I h) fun us s1 ⟨vs, H1, I1, r, q⟩ => ⟨I1.kIn, (?_ : wpAny _ _ _ _ _ _)⟩) he hpl
  have hq := q (s1.heap.objs.size + 1) s1.heap.objs.size (I1.hok.fresh (Nat.le_succ _)) (I1.hok.fresh (Nat.le_refl _)) (Nat.ne_of_lt (Nat.lt_succ_self _))
  have I2 := Inv.made (C := C) I1
  have r2 : Vals (V.ref (s1.heap.objs.size + 1) :: vs) (Value.ref (s1.heap.objs.size + 1) :: us) := .cons rfl r
  have hl : (Value.ref (s1.heap.objs.size + 1) :: us).length = ps.length := by
    have e := r2.length
    rw [F.len _ _ _ _ hq] at e
    exact e.symm
  have hbd := hb _ (Value.ref (s1.heap.objs.size + 1) :: us) I2.kIn (by rw [List.append_nil]; exact hl)
  rw [List.append_nil] at hbd
  refine wpAny_call (make_map (f := f) I1.kIn M.makes M.init (beq_iff_eq.mp M.fn) (codeAny_mono (F.run _ X.stack _ _ ⟨Value.ref (s1.heap.objs.size + 1) :: us, []⟩ (Value.ref (s1.heap.objs.size + 1) :: us) _ _ (E σ) (hr.make C us [])
    (I2.env0.make C us []) hbd r2 hq) fun r s' hq' => (?_ : _)))
  cases r with
  | error e => exact hx σ pins _ _ e s' I2 hq'
  | ok fl =>
    cases fl with
    | ret u =>
      obtain ⟨v, H', I3, rv, ev, q3⟩ := I2.after hq'
      subst ev
      exact ⟨rv, ⟨V.ref (s1.heap.objs.size + 1), H', I3, rfl, q3⟩⟩
    | next => exact False.elim hq'
    | brk => exact False.elim hq'
    | cont => exact False.elim hq'
end
end Fx
namespace Fx
open PySem PySem.Spec PyProof.Rows L2 Co
/-! ### isinstance of the error that was caught -/
def rIsX (K : PySem.W.Frag) (a : Addr) (cls : Value) (d : Option Addr) : List V → Hp → VK → Prop := fun xs H Q => ∃ (D : Addr) (c : V) (cv : Value) (b : Bool), xs = [.ref a, c] ∧ cls = .ref D ∧ ExcC K D ∧ (∀ dd, d = some dd → ∃ fs, H dd = some (.xd fs)) ∧ (∀ u, RelV c u → u = cv) ∧
  PySem.W.kitOne K (.ref D) cv = some b ∧ Q (.bl b) H
theorem call_isX {X : Cx} {a : Addr} {cls : Value} {d : Option Addr} {oe : Obj} {pn : List (Addr × Obj)} (hz : Zc cls d oe) (hf : ∃ vs, oe.data = .fields vs) : CallR (X.suite a ((a, oe) :: pn)) (.builtin "isinstance") (rIsX X.K a cls d) := by
  intro pins s σ H xs us Q I r h
  obtain ⟨D, c, cv, b, rfl, rfl, C, hdd, hcv, e, q⟩ := h
  cases r with
  | cons rx rr =>
    cases rr with
    | cons rt rr =>
      cases rr
      cases rx
      have ec := hcv _ rt
      subst ec
      obtain ⟨hget, _⟩ := I.pin (a, oe) (List.mem_append.mpr (.inl List.mem_cons_self))
      obtain ⟨vs, hv⟩ := hf
      obtain ⟨od, J⟩ : ∃ od, PySem.W.InstAt s.heap a oe D od := by
        have hno : PySem.W.notCls oe = true := by unfold PySem.W.notCls; rw [hv]
        cases d with
        | none => exact ⟨none, hget, hz.1, hno, by rw [hz.2]; trivial⟩
        | some dd =>
          obtain ⟨fs, hx⟩ := hdd dd rfl
          have hx' : ObjOk X.prog X.w H s.heap dd (.xd fs) := I.hok dd _ hx
          obtain ⟨mA, hns, _⟩ := hx'
          obtain ⟨od, ho, _⟩ := lookIn_ns hns
          exact ⟨some od, hget, hz.1, hno, by rw [hz.2]; exact ho⟩
      exact PySem.W.kia_one (PySem.W.kitx_exc (show (PySem.W.clsIn X.K D).isSome = true by
        have h5 := C.hd
        unfold PySem.W.hasDictIn at h5
        cases h6 : PySem.W.clsIn X.K D with
        | none => rw [h6] at h5; exact h5
        | some => rfl) C.hg C.hk C.hs C.ha C.hn C.ht C.hm) I.kIn J e (fun z => nomatch z) fun tk => ⟨.bl b, H, I.kept (t' := tk) fun _ _ z => z, rfl, q⟩
theorem kit_own {K : PySem.W.Frag} {t : Value} {C : Addr} (h2 : PySem.W.isClsIn K C = true) (h3 : PySem.W.typeIn K (.ref C) = some (.type "type")) (h4 : PySem.W.subIn K t (.ref C) = some true) : PySem.W.kitOne K t (.ref C) = some true := by
  have h5 : (PySem.W.clsIn K C).isSome = true := h2
  have a2 : ((PySem.W.clsIn K C).isSome && PySem.W.typeIn K (.ref C) == some (.type "type")) = true := by rw [h5, h3]; rfl
  unfold PySem.W.kitOne
  split
  · rfl
  · show (if ((PySem.W.clsIn K C).isSome && PySem.W.typeIn K (.ref C) == some (.type "type")) = true then PySem.W.subIn K t (.ref C) else none) = some true
    rw [a2]
    exact h4
theorem kit_bas {K : PySem.W.Frag} {D : Addr} {T : String} {b : Bool} (hm : PySem.W.kitMeta T = true) (h4 : PySem.W.subIn K (.ref D) (.type T) = some b) : PySem.W.kitOne K (.ref D) (.type T) = some b := by
  unfold PySem.W.kitOne
  rw [if_neg (show ¬ ((Value.ref D == Value.type T) = true) by intro h; cases h)]
  show (if PySem.W.kitMeta T = true then PySem.W.subIn K (.ref D) (.type T) else none) = some b
  rw [if_pos hm]
  exact h4
section
variable {M : Md} {W W' Wa W0 W1 : Wd} {H H' Ha H1 : Hp} {S S' : Sta} {σ : L2.St} {ε : Env} {X : WX}
variable {ta tb tc te : TE} {ma mb mc me : Env → Sta → Out PV} {tt uu : TT} {mt mu : Env → Sta → Out Bool} {ts tr : TA} {ms mr : Env → Sta → Out (List PV)}
def XiE (tab : String → Option Bool) (c : String) (n i : Nat) : Env → Sta → Out PV := fun ε S => match ε[i]? with
  | some (some (.xv n')) => if n' = n then (lift (tab c) S).bind fun b S => .ok (.bl b) S else .stuck
  | _ => .stuck
theorem re_xi {a : Addr} {d : Option Addr} {c : String} {xs : List PV} {W1 : Wd} {n i : Nat} {tab : String → Option Bool} {cv : V} {cu : Value} (hn : W1.ρ[n]? = some (.exc a)) (hx : Xd M W1 c xs d) (hu : ∀ u, RelV cv u → u = cu)
    (ht : ∀ c b, tab c = some b → ExcC M.K (M.AD c) ∧ PySem.W.kitOne M.K (.ref (M.AD c)) cu = some b) : RE M W1 X (tCB (rIsX M.K a (.ref (M.AD c)) d) (tCons (tVar i) (tCons (tC cv) tNil))) (XiE tab c n i) := fun W H S σ ε le r er Q q => by
  unfold XiE at q
  split at q
  · rename_i n' e
    obtain ⟨rfl, q2⟩ := ite_post q
    rw [opost_bind] at q2
    obtain ⟨b, eb, q3⟩ := opost_lift q2
    obtain ⟨v, h1, h2⟩ := er.get i _ e
    cases h2 with
    | xv hv =>
      rw [pre_get le.ρ hn] at hv
      cases hv
      refine ⟨_, h1, _, cv, cu, b, rfl, rfl, (ht c b eb).1, fun dd ed => ?_, hu, (ht c b eb).2, q3 _ W H (.refl W H) r (.bl b)⟩
      subst ed
      obtain ⟨_, vs, b1, _⟩ := hx
      exact ⟨_, r.i _ _ (le.b _ _ b1)⟩
  · exact q.elim
/-! ### a list so many times -/
def rep (n : Nat) (xs : List PV) : List PV := (List.replicate n xs).flatten
def lstOf (S : Sta) : PV → Option (List PV)
  | .lst xs => some xs
  | .mu n => match S[n]? with
    | some (.lst xs) => some xs
    | _ => none
  | _ => none
theorem lstOf_ok (r : Rel M W H S) {v : V} {p : PV} {xs : List PV} (h : Rp M W v p) (e : lstOf S p = some xs) : ∃ a vs, v = .ref a ∧ H a = some (.lst vs) ∧ RpA M W vs xs := by
  cases h <;> first | (cases e; done) | skip
  · rename_i h1 h2
    cases e
    exact ⟨_, _, rfl, r.i _ _ h1, h2⟩
  · rename_i n a hm
    unfold lstOf at e
    dsimp only at e
    split at e
    · rename_i ys es
      cases e
      obtain ⟨_, vs, h1, h3⟩ := r.c n a _ hm es
      exact ⟨a, vs, rfl, h1, h3⟩
    · cases e
theorem rpa_rep {vs : List V} {xs : List PV} (h : RpA M W vs xs) (n : Nat) : RpA M W (List.replicate n vs).flatten (rep n xs) := by
  induction n with
  | zero => exact .nil
  | succ n ih =>
    unfold rep at ih ⊢
    rw [List.replicate_succ, List.flatten_cons, List.replicate_succ, List.flatten_cons]
    exact rpa_app h ih
def fRep : F2 := fun S x y => match lstOf S x, y with
  | some xs, .int k => if -100000 ≤ k ∧ k ≤ 100000 ∧ xs.length * k.toNat ≤ 100000 then some (.lst (rep k.toNat xs)) else none
  | _, _ => none
theorem k_rep : K2 M rRep fRep := fun W H S u v x y p r hx hy e Q q => by
  unfold fRep at e
  split at e
  · rename_i xs k e1
    obtain ⟨⟨h1, h2, h3⟩, rfl⟩ := ite_some e
    obtain ⟨a, vs, rfl, ha, ra⟩ := lstOf_ok r hx e1
    cases hy
    have e2 : (2 : Int) ^ 63 = 9223372036854775808 := by decide
    exact ⟨a, k, vs, rfl, rfl, ha, by rw [e2]; omega, by rw [e2]; omega, big_ok (by rw [rpa_len ra]; exact h3), new_lst (.refl W H) r (rpa_rep ra _) q⟩
  · cases e
end
def isX (C : String) (b : Bool) : String → Option Bool := fun c => if c = C then some b else none
theorem isx_ok {K : PySem.W.Frag} {AD : String → Addr} {C : String} {cu : Value} {b : Bool} (h1 : ExcC K (AD C)) (h2 : PySem.W.kitOne K (.ref (AD C)) cu = some b) : ∀ c b', isX C b c = some b' → ExcC K (AD c) ∧ PySem.W.kitOne K (.ref (AD c)) cu = some b' := fun c b' e => by
  unfold isX at e
  obtain ⟨rfl, rfl⟩ := ite_some e
  exact ⟨h1, h2⟩
theorem flds_nil {M : Md} {f : Str} : Flds M [] f := fun c h => by cases h
theorem flds_cons {M : Md} {c : String} {cs : List String} {f : Str} (h0 : M.er c = false) (h1 : Cls M.K (M.AD c)) (h2 : NoAttr M.K (M.AD c) f) (h : Flds M cs f) : Flds M (c :: cs) f := fun d hd => by
  rcases List.mem_cons.mp hd with rfl | hd
  · exact ⟨h0, h1, h2⟩
  · exact h d hd
/-- the second field and those behind it -/
theorem ini_put {H : Hp} {a C dx : Addr} {fs gs : List (Str × V)} (ne : dx ≠ a) : upd (upd (upd H dx (exd dx fs)) a (exo a C (some dx))) dx (exd dx gs) = upd (upd H dx (exd dx gs)) a (exo a C (some dx)) := by
  funext b
  by_cases z : b = dx
  · subst z; rw [upd_same, upd_ne ne, upd_same]
  · rw [upd_ne z]
    by_cases y : b = a
    · subst y; rw [upd_same, upd_same]
    · rw [upd_ne y, upd_ne y, upd_ne z, upd_ne z]
end Fx
namespace Fx
open PySem PySem.Spec PyProof.Rows L2 Co
/-! ### own errors held as values -/
def tMkV (C : Addr) (sp : Sp) (t : TA) : TE := fun σ H Q => t σ H fun vs H1 => vs.length ≤ 1000 ∧ ∀ a, H1 a = none → sp (.ref a :: vs) (upd H1 a (exo a C none)) (fun v H2 => v = .non ∧ Q (.ref a) H2) (fun _ _ _ => False)
def tMkV0 (C : Addr) : TE := fun _ H Q => ∀ a, H a = none → Q (.ref a) (upd H a (exo a C none))
def tXv (K : PySem.W.Frag) (te : TE) (f : Str) : TE := fun σ H Q => te σ H fun x H1 => ∃ (a C dx : Addr) (fs : List (Str × V)) (v : V), x = .ref a ∧ H1 a = some (exo a C (some dx)) ∧ H1 dx = some (exd dx fs) ∧ XfC K C ∧ PySem.W.findIn K (.ref C) f = some none ∧ fs.lookup f = some v ∧ Q v H1
def rIsV (K : PySem.W.Frag) : List V → Hp → VK → Prop := fun xs H Q => ∃ (a D : Addr) (d : Option Addr) (c : V) (cv : Value) (b : Bool), xs = [.ref a, c] ∧ H a = some (exo a D d) ∧ (∀ dd, d = some dd → ∃ fs, H dd = some (exd dd fs)) ∧ ExcC K D ∧ (∀ u, RelV c u → u = cv) ∧
  PySem.W.kitOne K (.ref D) cv = some b ∧ Q (.bl b) H
section
variable {X : Cx} {CX : CXT} {k : Nat} {fI C : Addr} {fd : FuncData} {ps : List Str} {sp : Sp} {x : Str} {p pos : Pos} {e : Expr} {es : List Expr} {ta te : TE} {t : TA}
theorem pe_oexv (T : OexC X.K C) (iC : PySem.W.findIn X.K (.ref C) "__init__" = some (some (.ref fI))) (tI : PySem.W.typeIn X.K (.ref fI) = some (.type "function"))
    (F1 : FnOk X.prog X.w X.K X.mg X.base CX k fI fd ps sp) (hr : Room (k + 1) X.A) (hb : Binds X.K fd ps []) (hx : Passes CX X (fun _ _ _ => False)) (hg : Gl X x) (hm : X.mg x = some (.ref C)) (ha : PA X (e :: es) t)
    (hdb : (x == ("__debug__" : Str)) = false := by decide) (he : starEach (e :: es) X.env = (false, eval e X.env) :: starEach es X.env := by rfl) (hpl : (backTo pos (starEach es X.env)).any (·.1) = false := by rfl) :
    PE X (.Call (.Name x p) (e :: es) [] pos) (tMkV C sp t) := by
  refine ⟨fun pins s σ H Q I h => ?_⟩
  obtain ⟨nm, q, N, bs, bm, sn, sub, ab, col, dd, k0, k1, k2, k3, k5, hC, hbm⟩ := T.cls
  refine wpAny_Call_Name_kw (ld_glob I hg hm (?_ : wpAny _ _ _ _ _ _) hdb)
  refine PySem.W.callWith_K (h₀ := X.base) I.ok.mod.kin T.kC (thn (ha.run pos pins s σ H _ I h) fun us s1 ⟨vs, H1, I1, r1, hz, q1⟩ => ⟨I1.kIn, (?_ : wpAny _ _ _ _ _ _)⟩) he hpl
  show wpAny _ _ (call (.ref C) us) _ _ _
  obtain ⟨hp, gs, dr, tk, oss⟩ := s1
  have lsz : hp.objs.size ≤ hp.objs.size + 1 := Nat.le_succ _
  have hq := q1 (hp.objs.size + 1) (I1.hok.fresh lsz)
  have kk : ∀ b o, hp.get? b = some o → ((hp.push (PySem.W.kdv_tup us)).push (PySem.HandSPX.excO C hp.objs.size)).get? b = some o := fun b o e => Heap.get?_push_of_some _ (Heap.get?_push_of_some _ e)
  have hgt : ((hp.push (PySem.W.kdv_tup us)).push (PySem.HandSPX.excO C hp.objs.size)).get? (hp.objs.size + 1) = some (PySem.HandSPX.excO C hp.objs.size) := by heap_get
  have I2 : Inv X pins σ (upd H1 (hp.objs.size + 1) (exo (hp.objs.size + 1) C none)) ⟨(hp.push (PySem.W.kdv_tup us)).push (PySem.HandSPX.excO C hp.objs.size), gs, dr, tk, oss⟩ :=
    I1.laid (t' := tk) (a := hp.objs.size + 1) (o := exo (hp.objs.size + 1) C none) (h' := (hp.push (PySem.W.kdv_tup us)).push (PySem.HandSPX.excO C hp.objs.size)) kk lsz (exo_ok hgt)
  have r2 : Vals (V.ref (hp.objs.size + 1) :: vs) (Value.ref (hp.objs.size + 1) :: us) := .cons rfl r1
  have hl : (Value.ref (hp.objs.size + 1) :: us).length = ps.length := by
    have e := r2.length
    rw [F1.len _ _ _ _ hq] at e
    exact e.symm
  have lus : us.length ≤ sizeLine := by
    rw [← Paired.length r1, sizeLine_eq]
    omega
  have hbd := hb _ (Value.ref (hp.objs.size + 1) :: us) I2.kIn (by rw [List.append_nil]; exact hl)
  rw [List.append_nil] at hbd
  refine wpAny_call (PySem.HandSPX.call_own F.excBase_ValueError (fun Y => PySem.HandSPX.refsVE_contains Y bm hbm) (I1.kIn _ _ hC) (PySem.W.looks_findIn I1.kIn iC) (fun self => PySem.W.bind_fn I1.kIn self tI) lus
    (codeAny_mono (F1.run _ X.stack _ _ ⟨Value.ref (hp.objs.size + 1) :: us, []⟩ (Value.ref (hp.objs.size + 1) :: us) _ _ (fun _ _ _ => False) (hr.make C us []) (I2.env0.make C us []) hbd r2 hq) fun r s' hq' => (?_ : _)))
  cases r with
  | error er => exact hx pins σ _ _ er s' I2 hq'
  | ok fl =>
    cases fl with
    | ret u =>
      obtain ⟨v, H', I3, rv, ev, q3⟩ := I2.after hq'
      subst ev
      exact ⟨rv, ⟨V.ref (hp.objs.size + 1), H', I3, rfl, q3⟩⟩
    | next => exact False.elim hq'
    | brk => exact False.elim hq'
    | cont => exact False.elim hq'
theorem pe_oex0 {bmB : List Value} {B newId initId : String} (F : ExcBaseFacts B newId initId bmB) (q : PySem.W.excIn X.K C bmB newId = true) (gC : X.mg x = some (.ref C)) (kC : PySem.W.keepIn X.K (.ref C) = true)
    (hg : Gl X x) (hdb : (x == ("__debug__" : Str)) = false := by decide) : PE X (.Call (.Name x p) [] [] pos) (tMkV0 C) := by
  refine ⟨fun pins s σ H Q I h => ?_⟩
  refine wpAny_Call_Name_kw (ld_glob I hg gC (PySem.W.callWith_K0 I.kIn kC ?_) hdb)
  obtain ⟨bm, N, nm, qn, bs, hdct, sn, sub, ab, col, dd, k0, k1, k2, k3, k5, mN, hC, hN, hni, T⟩ := exc_obj I.kIn q
  refine wpAny_call_exc_subT F T hC hN hni (fun h' a hm => ?_) (Nat.zero_le _)
  have hn : H a = none := I.hok.gone hm.new
  obtain ⟨t0, ht, _, _⟩ := hm.there
  exact ⟨.ref a, upd H a (exo a C none), I.laidN hm.keeps hm.new hn (exo_ok ht), rfl, h a hn⟩
theorem pe_xv {f : Str} (he : PE X e te) (hb : attributeBase e f X.env (eval e X.env) = eval e X.env) : PE X (.Attribute e f pos) (tXv X.K te f) := by
  refine ⟨fun pins s σ H Q I h => ?_⟩
  refine attr_of hb (thn (he.run pins s σ H _ I h) fun u s1 hh => ?_)
  obtain ⟨y, H1, I1, rx, a, D, dd, fs, v, ex, ea, ed, T, hno, l, q⟩ := hh
  subst ex
  obtain rfl : u = Value.ref a := rx
  obtain ⟨t0, hoe⟩ := exo_at I1.hok ea
  obtain ⟨mA, hns, hr⟩ := exd_at I1.hok ed
  obtain ⟨od, ho, hl⟩ := lookIn_ns hns
  obtain ⟨u, hu, ru⟩ := RelO.some_of (v := v) (o := mA f) (by rw [← l]; exact hr f)
  have J : PySem.W.InstAt s1.heap a _ D (some od) := ⟨hoe, rfl, rfl, ho⟩
  exact HandSPX.exc_get I1.kIn J T.ga T.gg T.exC (PySem.W.findObj_own T.hdC hno rfl (by rw [hl, hu])) (handed_of ru) ⟨v, H1, I1.tok _, ru, q⟩
theorem call_isV : CallR X (.builtin "isinstance") (rIsV X.K) := by
  intro pins s σ H xs us Q I r h
  obtain ⟨a, D, d, c, cv, b, rfl, ha, hdd, C, hcv, e, q⟩ := h
  cases r with
  | cons rx rr =>
    cases rr with
    | cons rt rr =>
      cases rr
      cases rx
      have ec := hcv _ rt
      subst ec
      obtain ⟨t0, hoe⟩ := exo_at I.hok ha
      obtain ⟨od, J⟩ : ∃ od, PySem.W.InstAt s.heap a { cls := .ref D, dict := d, data := .fields #[.ref t0, .none, .none, .none, .bool false, .none] } D od := by
        cases d with
        | none => exact ⟨none, hoe, rfl, rfl, trivial⟩
        | some dd =>
          obtain ⟨fs, hx⟩ := hdd dd rfl
          obtain ⟨mA, hns, _⟩ := exd_at I.hok hx
          obtain ⟨od, ho, _⟩ := lookIn_ns hns
          exact ⟨some od, hoe, rfl, rfl, ho⟩
      exact PySem.W.kia_one (PySem.W.kitx_exc (show (PySem.W.clsIn X.K D).isSome = true by
        have h5 := C.hd
        unfold PySem.W.hasDictIn at h5
        cases h6 : PySem.W.clsIn X.K D with
        | none => rw [h6] at h5; exact h5
        | some => rfl) C.hg C.hk C.hs C.ha C.hn C.ht C.hm) I.kIn J e (fun z => nomatch z) fun tk => ⟨.bl b, H, I.kept (t' := tk) fun _ _ z => z, rfl, q⟩
end
section
variable {M : Md} {W W' Wa W0 W1 : Wd} {H H' Ha H1 : Hp} {S S' : Sta} {σ : L2.St} {ε : Env} {X : WX}
variable {ta tb tc te : TE} {ma mb mc me : Env → Sta → Out PV} {ts tr : TA} {ms mr : Env → Sta → Out (List PV)}
def NewXE (c : String) (names : List Str) (ms : Env → Sta → Out (List PV)) : Env → Sta → Out PV := fun ε S => (ms ε S).bind fun xs S1 => if xs.length = names.length then .ok (.obj c names xs) S1 else .stuck
def NewX0E (c : String) : Env → Sta → Out PV := fun _ S => .ok (.obj c [] []) S
theorem re_newx0 {c : String} (hn : M.fl c = []) (he : M.er c = true) : RE M W0 X (tMkV0 (M.AD c)) (NewX0E c) := fun W H S σ ε le r er Q q a ha => by
  obtain ⟨r2, g2⟩ := r.new (o := exo a (M.AD c) none) ha
  exact q _ _ _ g2 r2 (.obj (vs := []) (.inr ⟨he, hn.symm, .inl ⟨rfl, upd_same⟩⟩) rfl .nil)
theorem re_newx {c : String} {names : List Str} (h : RA M W0 X ts ms) (hn : M.fl c = names) (he : M.er c = true) (hz : names.length ≤ 1000) (h0 : names ≠ []) : RE M W0 X (tMkV (M.AD c) (spIni (M.AD c) names) ts) (NewXE c names ms) := fun W H S σ ε le r0 er Q q =>
  h.thn (.refl W H) le r0 er q fun vs xs S1 W1 H1 g1 r1 p1 q1 => by
    obtain ⟨hl, q2⟩ := ite_post q1
    have lw := rpa_len p1
    refine ⟨by omega, fun a ha => ⟨a, vs, rfl, by omega, upd_same, fun dx hdx hne => ⟨rfl, ?_⟩⟩⟩
    have hd1 : H1 dx = none := by rw [upd_ne hne] at hdx; exact hdx
    have hH : upd (upd (upd H1 a (exo a (M.AD c) none)) dx (exd dx (names.zip vs).reverse)) a (exo a (M.AD c) (some dx)) = upd (upd H1 dx (exd dx (names.zip vs).reverse)) a (exo a (M.AD c) (some dx)) := by
      funext b
      by_cases y : b = a
      · subst y; rw [upd_same, upd_same]
      · rw [upd_ne y, upd_ne y]
        by_cases z : b = dx
        · subst z; rw [upd_same, upd_same]
        · rw [upd_ne z, upd_ne y, upd_ne z]
    rw [hH]
    obtain ⟨r2, g2⟩ := r1.new (o := exd dx (names.zip vs).reverse) hd1
    have ha2 : upd H1 dx (exd dx (names.zip vs).reverse) a = none := by rw [upd_ne (Ne.symm hne)]; exact ha
    obtain ⟨r3, g3⟩ := r2.new (o := exo a (M.AD c) (some dx)) ha2
    refine q2 _ _ _ ((g1.trans g2).trans g3) r3 (.obj (vs := vs) (.inr ⟨he, hn.symm, .inr ⟨dx, h0, upd_same, ?_⟩⟩) hl.symm (rpa_up (g2.trans g3).le _ _ p1))
    show upd (upd W1.B dx (exd dx (names.zip vs).reverse)) a (exo a (M.AD c) (some dx)) dx = _
    rw [upd_ne hne, upd_same]
/-- e.f, e being an error of one of the classes cs -/
def XvE (cs : List String) (f : Str) (me : Env → Sta → Out PV) : Env → Sta → Out PV := fun ε S => (me ε S).bind fun p S1 => match p with
  | .obj c ns xs => if c ∈ cs then lift (zlook f ns xs) S1 else .stuck
  | _ => .stuck
def Xlds (M : Md) (cs : List String) (f : Str) : Prop := ∀ c ∈ cs, M.er c = true ∧ (M.fl c).Nodup ∧ XfC M.K (M.AD c) ∧ PySem.W.findIn M.K (.ref (M.AD c)) f = some none
theorem xlds_nil {f : Str} : Xlds M [] f := fun c h => by cases h
theorem xlds_cons {c : String} {cs : List String} {f : Str} (h0 : M.er c = true) (hn : (M.fl c).Nodup) (h1 : XfC M.K (M.AD c)) (h2 : PySem.W.findIn M.K (.ref (M.AD c)) f = some none) (h : Xlds M cs f) : Xlds M (c :: cs) f := fun d hd => by
  rcases List.mem_cons.mp hd with rfl | hd
  · exact ⟨h0, hn, h1, h2⟩
  · exact h d hd
theorem zlook_ix {f : Str} {p : PV} : ∀ {ns : List Str} {xs : List PV}, zlook f ns xs = some p → ∃ k : Nat, ns[k]? = some f ∧ xs[k]? = some p
  | [], xs, e => by cases xs <;> cases e
  | _ :: _, [], e => by cases e
  | n :: ns, x :: xs, e => by
    unfold zlook at e
    by_cases z : f = n
    · rw [if_pos z] at e
      cases e
      exact ⟨0, by simp [z], rfl⟩
    · rw [if_neg z] at e
      obtain ⟨k, a, b⟩ := zlook_ix e
      exact ⟨k + 1, by simpa using a, by simpa using b⟩
theorem re_xv {cs : List String} {f : Str} (h : RE M W0 X te me) (hc : Xlds M cs f) : RE M W0 X (tXv M.K te f) (XvE cs f me) := fun W H S σ ε le r0 er Q q =>
  h.thn (.refl W H) le r0 er q fun v p S1 W1 H1 g1 r1 p1 q1 => by
    split at q1
    · rename_i c ns xs
      obtain ⟨hm, q2⟩ := ite_post q1
      obtain ⟨x, ex, q3⟩ := opost_lift q2
      obtain ⟨he, hnd, T, hno⟩ := hc c hm
      obtain ⟨k, e1, e2⟩ := zlook_ix ex
      cases p1 with
      | obj hb hl ha =>
        rcases hb with ⟨h0, _⟩ | ⟨_, hf, ⟨h1, _⟩ | ⟨dx, h1, h2, h3⟩⟩
        · rw [he] at h0; cases h0
        · rw [h1] at e1; simp at e1
        · obtain ⟨w, c1, c2⟩ := rpa_get ha e2
          exact ⟨_, _, dx, _, w, rfl, r1.i _ _ h2, r1.i _ _ h3, T, hno, lookup_zip_rev (by rw [rpa_len ha, hl]) (by rw [hf]; exact hnd) e1 c1, q3 w W1 H1 g1 r1 c2⟩
    · exact q1.elim
/-- isinstance(e, C), e being such an error -/
def IsvE (tab : String → Option Bool) (me : Env → Sta → Out PV) : Env → Sta → Out PV := fun ε S => (me ε S).bind fun p S1 => match p with
  | .obj c _ _ => (lift (tab c) S1).bind fun b S1 => .ok (.bl b) S1
  | _ => .stuck
theorem re_isv {tab : String → Option Bool} {cv : V} {cu : Value} (h : RE M W0 X te me) (hu : ∀ u, RelV cv u → u = cu) (ht : ∀ c b, tab c = some b → M.er c = true ∧ ExcC M.K (M.AD c) ∧ PySem.W.kitOne M.K (.ref (M.AD c)) cu = some b) :
    RE M W0 X (tCB (rIsV M.K) (tCons te (tCons (tC cv) tNil))) (IsvE tab me) := fun W H S σ ε le r0 er Q q =>
  h.thn (.refl W H) le r0 er q fun v p S1 W1 H1 g1 r1 p1 q1 => by
    split at q1
    · rename_i c ns xs
      rw [opost_bind] at q1
      obtain ⟨b, eb, q2⟩ := opost_lift q1
      obtain ⟨he, hx, hk⟩ := ht c b eb
      cases p1 with
      | obj hb hl ha =>
        rcases hb with ⟨h0, _⟩ | ⟨_, hf, ⟨h1, h2⟩ | ⟨dx, h1, h2, h3⟩⟩
        · rw [he] at h0; cases h0
        · exact ⟨_, _, none, cv, cu, b, rfl, r1.i _ _ h2, fun dd e => (by cases e), hx, hu, hk, q2 _ W1 H1 g1 r1 (.bl b)⟩
        · exact ⟨_, _, some dx, cv, cu, b, rfl, r1.i _ _ h2, fun dd e => (by cases e; exact ⟨_, r1.i _ _ h3⟩), hx, hu, hk, q2 _ W1 H1 g1 r1 (.bl b)⟩
    · exact q1.elim
end
end Fx
namespace Fx
open PySem PySem.Spec PyProof.Rows L2 Co
theorem all_nil {α : Type} {P : α → Prop} : ∀ c ∈ ([] : List α), P c := fun c h => by cases h
theorem all_cons {α : Type} {P : α → Prop} {x : α} {xs : List α} (h : P x) (k : ∀ c ∈ xs, P c) : ∀ c ∈ x :: xs, P c := fun c hc => by
  rcases List.mem_cons.mp hc with rfl | hc
  · exact h
  · exact k c hc
/-- the classes over an error class that stands straight under F, F under ValueError -/
def MroIs (K : PySem.W.Frag) (d F : Addr) : Prop := (PySem.W.clsIn K d).map (fun c => c.mro) = some [.ref d, .ref F, .type "ValueError", .type "Exception", .type "BaseException", .type "object"]
section
variable {K : PySem.W.Frag} {d F c : Addr}
theorem mro_in (h : MroIs K d F) (b : Value) : PySem.W.subIn K (.ref d) b = some ([Value.ref d, .ref F, .type "ValueError", .type "Exception", .type "BaseException", .type "object"].contains b) := by
  unfold MroIs at h
  obtain ⟨cd, h1, h2⟩ := Option.map_eq_some_iff.mp h
  show PySem.W.mroIn K d b = _
  unfold PySem.W.mroIn
  rw [h1, Option.bind_some, h2]
  rfl
theorem MroIs.obj (h : MroIs K d F) : PySem.W.mroIn K d (.type "object") = some true := by
  have := mro_in h (.type "object")
  have e : ([Value.ref d, .ref F, .type "ValueError", .type "Exception", .type "BaseException", .type "object"].contains (.type "object")) = true := rfl
  rw [e] at this
  exact this
theorem ref_beq {a b : Addr} : (Value.ref a == Value.ref b) = decide (a = b) := by
  by_cases h : a = b
  · subst h; simp
  · simp [h]
theorem mro_ref : [Value.ref d, .ref F, .type "ValueError", .type "Exception", .type "BaseException", .type "object"].contains (Value.ref c) = (decide (c = d) || (decide (c = F) || false)) := by
  rw [List.contains_cons, List.contains_cons, ref_beq, ref_beq]
  rfl
theorem kit_mro (h : MroIs K d F) (h2 : PySem.W.isClsIn K c = true) (h3 : PySem.W.typeIn K (.ref c) = some (.type "type")) (hF : c ≠ F) : PySem.W.kitOne K (.ref d) (.ref c) = some (decide (d = c)) := by
  unfold PySem.W.kitOne
  by_cases e : d = c
  · subst e; simp
  · rw [if_neg (show ¬ ((Value.ref d == Value.ref c) = true) by rw [ref_beq]; simpa using e)]
    have h5 : (PySem.W.clsIn K c).isSome = true := h2
    have a2 : ((PySem.W.clsIn K c).isSome && PySem.W.typeIn K (.ref c) == some (.type "type")) = true := by rw [h5, h3]; rfl
    show (if ((PySem.W.clsIn K c).isSome && PySem.W.typeIn K (.ref c) == some (.type "type")) = true then PySem.W.subIn K (.ref d) (.ref c) else none) = _
    rw [if_pos a2, mro_in h, mro_ref]
    congr 1
    have e' : ¬ c = d := fun z => e z.symm
    simp only [e, e', hF, decide_false, Bool.or_false]
end
section
variable {K : PySem.W.Frag} {AD : String → Addr} {F : String} {L : List String}
theorem nodup_inj {α β : Type} {f : α → β} : ∀ {xs : List α}, (xs.map f).Nodup → ∀ a ∈ xs, ∀ b ∈ xs, f a = f b → a = b
  | [], _, _, h, _, _, _ => by cases h
  | x :: xs, nd, a, ha, b, hb, e => by
    rw [List.map_cons, List.nodup_cons] at nd
    rcases List.mem_cons.mp ha with q1 | q1
    · rcases List.mem_cons.mp hb with q2 | q2
      · rw [q1, q2]
      · have hm : f b ∈ xs.map f := List.mem_map_of_mem q2
        rw [← e, q1] at hm
        exact absurd hm nd.1
    · rcases List.mem_cons.mp hb with q2 | q2
      · have hm : f a ∈ xs.map f := List.mem_map_of_mem q1
        rw [e, q2] at hm
        exact absurd hm nd.1
      · exact nodup_inj nd.2 a q1 b q2 e
theorem kk_of (h : ∀ c ∈ L, PySem.W.isClsIn K (AD c) = true ∧ PySem.W.typeIn K (.ref (AD c)) = some (.type "type") ∧ MroIs K (AD c) (AD F)) (nd : ((F :: L).map AD).Nodup) :
    ∀ d ∈ L, ∀ c ∈ L, PySem.W.kitOne K (.ref (AD d)) (.ref (AD c)) = some (decide (d = c)) := fun d hd c hc => by
  have hF : AD c ≠ AD F := fun z => by
    rw [List.map_cons, List.nodup_cons] at nd
    exact nd.1 (z ▸ List.mem_map_of_mem hc)
  rw [kit_mro (h d hd).2.2 (h c hc).1 (h c hc).2.1 hF]
  congr 1
  have : AD d = AD c ↔ d = c := ⟨fun z => nodup_inj nd d (List.mem_cons_of_mem _ hd) c (List.mem_cons_of_mem _ hc) z, fun z => by rw [z]⟩
  simp [this]
theorem kF_of (h2 : PySem.W.isClsIn K (AD F) = true) (h3 : PySem.W.typeIn K (.ref (AD F)) = some (.type "type")) (h : ∀ c ∈ L, MroIs K (AD c) (AD F)) : ∀ d ∈ L, PySem.W.kitOne K (.ref (AD d)) (.ref (AD F)) = some true := fun d hd =>
  kit_own h2 h3 (by rw [mro_in (h d hd), mro_ref]; simp only [decide_true, Bool.true_or, Bool.or_true])
theorem kV_of (h : ∀ c ∈ L, MroIs K (AD c) (AD F)) : ∀ d ∈ L, PySem.W.kitOne K (.ref (AD d)) (.type "ValueError") = some true := fun d hd =>
  kit_bas (by decide +kernel) (by rw [mro_in (h d hd)]; rfl)
end
end Fx
namespace Fx
open PySem PySem.Spec PyProof.Rows L2 Co
/-! ### a mirror, step by step -/
@[simp ↓] theorem VarE_ap {i : Nat} {ε : Env} {S : Sta} : VarE i ε S = (match ε[i]? with
  | some (some p) => .ok p S
  | _ => .stuck) := id rfl
@[simp ↓] theorem CE_ap {p : PV} {ε : Env} {S : Sta} : CE p ε S = (.ok p S) := id rfl
@[simp ↓] theorem OpE_ap {f : F2} {ma mb : Env → Sta → Out PV} {ε : Env} {S : Sta} : OpE f ma mb ε S = ((ma ε S).bind fun x S1 => (mb ε S1).bind fun y S2 => lift (f S2 x y) S2) := id rfl
@[simp ↓] theorem AndE_ap {ma mb : Env → Sta → Out PV} {ε : Env} {S : Sta} : AndE ma mb ε S = ((ma ε S).bind fun x S1 => (lift (truth x) S1).bind fun b S1 => if b = true then mb ε S1 else .ok (.bl false) S1) := id rfl
@[simp ↓] theorem OrE_ap {ma mb : Env → Sta → Out PV} {ε : Env} {S : Sta} : OrE ma mb ε S = ((ma ε S).bind fun x S1 => (lift (truth x) S1).bind fun b S1 => if b = true then .ok (.bl true) S1 else mb ε S1) := id rfl
@[simp ↓] theorem NotE_ap {ma : Env → Sta → Out PV} {ε : Env} {S : Sta} : NotE ma ε S = ((ma ε S).bind fun x S1 => (lift (truth x) S1).bind fun b S1 => .ok (.bl (!b)) S1) := id rfl
@[simp ↓] theorem TestE_ap {ma : Env → Sta → Out PV} {ε : Env} {S : Sta} : TestE ma ε S = ((ma ε S).bind fun x S1 => lift (truth x) S1) := id rfl
@[simp ↓] theorem TAnd_ap {ma mb : Env → Sta → Out Bool} {ε : Env} {S : Sta} : TAnd ma mb ε S = ((ma ε S).bind fun b S1 => if b = true then mb ε S1 else .ok false S1) := id rfl
@[simp ↓] theorem TOr_ap {ma mb : Env → Sta → Out Bool} {ε : Env} {S : Sta} : TOr ma mb ε S = ((ma ε S).bind fun b S1 => if b = true then .ok true S1 else mb ε S1) := id rfl
@[simp ↓] theorem TNot_ap {ma : Env → Sta → Out Bool} {ε : Env} {S : Sta} : TNot ma ε S = ((ma ε S).bind fun b S1 => .ok (!b) S1) := id rfl
@[simp ↓] theorem IfE_ap {mt : Env → Sta → Out Bool} {ma mb : Env → Sta → Out PV} {ε : Env} {S : Sta} : IfE mt ma mb ε S = ((mt ε S).bind fun b S1 => if b = true then ma ε S1 else mb ε S1) := id rfl
@[simp ↓] theorem ChainE_ap {f f' : F2} {ma mb mc : Env → Sta → Out PV} {ε : Env} {S : Sta} : ChainE f f' ma mb mc ε S = ((ma ε S).bind fun x S1 => (mb ε S1).bind fun y S2 => (lift (f S2 x y) S2).bind fun w S2 => (lift (truth w) S2).bind fun b S2 => if b = true then (mc ε S2).bind fun z S3 => lift (f' S3 y z) S3 else .ok (.bl false) S2) := id rfl
@[simp ↓] theorem NilA_ap  {ε : Env} {S : Sta} : NilA  ε S = (.ok [] S) := id rfl
@[simp ↓] theorem ConsA_ap {me : Env → Sta → Out PV} {mr : Env → Sta → Out (List PV)} {ε : Env} {S : Sta} : ConsA me mr ε S = ((me ε S).bind fun x S1 => (mr ε S1).bind fun xs S2 => .ok (x :: xs) S2) := id rfl
@[simp ↓] theorem TupE_ap {ms : Env → Sta → Out (List PV)} {ε : Env} {S : Sta} : TupE ms ε S = ((ms ε S).bind fun xs S1 => if xs.length ≤ 100000 then .ok (.tup xs) S1 else .stuck) := id rfl
@[simp ↓] theorem LstE_ap {ms : Env → Sta → Out (List PV)} {ε : Env} {S : Sta} : LstE ms ε S = ((ms ε S).bind fun xs S1 => if xs.length ≤ 100000 then .ok (.lst xs) S1 else .stuck) := id rfl
@[simp ↓] theorem LmuE_ap {ms : Env → Sta → Out (List PV)} {ε : Env} {S : Sta} : LmuE ms ε S = ((ms ε S).bind fun xs S1 => if xs.length ≤ 100000 then newL xs S1 else .stuck) := id rfl
@[simp ↓] theorem CbE_ap {f : FC} {ms : Env → Sta → Out (List PV)} {ε : Env} {S : Sta} : CbE f ms ε S = ((ms ε S).bind fun xs S1 => calm (f xs S1)) := id rfl
@[simp ↓] theorem CallE_ap {f : FC} {dps : List PV} {ms : Env → Sta → Out (List PV)} {ε : Env} {S : Sta} : CallE f dps ms ε S = ((ms ε S).bind fun xs S1 => f (xs ++ dps) S1) := id rfl
@[simp ↓] theorem IsiE_ap {k : Ty} {ma : Env → Sta → Out PV} {ε : Env} {S : Sta} : IsiE k ma ε S = ((ma ε S).bind fun x S1 => (lift (tyP S1 x) S1).bind fun t S1 => .ok (.bl (isT t k)) S1) := id rfl
@[simp ↓] theorem IsiTE_ap {k l : Ty} {ma : Env → Sta → Out PV} {ε : Env} {S : Sta} : IsiTE k l ma ε S = ((ma ε S).bind fun x S1 => (lift (tyP S1 x) S1).bind fun t S1 => .ok (.bl (isT t k || isT t l)) S1) := id rfl
@[simp ↓] theorem NoO_ap  {ε : Env} {S : Sta} : NoO  ε S = (.ok none S) := id rfl
@[simp ↓] theorem PartO_ap {me : Env → Sta → Out PV} {ε : Env} {S : Sta} : PartO me ε S = ((me ε S).bind fun x S1 => match x with
  | .int i => .ok (some i) S1
  | _ => .stuck) := id rfl
@[simp ↓] theorem SlE_ap {ma : Env → Sta → Out PV} {ml mh : Env → Sta → Out (Option Int)} {ε : Env} {S : Sta} : SlE ma ml mh ε S = ((ma ε S).bind fun x S1 => (ml ε S1).bind fun l S2 => (mh ε S2).bind fun u S3 => lift (fSl S3 x l u) S3) := id rfl
@[simp ↓] theorem JoinE_ap {ma mb : Env → Sta → Out PV} {ε : Env} {S : Sta} : JoinE ma mb ε S = ((ma ε S).bind fun x S1 => match x with
  | .str a => (mb ε S1).bind fun y S2 => match items S2 y with
    | some (_, ys) => match strsP ys with
      | some zs => if (zs.map (·.length)).sum + zs.length * a.length ≤ 100000 then .ok (.str (Txt.join a zs)) S2 else .stuck
      | none => .stuck
    | none => .stuck
  | _ => .stuck) := id rfl
@[simp ↓] theorem NextS_ap  {ε : Env} {S : Sta} : NextS  ε S = (.nx ε S) := id rfl
@[simp ↓] theorem BreakS_ap  {ε : Env} {S : Sta} : BreakS  ε S = (.bk ε S) := id rfl
@[simp ↓] theorem ContS_ap  {ε : Env} {S : Sta} : ContS  ε S = (.ct ε S) := id rfl
@[simp ↓] theorem RetNS_ap  {ε : Env} {S : Sta} : RetNS  ε S = (.rt .non S) := id rfl
@[simp ↓] theorem RetS_ap {me : Env → Sta → Out PV} {ε : Env} {S : Sta} : RetS me ε S = ((me ε S).flow ε fun p S1 => .rt p S1) := id rfl
@[simp ↓] theorem DropS_ap {me : Env → Sta → Out PV} {ε : Env} {S : Sta} : DropS me ε S = ((me ε S).flow ε fun _ S1 => .nx ε S1) := id rfl
@[simp ↓] theorem AsgS_ap {me : Env → Sta → Out PV} {g : MG} {ε : Env} {S : Sta} : AsgS me g ε S = ((me ε S).flow ε fun p S1 => match g p ε S1 with
  | .ok ε' S2 => .nx ε' S2
  | _ => .stuck) := id rfl
@[simp ↓] theorem SetS_ap {i : Nat} {me : Env → Sta → Out PV} {ε : Env} {S : Sta} : SetS i me ε S = ((me ε S).flow ε fun p S1 => .nx (ε.set i (some p)) S1) := id rfl
@[simp ↓] theorem IfS_ap {mc : Env → Sta → Out Bool} {m m' : Env → Sta → Flow} {ε : Env} {S : Sta} : IfS mc m m' ε S = ((mc ε S).flow ε fun b S1 => if b = true then m ε S1 else m' ε S1) := id rfl
@[simp ↓] theorem SeqS_ap {m m' : Env → Sta → Flow} {ε : Env} {S : Sta} : SeqS m m' ε S = ((m ε S).then m') := id rfl
@[simp ↓] theorem AugS_ap {i : Nat} {me : Env → Sta → Out PV} {f : F2} {ε : Env} {S : Sta} : AugS i me f ε S = (match ε[i]? with
  | some (some x) => (me ε S).flow ε fun y S1 => match f S1 x y with
    | some z => .nx (ε.set i (some z)) S1
    | none => .stuck
  | _ => .stuck) := id rfl
@[simp ↓] theorem RaiseS_ap {c : String} {names : List Str} {ms : Env → Sta → Out (List PV)} {ε : Env} {S : Sta} : RaiseS c names ms ε S = ((ms ε S).flow ε fun xs S1 => if xs.length = names.length then .ex c xs ε S1 else .stuck) := id rfl
@[simp ↓] theorem Raise0S_ap {c : String} {ε : Env} {S : Sta} : Raise0S c ε S = (.ex c [] ε S) := id rfl
@[simp ↓] theorem TryAsS_ap {i : Nat} {sub : String → Option Bool} {mb : Env → Sta → Flow} {ms : String → List PV → Nat → Env → Sta → Flow} {ε : Env} {S : Sta} : TryAsS i sub mb ms ε S = (match mb ε S with
  | .ex c xs ε' S' => match sub c with
    | some true => unslot i (ms c xs S'.length (ε'.set i (some (.xv S'.length))) (S' ++ [.dead]))
    | some false => .ex c xs ε' S'
    | none => .stuck
  | f => f) := id rfl
@[simp ↓] theorem TryS_ap {sub : String → Option Bool} {mb : Env → Sta → Flow} {ms : String → List PV → Env → Sta → Flow} {ε : Env} {S : Sta} : TryS sub mb ms ε S = (match mb ε S with
  | .ex c xs ε' S' => match sub c with
    | some true => ms c xs ε' S'
    | some false => .ex c xs ε' S'
    | none => .stuck
  | f => f) := id rfl
@[simp ↓] theorem XfE_ap {c0 : String} {k : Nat} {c : String} {xs : List PV} {n i : Nat} {ε : Env} {S : Sta} : XfE c0 k c xs n i ε S = (match ε[i]? with
  | some (some (.xv n')) => if n' = n ∧ c = c0 then (match xs[k]? with
    | some p => .ok p S
    | none => .stuck) else .stuck
  | _ => .stuck) := id rfl
@[simp ↓] theorem SeqI_ap {me : Env → Sta → Out PV} {ε : Env} {S : Sta} : SeqI me ε S = ((me ε S).bind fun p S1 => (lift (seqIt S1 p) S1).bind fun x S1 => .ok x.2 S1) := id rfl
@[simp ↓] theorem Rng1I_ap {ms : Env → Sta → Out (List PV)} {ε : Env} {S : Sta} : Rng1I ms ε S = ((ms ε S).bind fun xs S1 => match xs with
  | [.int n] => if -4611686018427387904 ≤ n ∧ n < 4611686018427387904 then .ok ⟨intsP 0 n.toNat, []⟩ S1 else .stuck
  | _ => .stuck) := id rfl
@[simp ↓] theorem Rng2I_ap {ms : Env → Sta → Out (List PV)} {ε : Env} {S : Sta} : Rng2I ms ε S = ((ms ε S).bind fun xs S1 => match xs with
  | [.int i, .int j] => if -4611686018427387904 ≤ i ∧ i < 4611686018427387904 ∧ -4611686018427387904 ≤ j ∧ j < 4611686018427387904 then .ok ⟨intsP i (j - i).toNat, []⟩ S1 else .stuck
  | _ => .stuck) := id rfl
@[simp ↓] theorem StrI_ap {me : Env → Sta → Out PV} {ε : Env} {S : Sta} : StrI me ε S = ((me ε S).bind fun p S1 => match p with
  | .str z => .ok ⟨z.cps.toList.map fun c => .str ⟨#[c]⟩, []⟩ S1
  | _ => .stuck) := id rfl
@[simp ↓] theorem ZipI_ap {ms : Env → Sta → Out (List PV)} {ε : Env} {S : Sta} : ZipI ms ε S = ((ms ε S).bind fun xs S1 => match xs with
  | [x, y] => match seqIt S1 x, seqIt S1 y with
    | some (_, i1), some (_, i2) => .ok (zipIt i1 i2) S1
    | _, _ => .stuck
  | _ => .stuck) := id rfl
@[simp ↓] theorem RevI_ap {me : Env → Sta → Out PV} {ε : Env} {S : Sta} : RevI me ε S = ((me ε S).bind fun p S1 => (lift (seqIt S1 p) S1).bind fun x S1 => .ok ⟨x.2.xs.reverse, x.2.pins⟩ S1) := id rfl
@[simp ↓] theorem ForS_ap {mi : Env → Sta → Out IT} {g : MG} {mb : Env → Sta → Flow} {ε : Env} {S : Sta} : ForS mi g mb ε S = ((mi ε S).flow ε fun it S1 => loop g mb it.pins it.xs ε S1) := id rfl
@[simp ↓] theorem YesT_ap  {ε : Env} {S : Sta} : YesT  ε S = (.ok true S) := id rfl
@[simp ↓] theorem LcA_ap {mi : Env → Sta → Out IT} {g : MG} {mc : Env → Sta → Out Bool} {me : Env → Sta → Out PV} {vs : List Nat} {ε : Env} {S : Sta} : LcA mi g mc me vs ε S = ((mi ε S).bind fun it S1 => lcLoop g mc me it.pins (wipeP ε vs) it.xs [] S1) := id rfl
@[simp ↓] theorem LcE_ap {mi : Env → Sta → Out IT} {g : MG} {mc : Env → Sta → Out Bool} {me : Env → Sta → Out PV} {vs : List Nat} {ε : Env} {S : Sta} : LcE mi g mc me vs ε S = ((LcA mi g mc me vs ε S).bind fun acc S2 => .ok (.lst acc) S2) := id rfl
@[simp ↓] theorem LcM_ap {mi : Env → Sta → Out IT} {g : MG} {mc : Env → Sta → Out Bool} {me : Env → Sta → Out PV} {vs : List Nat} {ε : Env} {S : Sta} : LcM mi g mc me vs ε S = ((LcA mi g mc me vs ε S).bind fun acc S2 => newL acc S2) := id rfl
@[simp ↓] theorem NegE_ap {me : Env → Sta → Out PV} {ε : Env} {S : Sta} : NegE me ε S = ((me ε S).bind fun x S1 => match x with
  | .int i => .ok (.int (-i)) S1
  | _ => .stuck) := id rfl
@[simp ↓] theorem LrgE_ap {me : Env → Sta → Out PV} {ε : Env} {S : Sta} : LrgE me ε S = ((me ε S).bind fun x S1 => match x with
  | .int n => if -1000 ≤ n ∧ n ≤ 90000 then .ok (.lst (intsP 0 n.toNat)) S1 else .stuck
  | _ => .stuck) := id rfl
@[simp ↓] theorem TrvE_ap {me : Env → Sta → Out PV} {ε : Env} {S : Sta} : TrvE me ε S = ((me ε S).bind fun x S1 => match look S1 x with
  | .lst xs => .ok (.tup xs.reverse) S1
  | _ => .stuck) := id rfl
@[simp ↓] theorem AppE_ap {mo me : Env → Sta → Out PV} {ε : Env} {S : Sta} : AppE mo me ε S = ((mo ε S).bind fun o S1 => match o with
  | .mu n => match S1[n]? with
    | some (.lst _) => (me ε S1).bind fun p S2 => match S2[n]? with
      | some (.lst xs) => if xs.length < 100000 then .ok .non (S2.set n (.lst (xs ++ [p]))) else .stuck
      | _ => .stuck
    | _ => .stuck
  | _ => .stuck) := id rfl
section
variable {α β : Type} {a : α} {o o' : Out α} {S S' : Sta} {ε ε' : Env} {c : String} {xs : List PV}
@[simp] theorem bind_ok {f : α → Sta → Out β} : (Out.ok a S).bind f = f a S := id rfl
@[simp] theorem bind_ex {f : α → Sta → Out β} : (Out.ex c xs S).bind f = .ex c xs S := id rfl
@[simp] theorem bind_stuck {f : α → Sta → Out β} : (Out.stuck : Out α).bind f = .stuck := id rfl
@[simp] theorem flow_ok {f : α → Sta → Flow} : (Out.ok a S).flow ε f = f a S := id rfl
@[simp] theorem flow_ex {f : α → Sta → Flow} : (Out.ex c xs S : Out α).flow ε f = .ex c xs ε S := id rfl
@[simp] theorem flow_stuck {f : α → Sta → Flow} : (Out.stuck : Out α).flow ε f = .stuck := id rfl
@[simp] theorem then_nx {k : Env → Sta → Flow} : (Flow.nx ε S).then k = k ε S := id rfl
@[simp] theorem then_rt {k : Env → Sta → Flow} {p : PV} : (Flow.rt p S).then k = .rt p S := id rfl
@[simp] theorem then_bk {k : Env → Sta → Flow} : (Flow.bk ε S).then k = .bk ε S := id rfl
@[simp] theorem then_ct {k : Env → Sta → Flow} : (Flow.ct ε S).then k = .ct ε S := id rfl
@[simp] theorem then_ex {k : Env → Sta → Flow} : (Flow.ex c xs ε S).then k = .ex c xs ε S := id rfl
@[simp] theorem then_stuck {k : Env → Sta → Flow} : (Flow.stuck).then k = .stuck := id rfl
@[simp] theorem lift_some : lift (some a) S = .ok a S := id rfl
@[simp] theorem lift_none : lift (none : Option α) S = .stuck := id rfl
@[simp] theorem quiet_ok : quiet (Out.ok a S) = .ok a S := id rfl
@[simp] theorem calm_ok {p : PV} : calm (Out.ok p S) = .ok p S := id rfl
@[simp] theorem truth_bl {b : Bool} : truth (.bl b) = some b := id rfl
@[simp] theorem nameG_ap {i : Nat} {p : PV} : NameG i p ε S = .ok (ε.set i (some p)) S := id rfl
@[simp] theorem nilG_ap : NilG [] ε S = .ok ε S := id rfl
@[simp] theorem consG_ap {g : MG} {gs : List PV → Env → Sta → Out Env} {p : PV} {ps : List PV} : ConsG g gs (p :: ps) ε S = (g p ε S).bind fun ε1 S1 => gs ps ε1 S1 := id rfl
@[simp] theorem tupG_ap {n : Nat} {gs : List PV → Env → Sta → Out Env} {ps : List PV} : TupG n gs (.tup ps) ε S = if ps.length = n then gs ps ε S else .stuck := id rfl
@[simp] theorem subG_ap {mo mi : Env → Sta → Out PV} {p : PV} : SubG mo mi p ε S = ((quiet (mo ε S)).bind fun o S1 => (quiet (mi ε S1)).bind fun i S2 => match putL S2 o i p with
  | some S3 => .ok ε S3
  | none => .stuck) := id rfl
@[simp] theorem look_lst' : look S (.lst xs) = .lst xs := id rfl
@[simp] theorem look_kls' : look S (.kls xs) = .lst xs := id rfl
@[simp] theorem look_tup' : look S (.tup xs) = .tup xs := id rfl
@[simp] theorem look_int' {i : Int} : look S (.int i) = .int i := id rfl
@[simp] theorem look_str' {z : Str} : look S (.str z) = .str z := id rfl
@[simp] theorem look_bl' {z : Bool} : look S (.bl z) = .bl z := id rfl
@[simp] theorem look_non' : look S .non = .non := id rfl
@[simp] theorem look_dct' : look S .dct = .dct := id rfl
@[simp] theorem look_mu' {n : Nat} : look S (.mu n) = (match S[n]? with
    | some (.lst xs) => .lst xs
    | _ => .mu n) := id rfl
@[simp] theorem items_lst : items S (.lst xs) = some (true, xs) := id rfl
@[simp] theorem items_dct : items S .dct = none := id rfl
@[simp] theorem items_kls : items S (.kls xs) = some (true, xs) := id rfl
@[simp] theorem items_tup : items S (.tup xs) = some (false, xs) := id rfl
@[simp] theorem items_mu {n : Nat} : items S (.mu n) = (match look S (.mu n) with
  | .lst xs => some (true, xs)
  | .tup xs => some (false, xs)
  | _ => none) := id rfl
@[simp] theorem seqIt_lst : seqIt S (.lst xs) = some (true, ⟨xs, []⟩) := id rfl
@[simp] theorem seqIt_kls : seqIt S (.kls xs) = some (true, ⟨xs, []⟩) := id rfl
@[simp] theorem seqIt_tup : seqIt S (.tup xs) = some (false, ⟨xs, []⟩) := id rfl
@[simp] theorem seqIt_mu {n : Nat} : seqIt S (.mu n) = (match S[n]? with
    | some (.lst xs) => some (true, ⟨xs, [(n, xs)]⟩)
    | _ => none) := id rfl
@[simp] theorem fI_ap {C : Int → Int → Prop} [∀ i j, Decidable (C i j)] {g : Int → Int → PV} {i j : Int} : fI C g S (.int i) (.int j) = if C i j then some (g i j) else none := id rfl
@[simp] theorem fAdd_int {i j : Int} : fAdd S (.int i) (.int j) = some (.int (i + j)) := id rfl
@[simp] theorem fAdd_str {i j : Str} : fAdd S (.str i) (.str j) = if i.length + j.length ≤ 100000 then some (.str (i ++ j)) else none := id rfl
@[simp] theorem fAdd_tup {ys : List PV} : fAdd S (.tup xs) (.tup ys) = if xs.length + ys.length ≤ 100000 then some (.tup (xs ++ ys)) else none := id rfl
@[simp] theorem fAdd_lst {ys : List PV} : fAdd S (.lst xs) (.lst ys) = if xs.length + ys.length ≤ 100000 then some (.lst (xs ++ ys)) else none := id rfl
@[simp] theorem fIsN_ap {p : PV} : fIsN S p .non = some (.bl (isNonP p)) := id rfl
@[simp] theorem fNotN_ap {p : PV} : fNotN S p .non = some (.bl (!isNonP p)) := id rfl
@[simp] theorem isNon_non : isNonP .non = true := id rfl
@[simp] theorem isNon_int {i : Int} : isNonP (.int i) = false := id rfl
@[simp] theorem isNon_str {i : Str} : isNonP (.str i) = false := id rfl
@[simp] theorem isNon_bl {i : Bool} : isNonP (.bl i) = false := id rfl
@[simp] theorem isNon_lst : isNonP (.lst xs) = false := id rfl
@[simp] theorem isNon_tup : isNonP (.tup xs) = false := id rfl
@[simp] theorem isNon_mu {n : Nat} : isNonP (.mu n) = false := id rfl
@[simp] theorem isNon_obj {n : List Str} : isNonP (.obj c n xs) = false := id rfl
@[simp] theorem fIsB_ap {a b : Bool} : fIsB S (.bl a) (.bl b) = some (.bl (decide (a = b))) := id rfl
@[simp] theorem fIx_lst {i : Int} : fIx S (.lst xs) (.int i) = atI xs i := id rfl
@[simp] theorem fIx_tup {i : Int} : fIx S (.tup xs) (.int i) = atI xs i := id rfl
@[simp] theorem fIx_str {z : Str} {i : Int} : fIx S (.str z) (.int i) = if z.length ≤ 100000 then (atI z.cps.toList i).map fun c => .str ⟨#[c]⟩ else none := id rfl
@[simp] theorem fIx_mu {n : Nat} {i : Int} : fIx S (.mu n) (.int i) = (match S[n]? with
  | some (.lst xs) => atI xs i
  | _ => none) := by
  unfold fIx look
  dsimp only
  cases S[n]? with
  | none => rfl
  | some c => cases c <;> rfl
@[simp] theorem fLen_ap {p : PV} : fLen [p] S = (match look S p with
    | .lst ys => .ok (.int (ys.length : Int)) S
    | .tup ys => .ok (.int (ys.length : Int)) S
    | .str z => if z.length ≤ 100000 then .ok (.int (z.length : Int)) S else .stuck
    | _ => .stuck) := id rfl
@[simp] theorem fTuple_ap {p : PV} : fTuple [p] S = (match look S p with
    | .lst ys => .ok (.tup ys) S
    | .tup ys => .ok (.tup ys) S
    | _ => .stuck) := id rfl
@[simp] theorem fList_ap {p : PV} : fList [p] S = (match items S p with
    | some (_, ys) => .ok (.lst ys) S
    | none => .stuck) := id rfl
@[simp] theorem fListM_ap {p : PV} : fListM [p] S = (match items S p with
    | some (_, ys) => .ok (.mu S.length) (S ++ [.lst ys])
    | none => .stuck) := id rfl
@[simp] theorem fAll_ap {ys : List PV} : fAll [.lst ys] S = (match bools ys with
      | some bs => .ok (.bl (bs.all id)) S
      | none => .stuck) := id rfl
@[simp] theorem fAbs_ap {i : Int} : fAbs [.int i] S = .ok (.int (if i < 0 then -i else i)) S := id rfl
@[simp] theorem fInt_ap {i : Int} : fInt [.int i] S = .ok (.int i) S := id rfl
@[simp] theorem fRepr_ap {p : PV} : fRepr [p] S = (match dat S p with
    | some d => if d.showable = true ∧ d.depth ≤ 60 ∧ d.shown.length ≤ 1000000 then .ok (.str d.shown) S else .stuck
    | none => .stuck) := id rfl
@[simp] theorem tyP_non : tyP S .non = some "NoneType" := id rfl
@[simp] theorem tyP_bl {b : Bool} : tyP S (.bl b) = some "bool" := id rfl
@[simp] theorem tyP_int {b : Int} : tyP S (.int b) = some "int" := id rfl
@[simp] theorem tyP_str {b : Str} : tyP S (.str b) = some "str" := id rfl
@[simp] theorem tyP_tup : tyP S (.tup xs) = some "tuple" := id rfl
@[simp] theorem tyP_lst : tyP S (.lst xs) = some "list" := id rfl
@[simp] theorem tyP_dct : tyP S .dct = some "dict" := id rfl
@[simp] theorem tyP_kls : tyP S (.kls xs) = some "list" := id rfl
@[simp] theorem tyP_mu {n : Nat} : tyP S (.mu n) = (match S[n]? with
  | some (.lst _) => some "list"
  | _ => none) := by
  unfold tyP look
  dsimp only
  cases S[n]? with
  | none => rfl
  | some c => cases c <;> rfl
@[simp] theorem isT_1 : isT "NoneType" .int = false := id rfl
@[simp] theorem isT_2 : isT "NoneType" .bool = false := id rfl
@[simp] theorem isT_3 : isT "NoneType" .str = false := id rfl
@[simp] theorem isT_4 : isT "NoneType" .list = false := id rfl
@[simp] theorem isT_5 : isT "NoneType" .tuple = false := id rfl
@[simp] theorem isT_6 : isT "bool" .int = true := id rfl
@[simp] theorem isT_7 : isT "bool" .bool = true := id rfl
@[simp] theorem isT_8 : isT "bool" .str = false := id rfl
@[simp] theorem isT_9 : isT "bool" .list = false := id rfl
@[simp] theorem isT_10 : isT "bool" .tuple = false := id rfl
@[simp] theorem isT_11 : isT "int" .int = true := id rfl
@[simp] theorem isT_12 : isT "int" .bool = false := id rfl
@[simp] theorem isT_13 : isT "int" .str = false := id rfl
@[simp] theorem isT_14 : isT "int" .list = false := id rfl
@[simp] theorem isT_15 : isT "int" .tuple = false := id rfl
@[simp] theorem isT_16 : isT "str" .int = false := id rfl
@[simp] theorem isT_17 : isT "str" .bool = false := id rfl
@[simp] theorem isT_18 : isT "str" .str = true := id rfl
@[simp] theorem isT_19 : isT "str" .list = false := id rfl
@[simp] theorem isT_20 : isT "str" .tuple = false := id rfl
@[simp] theorem isT_21 : isT "list" .int = false := id rfl
@[simp] theorem isT_22 : isT "list" .bool = false := id rfl
@[simp] theorem isT_23 : isT "list" .str = false := id rfl
@[simp] theorem isT_24 : isT "list" .list = true := id rfl
@[simp] theorem isT_25 : isT "list" .tuple = false := id rfl
@[simp] theorem isT_26 : isT "tuple" .int = false := id rfl
@[simp] theorem isT_27 : isT "tuple" .bool = false := id rfl
@[simp] theorem isT_28 : isT "tuple" .str = false := id rfl
@[simp] theorem isT_29 : isT "tuple" .list = false := id rfl
@[simp] theorem isT_30 : isT "tuple" .tuple = true := id rfl
@[simp] theorem isT_31 : isT "dict" .int = false := id rfl
@[simp] theorem isT_32 : isT "dict" .bool = false := id rfl
@[simp] theorem isT_33 : isT "dict" .str = false := id rfl
@[simp] theorem isT_34 : isT "dict" .list = false := id rfl
@[simp] theorem isT_35 : isT "dict" .tuple = false := id rfl
@[simp] theorem fEqA_int {i j : Int} : fEqA S (.int i) (.int j) = some (.bl (decide (i = j))) := id rfl
@[simp] theorem fNeA_int {i j : Int} : fNeA S (.int i) (.int j) = some (.bl (!decide (i = j))) := id rfl
@[simp] theorem fEqA_str {i j : Str} : fEqA S (.str i) (.str j) = some (.bl (decide (i = j))) := id rfl
@[simp] theorem fNeA_str {i j : Str} : fNeA S (.str i) (.str j) = some (.bl (!decide (i = j))) := id rfl
@[simp] theorem fEqA_bl {i j : Bool} : fEqA S (.bl i) (.bl j) = some (.bl (decide (i = j))) := id rfl
@[simp] theorem fNeA_bl {i j : Bool} : fNeA S (.bl i) (.bl j) = some (.bl (!decide (i = j))) := id rfl
@[simp] theorem putL_mu {n : Nat} {k : Int} {p : PV} : putL S (.mu n) (.int k) p = (match S[n]? with
    | some (.lst xs) => match ixN xs.length k with
      | some j => some (S.set n (.lst (xs.set j p)))
      | none => none
    | _ => none) := id rfl
@[simp] theorem pinsOk_n : pinsOk S [] = true := id rfl
@[simp] theorem pinsOk_1 {n : Nat} {ys : List PV} (h : S[n]? = some (.lst ys)) : pinsOk S [(n, ys)] = true := by
  simp [pinsOk, h, beqs_rfl]
@[simp] theorem leaveE_self {k : Nat} (h : S.length ≤ k) : leaveE k ε S = some (ε, S) := if_pos h
@[simp] theorem give_self {k : Nat} {p : PV} (h : S.length ≤ k) : give k p S = .ok p S := by
  unfold give leave; rw [if_pos h]
@[simp] theorem giveX_self {k : Nat} (h : S.length ≤ k) : giveX k c xs S = .ex c xs S := by
  unfold giveX leave; rw [if_pos h]
/-- the end of a def -/
def fin (keep : Bool) (k : Nat) : Flow → Out PV
  | .rt p S' => if keep = true then .ok p S' else give k p S'
  | .nx _ S' => if keep = true then .ok .non S' else give k .non S'
  | .ex c xs _ S' => giveX k c xs S'
  | _ => .stuck
@[simp ↓] theorem defM_run {keep : Bool} {n len : Nat} {body : Env → Sta → Flow} {ps : List PV} (h : ps.length = n) : defM keep n len body ps S = fin keep S.length (body (envOf len ps) S) := by
  unfold defM
  rw [if_pos h]
  cases body (envOf len ps) S <;> rfl
@[simp ↓] theorem calmF_ap {f : FC} {ps : List PV} : calmF f ps S = calm (f ps S) := id rfl
@[simp] theorem fin_rt {k : Nat} {p : PV} : fin false k (.rt p S) = give k p S := id rfl
@[simp] theorem fin_nx {k : Nat} : fin false k (.nx ε S) = give k .non S := id rfl
@[simp] theorem fin_rtK {k : Nat} {p : PV} : fin true k (.rt p S) = .ok p S := id rfl
@[simp] theorem fin_nxK {k : Nat} : fin true k (.nx ε S) = .ok .non S := id rfl
@[simp] theorem fin_ex {keep : Bool} {k : Nat} : fin keep k (.ex c xs ε S) = giveX k c xs S := id rfl
/-- the end of a loop's turn -/
def shutS (k : Nat) : Flow → Flow
  | .nx ε' S' => match leaveE k ε' S' with
    | some x => .nx x.1 x.2
    | none => .stuck
  | .ct ε' S' => match leaveE k ε' S' with
    | some x => .ct x.1 x.2
    | none => .stuck
  | .bk ε' S' => match leaveE k ε' S' with
    | some x => .bk x.1 x.2
    | none => .stuck
  | f => f
@[simp ↓] theorem scopeS_ap {m : Env → Sta → Flow} : scopeS m ε S = shutS S.length (m ε S) := by
  unfold scopeS shutS
  cases m ε S <;> rfl
@[simp] theorem shutS_nx {k : Nat} : shutS k (.nx ε S) = (match leaveE k ε S with
    | some x => .nx x.1 x.2
    | none => .stuck) := id rfl
@[simp] theorem shutS_ct {k : Nat} : shutS k (.ct ε S) = (match leaveE k ε S with
    | some x => .ct x.1 x.2
    | none => .stuck) := id rfl
@[simp] theorem shutS_bk {k : Nat} : shutS k (.bk ε S) = (match leaveE k ε S with
    | some x => .bk x.1 x.2
    | none => .stuck) := id rfl
@[simp] theorem shutS_rt {k : Nat} {p : PV} : shutS k (.rt p S) = .rt p S := id rfl
@[simp] theorem shutS_ex {k : Nat} : shutS k (.ex c xs ε S) = .ex c xs ε S := id rfl
@[simp] theorem unslot_rt {i : Nat} {p : PV} : unslot i (.rt p S) = .rt p S := id rfl
@[simp] theorem unslot_ex {i : Nat} : unslot i (.ex c xs ε S) = .ex c xs ε S := id rfl
@[simp] theorem unslot_nx {i : Nat} : unslot i (.nx ε S) = .nx (ε.set i none) S := id rfl
@[simp] theorem unslot_bk {i : Nat} : unslot i (.bk ε S) = .bk (ε.set i none) S := id rfl
@[simp] theorem unslot_ct {i : Nat} : unslot i (.ct ε S) = .ct (ε.set i none) S := id rfl
@[simp] theorem isC_self : isC c c = some true := if_pos rfl
@[simp] theorem atI_0 {β : Type} {x0 : β} {xs : List β} : atI (x0 :: xs) 0 = some x0 := by
  have h : (0 : Int) ≤ 0 := by decide
  exact atI_get h rfl
@[simp] theorem atI_1 {β : Type} {x0 : β} {x1 : β} {xs : List β} : atI (x0 :: x1 :: xs) 1 = some x1 := by
  have h : (0 : Int) ≤ 1 := by decide
  exact atI_get h rfl
@[simp] theorem atI_2 {β : Type} {x0 : β} {x1 : β} {x2 : β} {xs : List β} : atI (x0 :: x1 :: x2 :: xs) 2 = some x2 := by
  have h : (0 : Int) ≤ 2 := by decide
  exact atI_get h rfl
@[simp] theorem atI_3 {β : Type} {x0 : β} {x1 : β} {x2 : β} {x3 : β} {xs : List β} : atI (x0 :: x1 :: x2 :: x3 :: xs) 3 = some x3 := by
  have h : (0 : Int) ≤ 3 := by decide
  exact atI_get h rfl
@[simp] theorem atI_4 {β : Type} {x0 : β} {x1 : β} {x2 : β} {x3 : β} {x4 : β} {xs : List β} : atI (x0 :: x1 :: x2 :: x3 :: x4 :: xs) 4 = some x4 := by
  have h : (0 : Int) ≤ 4 := by decide
  exact atI_get h rfl
@[simp] theorem atI_5 {β : Type} {x0 : β} {x1 : β} {x2 : β} {x3 : β} {x4 : β} {x5 : β} {xs : List β} : atI (x0 :: x1 :: x2 :: x3 :: x4 :: x5 :: xs) 5 = some x5 := by
  have h : (0 : Int) ≤ 5 := by decide
  exact atI_get h rfl
@[simp] theorem atI_6 {β : Type} {x0 : β} {x1 : β} {x2 : β} {x3 : β} {x4 : β} {x5 : β} {x6 : β} {xs : List β} : atI (x0 :: x1 :: x2 :: x3 :: x4 :: x5 :: x6 :: xs) 6 = some x6 := by
  have h : (0 : Int) ≤ 6 := by decide
  exact atI_get h rfl
@[simp] theorem atI_7 {β : Type} {x0 : β} {x1 : β} {x2 : β} {x3 : β} {x4 : β} {x5 : β} {x6 : β} {x7 : β} {xs : List β} : atI (x0 :: x1 :: x2 :: x3 :: x4 :: x5 :: x6 :: x7 :: xs) 7 = some x7 := by
  have h : (0 : Int) ≤ 7 := by decide
  exact atI_get h rfl
@[simp] theorem atI_8 {β : Type} {x0 : β} {x1 : β} {x2 : β} {x3 : β} {x4 : β} {x5 : β} {x6 : β} {x7 : β} {x8 : β} {xs : List β} : atI (x0 :: x1 :: x2 :: x3 :: x4 :: x5 :: x6 :: x7 :: x8 :: xs) 8 = some x8 := by
  have h : (0 : Int) ≤ 8 := by decide
  exact atI_get h rfl
@[simp] theorem atI_9 {β : Type} {x0 : β} {x1 : β} {x2 : β} {x3 : β} {x4 : β} {x5 : β} {x6 : β} {x7 : β} {x8 : β} {x9 : β} {xs : List β} : atI (x0 :: x1 :: x2 :: x3 :: x4 :: x5 :: x6 :: x7 :: x8 :: x9 :: xs) 9 = some x9 := by
  have h : (0 : Int) ≤ 9 := by decide
  exact atI_get h rfl
@[simp] theorem atI_10 {β : Type} {x0 : β} {x1 : β} {x2 : β} {x3 : β} {x4 : β} {x5 : β} {x6 : β} {x7 : β} {x8 : β} {x9 : β} {x10 : β} {xs : List β} : atI (x0 :: x1 :: x2 :: x3 :: x4 :: x5 :: x6 :: x7 :: x8 :: x9 :: x10 :: xs) 10 = some x10 := by
  have h : (0 : Int) ≤ 10 := by decide
  exact atI_get h rfl
@[simp] theorem atI_11 {β : Type} {x0 : β} {x1 : β} {x2 : β} {x3 : β} {x4 : β} {x5 : β} {x6 : β} {x7 : β} {x8 : β} {x9 : β} {x10 : β} {x11 : β} {xs : List β} : atI (x0 :: x1 :: x2 :: x3 :: x4 :: x5 :: x6 :: x7 :: x8 :: x9 :: x10 :: x11 :: xs) 11 = some x11 := by
  have h : (0 : Int) ≤ 11 := by decide
  exact atI_get h rfl
@[simp] theorem atI_12 {β : Type} {x0 : β} {x1 : β} {x2 : β} {x3 : β} {x4 : β} {x5 : β} {x6 : β} {x7 : β} {x8 : β} {x9 : β} {x10 : β} {x11 : β} {x12 : β} {xs : List β} : atI (x0 :: x1 :: x2 :: x3 :: x4 :: x5 :: x6 :: x7 :: x8 :: x9 :: x10 :: x11 :: x12 :: xs) 12 = some x12 := by
  have h : (0 : Int) ≤ 12 := by decide
  exact atI_get h rfl
end
end Fx
namespace Fx
open PySem PySem.Spec PyProof.Rows L2 Co
inductive All2 {α β : Type} (R : α → β → Prop) : List α → List β → Prop
  | nil : All2 R [] []
  | cons {x : α} {y : β} {xs : List α} {ys : List β} : R x y → All2 R xs ys → All2 R (x :: xs) (y :: ys)
theorem All2.len {α β : Type} {R : α → β → Prop} : ∀ {xs : List α} {ys : List β}, All2 R xs ys → xs.length = ys.length
  | _, _, .nil => rfl
  | _, _, .cons _ h => by rw [List.length_cons, List.length_cons, h.len]
section
variable {α β : Type} {a b : α} {S S' : Sta} {ε ε' : Env} {c : Prop} [Decidable c]
@[simp] theorem ite_ok : (if c then Out.ok a S else Out.ok b S) = Out.ok (if c then a else b) S := by split <;> rfl
@[simp] theorem ite_bl {x y : Bool} : (if c then PV.bl x else PV.bl y) = .bl (if c then x else y) := by split <;> rfl
@[simp] theorem ite_int {x y : Int} : (if c then PV.int x else PV.int y) = .int (if c then x else y) := by split <;> rfl
@[simp] theorem envOf_ap {len : Nat} {ps : List PV} : envOf len ps = ps.map some ++ List.replicate (len - ps.length) none := id rfl
@[simp] theorem wipeP_nil : wipeP ε [] = ε := id rfl
@[simp] theorem wipeP_cons {i : Nat} {vs : List Nat} : wipeP ε (i :: vs) = (wipeP ε vs).set i none := id rfl
theorem bools_map (xs : List β) (f : β → Bool) : bools (xs.map fun x => .bl (f x)) = some (xs.map f) := by
  induction xs with
  | nil => rfl
  | cons x xs ih => simp only [List.map_cons, bools, ih]; rfl
theorem all_id_map (xs : List β) (f : β → Bool) : (xs.map f).all id = xs.all f := by rw [List.all_map]; rfl
/-- a comprehension whose parts change nothing -/
theorem lcLoop_map {g : MG} {mc : Env → Sta → Out Bool} {me : Env → Sta → Out PV} {pins : List (Nat × List PV)} (f : PV → PV) (hp : pinsOk S pins = true) : ∀ (xs acc : List PV), (∀ x, x ∈ xs → ∃ ε1, g x ε S = .ok ε1 S ∧ mc ε1 S = .ok true S ∧ me ε1 S = .ok (f x) S) → acc.length + xs.length ≤ 100000 → lcLoop g mc me pins ε xs acc S = .ok (acc ++ xs.map f) S
  | [], acc, _, _ => by simp [lcLoop, hp]
  | x :: xs, acc, h, hl => by
    obtain ⟨ε1, h1, h2, h3⟩ := h x (by simp)
    have hl' : acc.length < 100000 := by simp at hl; omega
    have ih := lcLoop_map (mc := mc) (me := me) f hp xs (acc ++ [f x]) (fun y hy => h y (List.mem_cons_of_mem _ hy)) (by simp at hl ⊢; omega)
    simp [lcLoop, hp, h1, h2, h3, hl', ih]
/-- a loop of which each turn goes on -/
theorem loop_nx {g : MG} {mb : Env → Sta → Flow} {pins : List (Nat × List PV)} (I : List PV → Env → Sta → Prop) (hs : ∀ x xs ε S, I (x :: xs) ε S → pinsOk S pins = true ∧ ∃ ε1 S1, g x ε S = .ok ε1 S1 ∧ ∃ ε2 S2, mb ε1 S1 = .nx ε2 S2 ∧ I xs ε2 S2) (he : ∀ ε S, I [] ε S → pinsOk S pins = true) : ∀ (xs : List PV) (ε : Env) (S : Sta), I xs ε S → ∃ ε' S', loop g mb pins xs ε S = .nx ε' S' ∧ I [] ε' S'
  | [], ε, S, h => ⟨ε, S, by simp [loop, he ε S h], h⟩
  | x :: xs, ε, S, h => by
    obtain ⟨hp, ε1, S1, h1, ε2, S2, h2, h3⟩ := hs x xs ε S h
    obtain ⟨ε', S', h4, h5⟩ := loop_nx I hs he xs ε2 S2 h3
    refine ⟨ε', S', ?_, h5⟩
    simp [loop, hp, h1, h2, h4]
theorem items_look {x : PV} {k : Bool} {xs : List PV} (h : items S x = some (k, xs)) : look S x = if k = true then .lst xs else .tup xs := by
  unfold items at h
  split at h
  · rename_i ys e; cases h; exact e
  · rename_i ys e; cases h; exact e
  · cases h
theorem fTuple_it {x : PV} {k : Bool} {xs : List PV} (h : items S x = some (k, xs)) : fTuple [x] S = .ok (.tup xs) S := by
  rw [fTuple_ap, items_look h]
  cases k <;> rfl
theorem fLen_it {x : PV} {k : Bool} {xs : List PV} (h : items S x = some (k, xs)) : fLen [x] S = .ok (.int (xs.length : Int)) S := by
  rw [fLen_ap, items_look h]
  cases k <;> rfl
theorem items_ty {x : PV} {k : Bool} {xs : List PV} (h : items S x = some (k, xs)) : (tyP S x).isSome = true := by
  have := items_look h
  unfold tyP
  rw [this]
  cases k <;> rfl
theorem seqIt_pin {p : PV} {k : Bool} {it : IT} (e : seqIt S p = some (k, it)) : pinsOk S it.pins = true := by
  cases p <;> first | (cases e; done) | (cases e; rfl) | skip
  simp only [seqIt] at e
  split at e
  · rename_i xs q
    cases e
    exact pinsOk_1 q
  · cases e
theorem items_it {p : PV} {k : Bool} {xs : List PV} (e : items S p = some (k, xs)) : ∃ pins, seqIt S p = some (k, ⟨xs, pins⟩) := by
  cases p <;> first | (cases e; done) | (cases e; exact ⟨[], rfl⟩) | skip
  rename_i n
  simp only [items_mu, look_mu'] at e
  simp only [seqIt]
  cases h : S[n]? with
  | none => rw [h] at e; cases e
  | some c =>
    rw [h] at e
    cases c <;> first | (cases e; done) | skip
    cases e
    exact ⟨_, rfl⟩
/-! ### what holds no cell -/
mutual
theorem frz_flat (k : Nat) (S : Sta) : ∀ p : PV, clean 0 p = true → frz k S p = some p
  | .non, _ => by simp only [frz]
  | .bl _, _ => by simp only [frz]
  | .int _, _ => by simp only [frz]
  | .str _, _ => by simp only [frz]
  | .tup xs, h => by simp only [clean] at h; simp only [frz, frzs_flat k S xs h, Option.map_some]
  | .lst xs, h => by simp only [clean] at h; simp only [frz, frzs_flat k S xs h, Option.map_some]
  | .kls xs, h => by simp only [clean] at h; simp only [frz, frzs_flat k S xs h, Option.map_some]
  | .obj _ _ xs, h => by simp only [clean] at h; simp only [frz, frzs_flat k S xs h, Option.map_some]
  | .mu n, h => by simp [clean] at h
  | .xv n, h => by simp [clean] at h
  | .dct, _ => by simp only [frz]
theorem frzs_flat (k : Nat) (S : Sta) : ∀ ps : List PV, cleans 0 ps = true → frzs k S ps = some ps
  | [], _ => by simp only [frzs]
  | p :: ps, h => by
    simp only [cleans, Bool.and_eq_true] at h
    simp only [frzs, frz_flat k S p h.1, frzs_flat k S ps h.2]
end
def flatC : Cell → Bool
  | .lst xs => cleans 0 xs
  | .obj _ _ xs => cleans 0 xs
  | .dead => true
def flatS (S : Sta) : Bool := S.all flatC
theorem frzCs_flat (k : Nat) (S : Sta) : ∀ cs : List Cell, cs.all flatC = true → frzCs k S cs = some cs
  | [], _ => by simp only [frzCs]
  | c :: cs, h => by
    rw [List.all_cons, Bool.and_eq_true] at h
    have hc : frzC k S c = some c := by
      cases c with
      | lst xs => simp only [frzC, frzs_flat k S xs h.1, Option.map_some]
      | obj _ _ xs => simp only [frzC, frzs_flat k S xs h.1, Option.map_some]
      | dead => simp only [frzC]
    simp only [frzCs, hc, frzCs_flat k S cs h.2]
theorem leave_flat {T : Sta} {ps : List PV} (hS : flatS S = true) (hp : cleans 0 ps = true) : leave S.length ps (S ++ T) = some (ps, S) := by
  unfold leave
  split
  · rename_i h
    have : T = [] := by
      rw [List.length_append] at h
      exact List.length_eq_zero_iff.mp (by omega)
    rw [this, List.append_nil]
  · rw [frzs_flat _ _ _ hp, List.take_left', frzCs_flat _ _ _ hS]
    rfl
theorem give_flat {T : Sta} {p : PV} (hS : flatS S = true) (hp : clean 0 p = true) : give S.length p (S ++ T) = .ok p S := by
  unfold give
  rw [leave_flat hS (by simp only [cleans, hp, Bool.and_self])]
theorem flat_map {γ : Type} (f : γ → PV) (h : ∀ x, clean 0 (f x) = true) : ∀ xs : List γ, cleans 0 (xs.map f) = true
  | [] => rfl
  | x :: xs => by simp only [List.map_cons, cleans, h x, flat_map f h xs, Bool.and_self]
theorem flat_ints (ns : List Int) : cleans 0 (ns.map PV.int) = true := flat_map _ (fun _ => rfl) ns
theorem flat_app : ∀ xs ys : List PV, cleans 0 (xs ++ ys) = (cleans 0 xs && cleans 0 ys)
  | [], ys => by simp [cleans]
  | x :: xs, ys => by simp only [List.cons_append, cleans, flat_app xs ys, Bool.and_assoc]
theorem leaveE_flat {T : Sta} {ε : Env} (hS : flatS S = true) : leaveE S.length ε (S ++ T) = some (if S.length + T.length ≤ S.length then ε else ε.map (frzO S.length (S ++ T)), S) := by
  unfold leaveE
  rw [List.length_append]
  split
  · rename_i h
    have : T = [] := List.length_eq_zero_iff.mp (by omega)
    rw [this, List.append_nil]
  · rw [List.take_left', frzCs_flat _ _ _ hS]
    rfl
/-- a law's body that ends with True -/
def Done (f : Flow) : Prop := ∃ T, calm (fin false 0 f) = .ok (.bl true) T
theorem done_rt : Done (.rt (.bl true) S) := ⟨[], by
  have := give_flat (S := []) (T := S) (p := .bl true) rfl rfl
  rw [List.nil_append] at this
  show calm (give 0 (.bl true) S) = _
  rw [show (0 : Nat) = ([] : Sta).length from rfl, this]
  rfl⟩
theorem done_law {n len : Nat} {body : Env → Sta → Flow} {ps : List PV} (h : ps.length = n) (k : Done (body (envOf len ps) [])) : ∃ T, calmF (defM false n len body) ps [] = .ok (.bl true) T := by
  obtain ⟨T, e⟩ := k
  exact ⟨T, by rw [calmF_ap, defM_run h]; exact e⟩
theorem done_seq {A B : Env → Sta → Flow} (h : A ε S = .nx ε' S') (k : Done (B ε' S')) : Done (SeqS A B ε S) := by
  unfold SeqS
  rw [h]
  exact k
theorem done_end {A : Env → Sta → Flow} (h : A ε S = .rt (.bl true) S') : Done (A ε S) := h ▸ done_rt
/-- a for statement of which each turn goes on -/
theorem done_for {mi : Env → Sta → Out IT} {g : MG} {mb B : Env → Sta → Flow} {S1 : Sta} {it : IT} (I : List PV → Env → Sta → Prop) (hi : mi ε S = .ok it S1) (h0 : I it.xs ε S1) (hp : ∀ xs ε S, I xs ε S → pinsOk S it.pins = true)
    (hs : ∀ x xs ε S, I (x :: xs) ε S → ∃ ε1 S1, g x ε S = .ok ε1 S1 ∧ ∃ ε2 S2, mb ε1 S1 = .nx ε2 S2 ∧ I xs ε2 S2) (k : ∀ ε' S', I [] ε' S' → Done (B ε' S')) : Done (SeqS (ForS mi g mb) B ε S) := by
  obtain ⟨ε', S', e, hI⟩ := loop_nx (g := g) (mb := mb) I (fun x xs ε S h => ⟨hp _ _ _ h, hs x xs ε S h⟩) (fun ε S h => hp _ _ _ h) it.xs ε S1 h0
  refine done_seq (ε' := ε') (S' := S') ?_ (k ε' S' hI)
  rw [ForS_ap, hi]
  exact e
/-! ### the bag -/
def bagC (b : BS) : Cell := .lst [.lst (b.ns.map .int), .int b.i, .int b.g, .int b.c, .int b.s]
theorem flat_bag (b : BS) : flatC (bagC b) = true := by
  simp only [bagC, flatC, cleans, clean, flat_ints, Bool.and_self]
structure Bi (b : BS) : Prop where
  i0 : 0 ≤ b.i
  g0 : 0 ≤ b.g
  c0 : 0 ≤ b.c
  s0 : 0 ≤ b.s
  s1 : b.s < 2147483647
theorem lim_log {lim : Int} (h1 : 1 ≤ lim) (h2 : lim ≤ 10 ^ 30) : 0 < lim ∧ lim.natAbs.log2 < 9000 := (lim_wide h1 h2).imp id id
theorem log65536 : Nat.log2 65536 < 9000 := by decide
theorem log7 : Nat.log2 7 < 9000 := by decide
theorem mix1_r (s c z : Int) : 0 ≤ mix1 s c z ∧ mix1 s c z < 2147483647 := ⟨Int.emod_nonneg _ (by decide), Int.emod_lt_of_pos _ (by decide)⟩
theorem bi_db {b : BS} {lim : Int} (h : Bi b) (h1 : 1 ≤ lim) : Bi (db b lim) := by
  obtain ⟨p, ns, i, g, c, s⟩ := b
  obtain ⟨h0i, h0g, h0c, h0s, hs⟩ := h
  dsimp only at h0i h0g h0c h0s hs
  have a0 : ∀ z : Int, 0 ≤ absI z := fun z => by unfold absI; split <;> omega
  unfold db drw
  split
  · exact ⟨h0i, Int.ediv_nonneg h0g (by omega), by dsimp only; omega, h0s, hs⟩
  · split
    · split
      · exact ⟨by dsimp only; omega, Int.ediv_nonneg (a0 _) (by omega), by dsimp only; omega, h0s, hs⟩
      · exact ⟨by dsimp only; omega, h0g, by dsimp only; omega, (mix1_r _ _ _).1, (mix1_r _ _ _).2⟩
    · exact ⟨h0i, h0g, by dsimp only; omega, (mix1_r _ _ _).1, (mix1_r _ _ _).2⟩
theorem db_c {b : BS} {lim : Int} : (db b lim).c = b.c + 1 := by
  unfold db drw
  split
  · rfl
  · split
    · split <;> rfl
    · rfl
/-- a bag from which k more draws may be made -/
structure BOk (b : BS) (k : Nat) : Prop where
  i : Bi b
  c : b.c + k ≤ 1000000000
theorem BOk.less {b : BS} {n m : Nat} (h : BOk b n) (k : m ≤ n) : BOk b m := ⟨h.i, by have := h.c; omega⟩
theorem bok_db {b : BS} {n : Nat} {lim : Int} (h : BOk b (n + 1)) (h1 : 1 ≤ lim) : BOk (db b lim) n := ⟨bi_db h.i h1, by rw [db_c]; have := h.c; omega⟩
/-- a comprehension whose items draw: at most k times each -/
theorem lcLoop_bag {g : MG} {mc : Env → Sta → Out Bool} {me : Env → Sta → Out PV} {pins : List (Nat × List PV)} {T : Sta} {k : Nat} (R : PV → PV → Prop) (hp : ∀ b, pinsOk (bagC b :: T) pins = true) : ∀ (xs acc : List PV) (n : Nat) (b : BS), (∀ x b n, x ∈ xs → BOk b (n + k) → ∃ ε1, g x ε (bagC b :: T) = .ok ε1 (bagC b :: T) ∧ mc ε1 (bagC b :: T) = .ok true (bagC b :: T) ∧ ∃ y b', me ε1 (bagC b :: T) = .ok y (bagC b' :: T) ∧ BOk b' n ∧ R x y) → acc.length + xs.length ≤ 100000 → BOk b (n + k * xs.length) →
    ∃ ys b', lcLoop g mc me pins ε xs acc (bagC b :: T) = .ok (acc ++ ys) (bagC b' :: T) ∧ BOk b' n ∧ All2 R xs ys
  | [], acc, n, b, _, _, hb => ⟨[], b, by simp [lcLoop, hp], hb, .nil⟩
  | x :: xs, acc, n, b, h, hl, hb => by
    have hb1 : BOk b ((n + k * xs.length) + k) := hb.less (by rw [List.length_cons, Nat.mul_succ]; omega)
    obtain ⟨ε1, h1, h2, y, b1, h3, h4, h5⟩ := h x b _ (by simp) hb1
    have hl' : acc.length < 100000 := by simp at hl; omega
    obtain ⟨ys, b', h6, h7, h8⟩ := lcLoop_bag (mc := mc) (me := me) R hp xs (acc ++ [y]) n b1 (fun z c m hz => h z c m (List.mem_cons_of_mem _ hz)) (by simp at hl ⊢; omega) h4
    exact ⟨y :: ys, b', by simp [lcLoop, hp, h1, h2, h3, hl', h6], h7, .cons h5 h8⟩
end
end Fx
namespace Fx
open PySem PySem.Spec PyProof.Rows L2 Co
/-! ### data of modest size: their repr, their == -/
theorem int_len {i : Int} (h : i.natAbs < 10 ^ 40) : (PyData.int i).shown.length ≤ 41 := by
  have e := int_text_length_le10 (k := 40) (by decide) h
  rw [PyData.shown.eq_3, PySem.ofString_length]
  exact e
mutual
def modest : D → Bool
  | .none => true
  | .bool _ => true
  | .int i => decide (i.natAbs < 10 ^ 40)
  | .str s => s.cps.toList.all fun c => decide (c < 1114112)
  | .list xs => modests xs
  | .tuple xs => modests xs
  | .dict _ => false
def modests : List D → Bool
  | [] => true
  | d :: ds => modest d && modests ds
end
theorem log_small {n : Nat} (h : n < 10 ^ 40) : n.log2 < 1920 := by
  by_cases z : n = 0
  · subst z; decide
  · rw [Nat.log2_lt z]
    exact Nat.lt_of_lt_of_le h (Nat.le_trans (by decide : (10 : Nat) ^ 40 ≤ 2 ^ 133) (Nat.pow_le_pow_right (by decide) (by decide)))
mutual
theorem modest_ok : ∀ d : D, modest d = true → d.showable = true ∧ PyData.leavesShort 64 d = true ∧ d.canLay0 = true ∧ d.hasDict = false
  | .none, _ => by simp [PyData.showable, PyData.leavesShort, PyData.canLay0, PyData.hasDict]
  | .bool _, _ => by simp [PyData.showable, PyData.leavesShort, PyData.canLay0, PyData.hasDict]
  | .int i, h => by
    simp only [modest, decide_eq_true_eq] at h
    have h1 := int_len h
    have h2 := log_small h
    refine ⟨?_, ?_, ?_, ?_⟩
    · simp only [PyData.showable, decide_eq_true_eq]; exact h2
    · simp only [PyData.leavesShort, decide_eq_true_eq]; omega
    · simp only [PyData.canLay0]
    · simp only [PyData.hasDict]
  | .str s, h => by
    simp only [modest, List.all_eq_true, decide_eq_true_eq] at h
    refine ⟨?_, ?_, ?_, ?_⟩
    · simp only [PyData.showable]
    · simp only [PyData.leavesShort, List.all_eq_true, decide_eq_true_eq]
      intro c hc
      exact Nat.lt_of_lt_of_le (h c hc) (by decide)
    · simp only [PyData.canLay0, PyData.strOk]
      rw [Array.all_eq_true']
      intro c hc
      exact decide_eq_true (h c (by simpa using hc))
    · simp only [PyData.hasDict]
  | .list xs, h => by
    simp only [modest] at h
    obtain ⟨h1, h2, h3, h4⟩ := modests_ok xs h
    exact ⟨by simpa only [PyData.showable] using h1, by simpa only [PyData.leavesShort] using h2, by simpa only [PyData.canLay0] using h3, by simpa only [PyData.hasDict] using h4⟩
  | .tuple xs, h => by
    simp only [modest] at h
    obtain ⟨h1, h2, h3, h4⟩ := modests_ok xs h
    exact ⟨by simpa only [PyData.showable] using h1, by simpa only [PyData.leavesShort] using h2, by simpa only [PyData.canLay0] using h3, by simpa only [PyData.hasDict] using h4⟩
  | .dict _, h => by simp [modest] at h
theorem modests_ok : ∀ ds : List D, modests ds = true → PyData.showableAll ds = true ∧ PyData.leavesShortAll 64 ds = true ∧ PyData.canLayAll0 ds = true ∧ PyData.hasDictAll ds = false
  | [], _ => by simp [PyData.showableAll, PyData.leavesShortAll, PyData.canLayAll0, PyData.hasDictAll]
  | d :: ds, h => by
    simp only [modests, Bool.and_eq_true] at h
    obtain ⟨h1, h2, h3, h4⟩ := modest_ok d h.1
    obtain ⟨g1, g2, g3, g4⟩ := modests_ok ds h.2
    simp [PyData.showableAll, PyData.leavesShortAll, PyData.canLayAll0, PyData.hasDictAll, h1, h2, h3, h4, g1, g2, g3, g4]
end
structure Fit (d : D) : Prop where
  m : modest d = true
  dep : d.depth ≤ 20
  bulk : d.bulk ≤ 10000
theorem Fit.shaped {d : D} (h : Fit d) : SeqAt.shaped d = true := by
  have h1 := (modest_ok d h.m).2.2.1
  have h2 : d.depth ≤ 64 := Nat.le_trans h.dep (by decide)
  simp [SeqAt.shaped, h1, h2]
theorem Fit.repr {d : D} (h : Fit d) : d.showable = true ∧ d.depth ≤ 60 ∧ d.shown.length ≤ 1000000 := by
  obtain ⟨h1, h2, _, _⟩ := modest_ok d h.m
  refine ⟨h1, Nat.le_trans h.dep (by decide), ?_⟩
  have := PyData.shown_le_bulk 64 (by decide) d h2
  have hb := h.bulk
  omega
theorem fEq_refl {S : Sta} {p : PV} {d : D} (e : dat S p = some d) (h : Fit d) : fEq S p p = some (.bl true) := by
  unfold fEq
  rw [e]
  simp only [h.shaped, and_self, if_true, eqv_refl d (modest_ok d h.m).2.2.2]
theorem fNe_refl {S : Sta} {p : PV} {d : D} (e : dat S p = some d) (h : Fit d) : fNe S p p = some (.bl false) := by
  unfold fNe
  rw [e]
  simp only [h.shaped, and_self, if_true, eqv_refl d (modest_ok d h.m).2.2.2, Bool.not_true]
theorem fRepr_fit {S : Sta} {p : PV} {d : D} (e : dat S p = some d) (h : Fit d) : fRepr [p] S = .ok (.str d.shown) S := by
  obtain ⟨h1, h2, h3⟩ := h.repr
  rw [fRepr_ap, e]
  simp only [h1, h2, h3, and_self, if_true]
theorem dats_ints (S : Sta) : ∀ ns : List Int, dats S (ns.map PV.int) = some (ns.map PyData.int)
  | [] => by simp [dats]
  | n :: ns => by simp [dats, dat, dats_ints S ns]
theorem dats_app (S : Sta) : ∀ {xs ys : List PV} {ds es : List D}, dats S xs = some ds → dats S ys = some es → dats S (xs ++ ys) = some (ds ++ es)
  | [], ys, ds, es, h1, h2 => by simp only [dats, Option.some.injEq] at h1; subst h1; exact h2
  | x :: xs, ys, ds, es, h1, h2 => by
    simp only [dats] at h1
    split at h1
    · rename_i d ds' e1 e2
      cases h1
      simp only [List.cons_append, dats, e1, dats_app S e2 h2]
    · cases h1
theorem modests_ints {ns : List Int} (h : ∀ n ∈ ns, n.natAbs < 10 ^ 40) : modests (ns.map PyData.int) = true := by
  induction ns with
  | nil => rfl
  | cons n ns ih => simp only [List.map_cons, modests, modest, h n (by simp), decide_true, ih fun m hm => h m (List.mem_cons_of_mem _ hm), Bool.and_self]
theorem depth_ints : ∀ ns : List Int, PyData.depthAll (ns.map PyData.int) = 0
  | [] => by simp [PyData.depthAll]
  | n :: ns => by simp [PyData.depthAll, PyData.depth, depth_ints ns]
theorem bulk_ints : ∀ ns : List Int, PyData.bulkAll (ns.map PyData.int) = ns.length
  | [] => by simp [PyData.bulkAll]
  | n :: ns => by simp [PyData.bulkAll, PyData.bulk, bulk_ints ns]; omega
theorem fit_intsL {ns : List Int} (h : ∀ n ∈ ns, n.natAbs < 10 ^ 40) (hl : ns.length ≤ 9000) : Fit (.list (ns.map .int)) := ⟨by simp only [modest]; exact modests_ints h, by simp [PyData.depth, depth_ints], by simp [PyData.bulk, bulk_ints]; omega⟩
theorem fit_intsT {ns : List Int} (h : ∀ n ∈ ns, n.natAbs < 10 ^ 40) (hl : ns.length ≤ 9000) : Fit (.tuple (ns.map .int)) := ⟨by simp only [modest]; exact modests_ints h, by simp [PyData.depth, depth_ints], by simp [PyData.bulk, bulk_ints]; omega⟩
mutual
theorem dat_app {S : Sta} (T : Sta) : ∀ (p : PV) (d : D), dat S p = some d → dat (S ++ T) p = some d
  | .non, d, h => by simpa only [dat] using h
  | .bl _, d, h => by simpa only [dat] using h
  | .int _, d, h => by simpa only [dat] using h
  | .str _, d, h => by simpa only [dat] using h
  | .tup xs, d, h => by
    simp only [dat] at h ⊢
    obtain ⟨ds, q1, rfl⟩ := Option.map_eq_some_iff.mp h
    rw [datsS_app T xs ds q1]
    rfl
  | .lst xs, d, h => by
    simp only [dat] at h ⊢
    obtain ⟨ds, q1, rfl⟩ := Option.map_eq_some_iff.mp h
    rw [datsS_app T xs ds q1]
    rfl
  | .kls xs, d, h => by
    simp only [dat] at h ⊢
    obtain ⟨ds, q1, rfl⟩ := Option.map_eq_some_iff.mp h
    rw [datsS_app T xs ds q1]
    rfl
  | .obj _ _ _, d, h => by simp only [dat] at h; cases h
  | .mu n, d, h => by
    simp only [dat] at h ⊢
    cases e : S[n]? with
    | none => rw [e] at h; cases h
    | some c => rw [e] at h; rw [List.getElem?_append_left (List.getElem?_eq_some_iff.mp e).1, e]; exact h
  | .xv n, d, h => by simp only [dat] at h; cases h
  | .dct, d, h => by simp only [dat] at h; cases h
theorem datsS_app {S : Sta} (T : Sta) : ∀ (ps : List PV) (ds : List D), dats S ps = some ds → dats (S ++ T) ps = some ds
  | [], ds, h => by simpa only [dats] using h
  | p :: ps, ds, h => by
    simp only [dats] at h ⊢
    split at h
    · rename_i d ds' e1 e2
      cases h
      rw [dat_app T p d e1, datsS_app T ps ds' e2]
    · cases h
end
theorem modests_all {ds : List D} (h : ∀ x ∈ ds, modest x = true) : modests ds = true := by
  induction ds with
  | nil => rfl
  | cons d ds ih => simp only [modests, h d (by simp), ih fun m hm => h m (List.mem_cons_of_mem _ hm), Bool.and_self]
theorem depth_all {ds : List D} {k : Nat} (h : ∀ x ∈ ds, x.depth ≤ k) : PyData.depthAll ds ≤ k := by
  induction ds with
  | nil => simp [PyData.depthAll]
  | cons d ds ih =>
    have h1 := h d (by simp)
    have h2 := ih fun m hm => h m (List.mem_cons_of_mem _ hm)
    simp only [PyData.depthAll]
    omega
theorem bulk_all {ds : List D} {k : Nat} (h : ∀ x ∈ ds, x.bulk ≤ k) : PyData.bulkAll ds ≤ ds.length * (k + 1) := by
  induction ds with
  | nil => simp [PyData.bulkAll]
  | cons d ds ih =>
    have h1 := h d (by simp)
    have h2 := ih fun m hm => h m (List.mem_cons_of_mem _ hm)
    simp only [PyData.bulkAll, List.length_cons, Nat.succ_mul]
    omega
theorem fit_L {ds : List D} {k : Nat} (hm : ∀ x ∈ ds, modest x = true) (hd : ∀ x ∈ ds, x.depth ≤ 10) (hb : ∀ x ∈ ds, x.bulk ≤ k) (hl : ds.length * (k + 1) ≤ 10000) : Fit (.list ds) :=
  ⟨by simp only [modest]; exact modests_all hm, by simp only [PyData.depth]; have := depth_all hd; omega, by simp only [PyData.bulk]; have := bulk_all hb; omega⟩
theorem fit_T {ds : List D} {k : Nat} (hm : ∀ x ∈ ds, modest x = true) (hd : ∀ x ∈ ds, x.depth ≤ 10) (hb : ∀ x ∈ ds, x.bulk ≤ k) (hl : ds.length * (k + 1) ≤ 10000) : Fit (.tuple ds) :=
  ⟨by simp only [modest]; exact modests_all hm, by simp only [PyData.depth]; have := depth_all hd; omega, by simp only [PyData.bulk]; have := bulk_all hb; omega⟩
/-- values that are data whatever the state is -/
structure Dv (p : PV) (d : D) (k : Nat) : Prop where
  t : toD p = some d
  m : modest d = true
  dep : d.depth ≤ 10
  bulk : d.bulk ≤ k
mutual
theorem dat_toD (S : Sta) : ∀ (p : PV) (d : D), toD p = some d → dat S p = some d
  | .non, d, h => by simpa only [toD, dat] using h
  | .bl _, d, h => by simpa only [toD, dat] using h
  | .int _, d, h => by simpa only [toD, dat] using h
  | .str _, d, h => by simpa only [toD, dat] using h
  | .tup xs, d, h => by
    simp only [toD] at h
    obtain ⟨ds, q1, rfl⟩ := Option.map_eq_some_iff.mp h
    simp only [dat, dats_toDs S xs ds q1, Option.map_some]
  | .lst xs, d, h => by
    simp only [toD] at h
    obtain ⟨ds, q1, rfl⟩ := Option.map_eq_some_iff.mp h
    simp only [dat, dats_toDs S xs ds q1, Option.map_some]
  | .kls xs, d, h => by
    simp only [toD] at h
    obtain ⟨ds, q1, rfl⟩ := Option.map_eq_some_iff.mp h
    simp only [dat, dats_toDs S xs ds q1, Option.map_some]
  | .obj _ _ _, d, h => by simp only [toD] at h; cases h
  | .mu _, d, h => by simp only [toD] at h; cases h
  | .xv _, d, h => by simp only [toD] at h; cases h
  | .dct, d, h => by simp only [toD] at h; cases h
theorem dats_toDs (S : Sta) : ∀ (ps : List PV) (ds : List D), toDs ps = some ds → dats S ps = some ds
  | [], ds, h => by simpa only [toDs, dats] using h
  | p :: ps, ds, h => by
    simp only [toDs] at h
    split at h
    · rename_i d ds' e1 e2
      cases h
      simp only [dats, dat_toD S p d e1, dats_toDs S ps ds' e2]
    · cases h
end
theorem toDs_all {k : Nat} : ∀ {ps : List PV}, (∀ p ∈ ps, ∃ d, Dv p d k) → ∃ ds, toDs ps = some ds ∧ ds.length = ps.length ∧ (∀ x ∈ ds, modest x = true) ∧ (∀ x ∈ ds, x.depth ≤ 10) ∧ ∀ x ∈ ds, x.bulk ≤ k
  | [], _ => ⟨[], by simp only [toDs], rfl, (fun _ h => by cases h), (fun _ h => by cases h), fun _ h => by cases h⟩
  | p :: ps, h => by
    obtain ⟨d, hd⟩ := h p (by simp)
    obtain ⟨ds, e, l, h1, h2, h3⟩ := toDs_all fun q hq => h q (List.mem_cons_of_mem _ hq)
    refine ⟨d :: ds, by simp only [toDs, hd.t, e], by simp [l], fun x hx => ?_, fun x hx => ?_, fun x hx => ?_⟩
    · rcases List.mem_cons.mp hx with rfl | hx; exact hd.m; exact h1 x hx
    · rcases List.mem_cons.mp hx with rfl | hx; exact hd.dep; exact h2 x hx
    · rcases List.mem_cons.mp hx with rfl | hx; exact hd.bulk; exact h3 x hx
theorem dv_int {i : Int} {k : Nat} (h : i.natAbs < 10 ^ 40) : Dv (.int i) (.int i) k := ⟨by simp only [toD], by simp only [modest, h, decide_true], by simp [PyData.depth], by simp [PyData.bulk]⟩
theorem dv_bl {b : Bool} {k : Nat} : Dv (.bl b) (.bool b) k := ⟨by simp only [toD], by simp only [modest], by simp [PyData.depth], by simp [PyData.bulk]⟩
theorem dv_non {k : Nat} : Dv .non .none k := ⟨by simp only [toD], by simp only [modest], by simp [PyData.depth], by simp [PyData.bulk]⟩
theorem Dv.fit {p : PV} {d : D} {k : Nat} (h : Dv p d k) (hk : k ≤ 10000) : Fit d := ⟨h.m, Nat.le_trans h.dep (by decide), Nat.le_trans h.bulk hk⟩
end Fx
namespace Fx
open PySem PySem.Spec PyProof.Rows L2 Co
/-! ### the end of a law -/
theorem fnG_weak {P : Program} {w : World} {K : PySem.W.Frag} {mg : Str → Option Value} {base : Heap} {CX : CXT} {k : Nat} {f : Addr} {fd : FuncData} {ps : List Str} {sp sp' : Sp} (F : FnG P w K mg base CX k f fd ps sp) (h : ∀ vs H Q E, sp' vs H Q E → sp vs H Q E) : FnG P w K mg base CX k f fd ps sp' :=
  ⟨fun vs H Q E q => F.len vs H Q E (h vs H Q E q), fun A outer s H args us vs Q E ga hr e0 bd va q => F.run A outer s H args us vs Q E ga hr e0 bd va (h vs H Q E q)⟩
theorem fnG_fnOk {P : Program} {w : World} {K : PySem.W.Frag} {mg : Str → Option Value} {base : Heap} {CX : CXT} {k : Nat} {f : Addr} {fd : FuncData} {ps : List Str} {sp : Sp} (F : FnOk P w K mg base CX k f fd ps sp) : FnG P w K mg base CX k f fd ps sp :=
  ⟨F.len, fun A outer s H args us vs Q E _ hr e0 bd va q => F.run A outer s H args us vs Q E hr e0 bd va q⟩
/-- a script in, True out -/
def spScr (K : PySem.W.Frag) : Sp := fun vs H Q _ => ∃ (a : Addr) (ns : List Int), vs = [.ref a] ∧ SqL K H a (ns.map V.int) ∧ ns.length ≤ 63 ∧ ∀ H', Q (.bl true) H'
theorem scr_of {M : Md} {f : FC} (hf : ∀ ns : List Int, ns.length ≤ 63 → ∃ T, f [.kls (ns.map .int)] [] = .ok (.bl true) T) : ∀ vs H Q E, spScr M.K vs H Q E → spM M f vs H Q E := fun vs H Q E ⟨a, ns, hv, hs, hl, q⟩ => by
  obtain ⟨T, e⟩ := hf ns hl
  subst hv
  refine ⟨⟨H, []⟩, [], [.kls (ns.map .int)], ⟨Same.refl _, rfl, fun n m a h => (by simp at h), fun a h => (by cases h), fun n a c h => (by simp at h)⟩, .cons (.kls hs rpa_intsP) .nil, ?_⟩
  rw [e]
  intro v W' H' g r p
  cases p
  exact q H'
theorem exm_same {K : PySem.W.Frag} {S : Addr} (h1 : PySem.W.subIn K (.ref S) (.type "BaseException") = some true) (h2 : PySem.W.isClsIn K S = true) (h3 : PySem.W.typeIn K (.ref S) = some (.type "type")) (h4 : PySem.W.subIn K (.ref S) (.ref S) = some true) : PySem.W.exmOne K (.ref S) (.ref S) = some true := by
  have h5 : (PySem.W.clsIn K S).isSome = true := h2
  have a1 : (PySem.W.subIn K (.ref S) (.type "BaseException") == some true) = true := by rw [h1]; rfl
  have a2 : ((PySem.W.clsIn K S).isSome && PySem.W.typeIn K (.ref S) == some (.type "type")) = true := by rw [h5, h3]; rfl
  unfold PySem.W.exmOne
  simp only [a1, if_true]
  show (if ((PySem.W.clsIn K S).isSome && PySem.W.typeIn K (.ref S) == some (.type "type")) = true then PySem.W.subIn K (.ref S) (.ref S) else none) = some true
  rw [a2]
  exact h4
/-! ### what the top left, thing by thing -/
structure DefH (K : PySem.W.Frag) (x q : Str) (st : Stmt) (f : Addr) : Type where
  {oc kV dc pm cd ct : Value}
  {od an : Option Addr}
  {os : Array (Option Value)}
  l : K.lookup f = some ⟨oc, od, .func (PySem.W.fnOf x q (defArgs st) (defBody st) (defScope st) .none kV dc pm an cd ct), os⟩
  k : PySem.W.keepIn K (.ref f) = true
  x : PySem.W.codeIn K cd q = true
theorem DefH.fn {K : PySem.W.Frag} {x q : Str} {st : Stmt} {f : Addr} (h : DefH K x q st f) : ∃ fd, Fun K x q st f fd := ⟨_, fun_mk h.l h.x h.k⟩
/-- an error class with an __init__ of an own class -/
structure XinH (K : PySem.W.Frag) (c ini : Addr) : Type where
  {nm qn : Str}
  {N : Addr}
  {bs bm : List Value}
  {sn : List Str}
  {sb : List Value}
  {ab : Bool}
  {co : Option Bool}
  {dd : Option Addr}
  {m0 m1 m2 m3 m5 : Option Value}
  i : PySem.W.findIn K (.ref c) "__init__" = some (some (.ref ini))
  l : K.lookup c = some (excClassObj nm qn c N bs bm true sn sb ab co dd m0 m1 m2 m3 m5 "ValueError.__new__")
  xr : HandSPX.refsVE bm = true
  sa : PySem.W.findIn K (.ref c) "__setattr__" = some (some (.builtin "object.__setattr__"))
  ga : PySem.W.findIn K (.ref c) "__getattribute__" = some (some (.builtin "BaseException.__getattribute__"))
  gg : PySem.W.findIn K (.ref c) "__getattr__" = some none
  hd : PySem.W.hasDictIn K c = true
  ti : PySem.W.typeIn K (.ref ini) = some (.type "function")
  kc : PySem.W.keepIn K (.ref c) = true
  bc : PySem.W.subIn K (.ref c) (.type "BaseException") = some true
  tc : PySem.W.typeIn K (.ref c) = some (.type "type")
  ic : PySem.W.isClsIn K c = true
theorem XinH.o {K : PySem.W.Frag} {c ini : Addr} (h : XinH K c ini) : OexC K c := ⟨⟨_, _, _, _, _, _, _, _, _, _, _, _, _, _, _, h.l, h.xr⟩, h.sa, h.bc, h.tc, h.kc⟩
theorem XinH.xf {K : PySem.W.Frag} {c ini : Addr} (h : XinH K c ini) : XfC K c := ⟨h.ga, h.gg, h.bc, h.hd⟩
/-- an error class without one -/
structure X0H (K : PySem.W.Frag) (c : Addr) : Prop where
  e : PySem.W.excIn K c [.type "ValueError", .type "Exception", .type "BaseException", .type "object"] "ValueError.__new__" = true
  kc : PySem.W.keepIn K (.ref c) = true
  bc : PySem.W.subIn K (.ref c) (.type "BaseException") = some true
  tc : PySem.W.typeIn K (.ref c) = some (.type "type")
  ic : PySem.W.isClsIn K c = true
structure GaH (K : PySem.W.Frag) (c : Addr) : Prop where
  ga : PySem.W.findIn K (.ref c) "__getattribute__" = some (some (.builtin "BaseException.__getattribute__"))
  gg : PySem.W.findIn K (.ref c) "__getattr__" = some none
  hd : PySem.W.hasDictIn K c = true
/-- an own class of which instances are made -/
structure InsH (K : PySem.W.Frag) (c ini : Addr) : Prop where
  ii : PySem.W.findIn K (.ref c) "__init__" = some (some (.ref ini))
  mm : PySem.W.makesIn K c = true
  fn : PySem.W.isFn K (.ref ini) = true
  kc : PySem.W.keepIn K (.ref c) = true
  pg : PySem.W.plainGet K c Str.empty = true
  hd : PySem.W.hasDictIn K c = true
  po : PySem.W.plainOver K c = true
  sa : PySem.W.findIn K (.ref c) "__setattr__" = some (some (.builtin "object.__setattr__"))
end Fx
namespace Fx
open PySem PySem.Spec PyProof.Rows L2 Co
open He (ga ma fAd eqO eqO_ok ba)
/-! ### the head by one run in the kernel: what the top left, as truths that are read off the heap -/
abbrev Fb := PySem.W.Frag → Bool
structure XinP (K : PySem.W.Frag) (c ini : Addr) : Prop where
  o : OexC K c
  xf : XfC K c
  i : PySem.W.findIn K (.ref c) "__init__" = some (some (.ref ini))
  ti : PySem.W.typeIn K (.ref ini) = some (.type "function")
  ic : PySem.W.isClsIn K c = true
def shpB (K : PySem.W.Frag) (c : Addr) : Bool := match K.lookup c with
  | some ⟨.type "type", _, .cls cd, sl⟩ => (match cd.mro, sl.toList with
    | .ref C' :: bm, [_, _, _, _, some (.builtin n), _] => C' == c && n == "ValueError.__new__" && !cd.hasDel && cd.hasDict && HandSPX.refsVE bm
    | _, _ => false)
  | _ => false
theorem shp_ok {K : PySem.W.Frag} {c : Addr} (q : shpB K c = true) : ∃ nm qn N bs bm sn sub ab col dd k0 k1 k2 k3 k5, K.lookup c = some (excClassObj nm qn c N bs bm true sn sub ab col dd k0 k1 k2 k3 k5 "ValueError.__new__") ∧ PySem.HandSPX.refsVE bm = true := by
  unfold shpB at q
  split at q
  · rename_i dd cd sl ho
    split at q
    · rename_i C' bm k0 k1 k2 k3 n k5 hm hs
      simp only [Bool.and_eq_true, beq_iff_eq, Bool.not_eq_true'] at q
      obtain ⟨⟨⟨⟨rfl, rfl⟩, hdel⟩, hdc⟩, ht⟩ := q
      obtain ⟨nm, bs, mro, ns, qn, hd, sn, sub, ab, col, del⟩ := cd
      dsimp only at hm hdel hdc
      subst hm hdel hdc
      have hsl : sl = #[k0, k1, k2, k3, some (.builtin "ValueError.__new__"), k5] := by
        obtain ⟨l⟩ := sl
        simp only at hs
        rw [hs]
      subst hsl
      exact ⟨nm, qn, ns, bs, bm, sn, sub, ab, col, dd, k0, k1, k2, k3, k5, ho, ht⟩
    · cases q
  · cases q
def isV (a b : Option Value) : Bool := decide (a = b)
def isB (a : Option Bool) (b : Bool) : Bool := decide (a = some b)
def noF (c : Addr) (f : Str) : Fb := fun K => eqO (PySem.W.findIn K (.ref c) f) (some none)
theorem noF_ok {K : PySem.W.Frag} {c : Addr} {f : Str} (h : noF c f K = true) : PySem.W.findIn K (.ref c) f = some none := eqO_ok h
def fndB (K : PySem.W.Frag) (c : Addr) (f : Str) (v : Value) : Bool := eqO (PySem.W.findIn K (.ref c) f) (some (some v))
def gaB (K : PySem.W.Frag) (c : Addr) : Bool := fndB K c "__getattribute__" (.builtin "BaseException.__getattribute__") && (eqO (PySem.W.findIn K (.ref c) "__getattr__") (some none) && (PySem.W.hasDictIn K c))
theorem gaB_ok {K : PySem.W.Frag} {c : Addr} (h : gaB K c = true) : GaH K c := by
  obtain ⟨h1, h⟩ := ba h
  obtain ⟨h2, h3⟩ := ba h
  exact ⟨eqO_ok h1, eqO_ok h2, h3⟩
def xinB (K : PySem.W.Frag) (c ini : Addr) : Bool := shpB K c && (fndB K c "__setattr__" (.builtin "object.__setattr__") && (isB (PySem.W.subIn K (.ref c) (.type "BaseException")) true && (isV (PySem.W.typeIn K (.ref c)) (some (.type "type")) && (PySem.W.keepIn K (.ref c) && (gaB K c && (fndB K c "__init__" (.ref ini) &&
  (isV (PySem.W.typeIn K (.ref ini)) (some (.type "function")) && PySem.W.isClsIn K c)))))))
theorem xinB_ok {K : PySem.W.Frag} {c ini : Addr} (h : xinB K c ini = true) : XinP K c ini := by
  obtain ⟨h1, h⟩ := ba h
  obtain ⟨h2, h⟩ := ba h
  obtain ⟨h3, h⟩ := ba h
  obtain ⟨h4, h⟩ := ba h
  obtain ⟨h5, h⟩ := ba h
  obtain ⟨h6, h⟩ := ba h
  obtain ⟨h7, h⟩ := ba h
  obtain ⟨h8, h9⟩ := ba h
  have g := gaB_ok h6
  exact ⟨⟨shp_ok h1, eqO_ok h2, of_decide_eq_true h3, of_decide_eq_true h4, h5⟩, ⟨g.ga, g.gg, of_decide_eq_true h3, g.hd⟩, eqO_ok h7, of_decide_eq_true h8, h9⟩
def x0B (K : PySem.W.Frag) (c : Addr) : Bool := PySem.W.excIn K c He.veBase "ValueError.__new__" && (PySem.W.keepIn K (.ref c) && (isB (PySem.W.subIn K (.ref c) (.type "BaseException")) true && (isV (PySem.W.typeIn K (.ref c)) (some (.type "type")) && PySem.W.isClsIn K c)))
theorem x0B_ok {K : PySem.W.Frag} {c : Addr} (h : x0B K c = true) : X0H K c := by
  obtain ⟨h1, h⟩ := ba h
  obtain ⟨h2, h⟩ := ba h
  obtain ⟨h3, h⟩ := ba h
  obtain ⟨h4, h5⟩ := ba h
  exact ⟨h1, h2, of_decide_eq_true h3, of_decide_eq_true h4, h5⟩
def insB (K : PySem.W.Frag) (c ini : Addr) : Bool := fndB K c "__init__" (.ref ini) && (PySem.W.makesIn K c && (PySem.W.isFn K (.ref ini) && (PySem.W.keepIn K (.ref c) && (PySem.W.plainGet K c Str.empty && (PySem.W.hasDictIn K c && (PySem.W.plainOver K c && fndB K c "__setattr__" (.builtin "object.__setattr__")))))))
theorem insB_ok {K : PySem.W.Frag} {c ini : Addr} (h : insB K c ini = true) : InsH K c ini := by
  obtain ⟨h1, h⟩ := ba h
  obtain ⟨h2, h⟩ := ba h
  obtain ⟨h3, h⟩ := ba h
  obtain ⟨h4, h⟩ := ba h
  obtain ⟨h5, h⟩ := ba h
  obtain ⟨h6, h⟩ := ba h
  obtain ⟨h7, h8⟩ := ba h
  exact ⟨eqO_ok h1, h2, h3, h4, h5, h6, h7, eqO_ok h8⟩
def mrB (K : PySem.W.Frag) (d F : Addr) : Bool := match PySem.W.clsIn K d with
  | some c => decide (c.mro = [.ref d, .ref F, .type "ValueError", .type "Exception", .type "BaseException", .type "object"])
  | none => false
theorem mrB_ok {K : PySem.W.Frag} {d F : Addr} (h : mrB K d F = true) : MroIs K d F := by
  unfold mrB at h
  unfold MroIs
  split at h
  · rename_i c e
    rw [e, Option.map_some, of_decide_eq_true h]
  · cases h
def ndB (K : PySem.W.Frag) (xs : List Str) : Bool := decide (xs.map (ga K)).Nodup
theorem ndB_ok {K : PySem.W.Frag} {xs : List Str} (h : ndB K xs = true) : (xs.map (ga K)).Nodup := of_decide_eq_true h
/-! a def -/
theorem fun_of {K : PySem.W.Frag} {x q : Str} {st : Stmt} {f : Addr} {fd : FuncData} (F : FunD K x q (defArgs st) (defBody st) (defScope st) [] [] f fd) : Fun K x q st f fd := by
  obtain ⟨⟨oc, od, dV, kV, doc, pm, an, cdv, ct, osl, e, lk, hcd, hd, hk⟩, kp⟩ := F
  rcases hd with ⟨_, rfl⟩ | ⟨hn, _⟩
  · exact ⟨⟨oc, od, kV, doc, pm, an, cdv, ct, osl, e, lk, hcd⟩, kp⟩
  · exact absurd rfl hn
/-! ### the Hook -/
def obsX (fa : List Fb) (fn : List He.DefD) (K : PySem.W.Frag) : He.AlD := ((fa.all fun f => f K) && fn.all fun d => d.ok K, fn.map fun d => He.fnW K d.at_)
def SaysX (fa : List Fb) (fn : List He.DefD) (K : PySem.W.Frag) : Prop := obsX fa fn K = He.valD fn
/-- what a list of objects names; all that is named in n steps (with repeats) -/
def lvG (g : Addr → Option Obj) (fr : List Addr) : List Addr := fr.flatMap fun a => match g a with
  | some o => He.refsD o
  | none => []
def asF (g : Addr → Option Obj) : Nat → List Addr → List Addr
  | 0, fr => fr
  | n + 1, fr => fr ++ asF g n (lvG g fr)
def obsXG (n : Nat) (fa : List Fb) (fn : List He.DefD) (g : Addr → Option Obj) : He.AlD := obsX fa fn (He.frG g (asF g n [mainGlobals]))
def hookX (n : Nat) (fa : List Fb) (fn : List He.DefD) : PySem.W.Hook where
  α := He.AlD
  obs := fun s => obsXG n fa fn s.heap.get?
  val := fun _ => He.valD fn
  says := fun _ h => ∃ K : PySem.W.Frag, K.In h ∧ SaysX fa fn K
  of := fun _ _ e => ⟨_, He.frG_in, e⟩
  keeps := fun _ _ _ ⟨K, hK, c⟩ k => ⟨K, PySem.W.Frag.In.keeps hK k, c⟩
theorem obsXG_eq {n : Nat} {fa : List Fb} {fn : List He.DefD} {g : Addr → Option Obj} {s : Shared} (h : ∀ a, g a = s.heap.get? a) : obsXG n fa fn g = (hookX n fa fn).obs s := by
  have e : g = s.heap.get? := funext h
  rw [e] <;> rfl
section
variable {fa : List Fb} {fn : List He.DefD} {K : PySem.W.Frag}
theorem SaysX.fact (c : SaysX fa fn K) (i : Nat) (f : Fb) (h : fa[i]? = some f := by rfl) : f K = true := by
  have c1 := (ba (show ((fa.all fun f => f K) && fn.all fun d => d.ok K) = true from congrArg (fun z : He.AlD => z.1) c)).1
  exact List.all_eq_true.mp c1 f (List.mem_of_getElem? h)
theorem SaysX.def_ (c : SaysX fa fn K) (i : Nat) (d : He.DefD) (h : fn[i]? = some d := by rfl) : ∃ fd, FunD K d.name d.qual d.params d.body d.scope (d.dvs K) (d.kws K) (fAd K d.at_) fd := by
  have c2 := (ba (show ((fa.all fun f => f K) && fn.all fun d => d.ok K) = true from congrArg (fun z : He.AlD => z.1) c)).2
  have e : fn.map (fun d => He.fnW K d.at_) = fn.map He.DefD.val := congrArg (fun z : He.AlD => z.2) c
  have e2 : (fn.map fun d => He.fnW K d.at_)[i]? = (fn.map He.DefD.val)[i]? := by rw [e]
  rw [List.getElem?_map, List.getElem?_map, h] at e2
  exact He.DefD.funD (Option.some.inj e2) (List.all_eq_true.mp c2 d (List.mem_of_getElem? h))
end
/-- a law's end over a head by facts -/
theorem walk_ofGE {l : PySem.W.OpenLaw} {n k : Nat} {q : Program} {loose : List Str} {XP : (Str → Option Value) → Heap → Prop} {YP : World → Heap → Prop} {d : DefRec} {x : Str} (hn : l.most = some n) (hn2 : n ≤ sizeLine) (h63 : n ≤ 63) (hdf : d.params.defaults = []) (hr : Room k callerA)
    (F : ∀ (w : World) (mg : Str → Option Value) (fa : Addr) (h : Heap), YP w h → h.Ns mainGlobals mg → mg d.name = some (.ref fa) → ∃ (K : PySem.W.Frag) (fd : FuncData), K.In h ∧ (∀ (s : Shared) (u : Value), BindsTo s fd ⟨[u], []⟩ [(x, u)]) ∧
      ∀ base : Heap, K.In base → base.Ns mainGlobals mg → FnG l.prog w K mg base CX0 k fa fd [x] (spScr K)) : PySem.W.WalkO q loose XP YP l.row.toRowW d [] (fun f vs => PySem.call f vs) := by
  refine Att.attach_callB hn hdf fun w s₀ s₁ mg mb fa o pm cd doc a vs ns G Y ho hd hcd hmg hobj hints hlen hbits hg => ?_
  obtain ⟨K, fd, KX, hb, hF⟩ := F w mg fa _ Y G.T.g hmg
  exact law_callG KX G.T.g G.T.b G.T.builtins G.T.nolimit hg hobj hints (Nat.le_trans hlen hn2) hr hF hb fun H hO hS => ⟨a, ns, rfl, hS, Nat.le_trans hlen h63, fun _ => rfl⟩
/-- a law that may raise by its look, and does not -/
theorem fnG_ofX {P : Program} {w : World} {K : PySem.W.Frag} {mg : Str → Option Value} {base : Heap} {k : Nat} {f : Addr} {fd : FuncData} {ps : List Str} {sp sp' : Sp} (F : FnG P w K mg base (CX P w) k f fd ps sp) (h : ∀ vs H Q E, sp' vs H Q E → sp vs H Q fun _ _ _ => False) : FnG P w K mg base CX0 k f fd ps sp' :=
  ⟨fun vs H Q E q => F.len vs H Q _ (h vs H Q E q), fun A outer s H args us vs Q E ga hr e0 bd va q => codeAny_mono (F.run A outer s H args us vs Q _ ga hr e0 bd va (h vs H Q E q)) fun r s' out => by
    match r, out with
    | .ok (.ret u), out => exact out
    | .ok .next, out => exact out.elim
    | .ok .brk, out => exact out.elim
    | .ok .cont, out => exact out.elim
    | .error e, ⟨_, _, _, _, _, _, _, _, _, _, _, _, z⟩ => exact z.elim⟩
theorem spScr_any {K : PySem.W.Frag} {vs : List V} {H : Hp} {Q : VK} {E E' : XK} (h : spScr K vs H Q E) : spScr K vs H Q E' := h
end Fx
namespace Fx
open PySem PySem.Spec PyProof.Rows L2 Co
/-! ### recursion: promises by levels -/
def nilF : FC := fun _ _ => .stuck
section
variable {P : Program} {w : World} {K : PySem.W.Frag} {mg : Str → Option Value} {base : Heap} {CX : CXT} {k : Nat} {f : Addr} {fd : FuncData} {ps : List Str} {M : Md} {g : FC}
theorem spM_nil {vs : List V} {H : Hp} {Q : VK} {E : XK} (h : spM M nilF vs H Q E) : False := by
  obtain ⟨W, S, xs, _, _, q⟩ := h
  exact q
theorem fnOk_nil : FnOk P w K mg base CX k f fd ps (spM M nilF) := ⟨fun _ _ _ _ h => (spM_nil h).elim, fun _ _ _ _ _ _ _ _ _ _ _ _ _ h => (spM_nil h).elim⟩
theorem fnG_nil : FnG P w K mg base CX k f fd ps (spM M nilF) := ⟨fun _ _ _ _ h => (spM_nil h).elim, fun _ _ _ _ _ _ _ _ _ _ _ _ _ _ h => (spM_nil h).elim⟩
theorem spM_calm {vs : List V} {H : Hp} {Q : VK} {E : XK} (h : spM M (calmF g) vs H Q E) : spM M g vs H Q E := by
  obtain ⟨W, S, xs, a, b, q⟩ := h
  exact ⟨W, S, xs, a, b, (calm_post q).mono (fun _ _ z => z) fun _ _ _ z => z.elim⟩
theorem fnOk_calm (F : FnOk P w K mg base CX k f fd ps (spM M g)) : FnOk P w K mg base CX k f fd ps (spM M (calmF g)) := F.imp fun _ _ _ _ h => spM_calm h
theorem fnG_calm (F : FnG P w K mg base CX k f fd ps (spM M g)) : FnG P w K mg base CX k f fd ps (spM M (calmF g)) :=
  ⟨fun vs H Q E q => F.len vs H Q E (spM_calm q), fun A outer s H args us vs Q E ga hr e0 bd va q => F.run A outer s H args us vs Q E ga hr e0 bd va (spM_calm q)⟩
end
/-- nothing leaves -/
theorem passF {X : Cx} {P : Program} {w : World} : Passes (CX P w) X (fun _ _ _ => False) := fun _ _ _ _ _ _ _ ⟨_, _, _, _, _, _, _, _, _, _, _, _, h⟩ => h.elim
section
variable {M : Md} {W W' Wa W0 W1 : Wd} {H H' Ha H1 : Hp} {S S' : Sta} {σ : L2.St} {ε : Env} {X : WX}
variable {ta tb tc te : TE} {ma mb mc me : Env → Sta → Out PV}
/-! ### texts -/
def rStrI : List V → Hp → VK → Prop := fun xs H Q => ∃ i, xs = [.int i] ∧ i.natAbs.log2 < 1920 ∧ Q (.str (toString i)) H
theorem call_strI {X : Cx} : CallR X (.type "str") rStrI := call_str_int
def fStr : FC := fun xs S => match xs with
  | [.int i] => if i.natAbs.log2 < 1920 then .ok (.str (toString i)) S else .stuck
  | _ => .stuck
theorem k_str : KC M rStrI fStr := fun W H S vs xs r ha Q q => by
  unfold fStr at q
  split at q
  · rename_i i
    obtain ⟨z, q⟩ := ite_post q
    obtain ⟨v, rfl, hv⟩ := rpa1 ha
    cases hv
    exact ⟨i, rfl, z, okG_end r (.str _) q⟩
  · exact q.elim
def rIntS : List V → Hp → VK → Prop := fun xs H Q => ∃ a n, xs = [.str a] ∧ PySem.intText? a = some n ∧ a.length ≤ 640 ∧ Q (.int n) H
def rIntX : List V → Hp → VK → Prop := fun xs H Q => rInt1 xs H Q ∨ rIntS xs H Q
theorem call_intX {X : Cx} : CallR X (.type "int") rIntX := CallR.or call_int1A call_int_str
def fIntX : FC := fun xs S => match xs with
  | [.str a] => match PySem.intText? a with
    | some n => if a.length ≤ 640 then .ok (.int n) S else .stuck
    | none => .stuck
  | xs => fInt xs S
theorem k_intX : KC M rIntX fIntX := fun W H S vs xs r ha Q q => by
  unfold fIntX at q
  split at q
  · rename_i a
    obtain ⟨v, rfl, hv⟩ := rpa1 ha
    cases hv
    cases e : PySem.intText? a with
    | none => rw [e] at q; exact q.elim
    | some n =>
      rw [e] at q
      obtain ⟨z, q⟩ := ite_post q
      exact .inr ⟨a, n, rfl, e, z, okG_end r (.int _) q⟩
  · exact .inl (k_int W H S vs xs r ha Q q)
def fNotInS : F2 := fun S x y => match x, y with
  | .str c, .str z => match c.cps.toList with
    | [n] => some (.bl (!decide (n ∈ z.cps.toList)))
    | _ => none
  | _, _ => none
theorem k_notInS : K2 M rNotInS fNotInS := fun W H S u v x y p r hx hy e Q q => by
  unfold fNotInS at e
  split at e
  · rename_i c z
    cases hx; cases hy
    split at e
    · rename_i n en
      cases e
      have : c = ⟨#[n]⟩ := by
        cases c with
        | mk cps =>
          congr 1
          apply Array.ext'
          simpa using en
      subst this
      exact ⟨n, z, rfl, rfl, okG_end r (.bl _) q⟩
    · cases e
  · cases e
/-- a sign so many times -/
def manyS (n c : Nat) : Str := ⟨(List.replicate n c).toArray⟩
def rRepS : R2 := fun x y H Q => ∃ (c : Nat) (k : Int), x = .str ⟨#[c]⟩ ∧ y = .int k ∧ 2 ≤ k ∧ k ≤ 1000 ∧ Q (.str (manyS k.toNat c)) H
theorem many_fold (c : Nat) : ∀ (n : Nat) (acc : Array Nat), (List.replicate n #[c]).foldl (· ++ ·) acc = acc ++ (List.replicate n c).toArray
  | 0, acc => by simp
  | n + 1, acc => by
    rw [List.replicate_succ, List.foldl_cons, many_fold c n]
    apply Array.ext'
    simp [List.replicate_succ]
theorem op_repS {X : Cx} : OpR X (binaryOp .Mult) rRepS := by
  intro pins s σ H x y v u Q I rx ry h
  obtain ⟨c, k, rfl, rfl, h1, h2, q⟩ := h
  obtain ⟨t, rfl⟩ := rx
  obtain ⟨t', rfl⟩ := ry
  have e63 : (2 : Int) ^ 63 = 9223372036854775808 := by decide
  have hk : k ≠ 1 := by omega
  have c1 : (k == 1 || (⟨#[c]⟩ : Str).length == 0) = false := by
    have a : (k == 1) = false := by simpa using hk
    rw [a]; rfl
  refine P.mul_str ?_ (fun _ _ => ?_) (fun _ _ => ?_) ?_
  · rw [e63, decide_eq_false (by omega), decide_eq_false (by omega)]; rfl
  · show ¬ ((1 : Nat) : Int) > (2 ^ 63 - 1) / k
    rw [e63]
    have : (9223372036854775808 - 1) / k ≥ (9223372036854775808 - 1) / 1000 := by
      have k0 : 0 < k := by omega
      apply (Int.le_ediv_iff_mul_le k0).mpr
      have : (9223372036854775808 - 1) / 1000 * k ≤ (9223372036854775808 - 1) / 1000 * 1000 := Int.mul_le_mul_of_nonneg_left h2 (by decide)
      omega
    omega
  · show PySem.Builtin.Str.tooLong (1 * k.toNat) = false
    unfold PySem.Builtin.Str.tooLong
    have : sizeLine = 16777216 := sizeLine_eq
    simp
    omega
  · rw [if_neg (by omega), if_neg (by rw [c1]; exact Bool.false_ne_true)]
    have e : (List.replicate k.toNat (⟨#[c]⟩ : Str).cps).foldl (· ++ ·) #[] = (List.replicate k.toNat c).toArray := by
      rw [many_fold]; simp
    rw [e]
    refine ⟨?_, ?_⟩
    · have : sizeLine = 16777216 := sizeLine_eq
      show (List.replicate k.toNat c).toArray.size ≤ sizeLine
      simp
      omega
    · exact ⟨.str (manyS k.toNat c), H, I.tok _, ⟨_, rfl⟩, q⟩
def fRepS : F2 := fun S x y => match x, y with
  | .str c, .int k => match c.cps.toList with
    | [n] => if 2 ≤ k ∧ k ≤ 1000 then some (.str (manyS k.toNat n)) else none
    | _ => none
  | _, _ => none
theorem k_repS : K2 M rRepS fRepS := fun W H S u v x y p r hx hy e Q q => by
  unfold fRepS at e
  split at e
  · rename_i c k
    cases hx; cases hy
    split at e
    · rename_i n en
      obtain ⟨⟨h1, h2⟩, rfl⟩ := ite_some e
      have : c = ⟨#[n]⟩ := by
        cases c with
        | mk cps =>
          congr 1
          apply Array.ext'
          simpa using en
      subst this
      exact ⟨n, k, rfl, rfl, h1, h2, okG_end r (.str _) q⟩
    · cases e
  · cases e
/-! ### range with a step -/
theorem walk_rngC {lo c : Int} {n : Nat} : Walk M W (Itc lo c n) ⟨(List.range n).map fun (i : Nat) => .int (lo + (i : Int) * c), []⟩ := fun W2 H2 S2 i l r pn => by
  refine ⟨fun p hp => ?_, fun hi => ?_⟩
  · simp only [List.getElem?_map] at hp
    obtain ⟨j, h1, rfl⟩ := Option.map_eq_some_iff.mp hp
    obtain ⟨hl, h2⟩ := List.getElem?_eq_some_iff.mp h1
    simp at hl h2
    subst h2
    refine ⟨hl, ?_⟩
    rintro x H3 ⟨rfl, rfl⟩
    exact ⟨W2, .refl _ _, r, .int _⟩
  · simp at hi
    show n ≤ i
    omega
theorem rpa3 {vs : List V} {a b c : PV} (h : RpA M W vs [a, b, c]) : ∃ x y z, vs = [x, y, z] ∧ Rp M W x a ∧ Rp M W y b ∧ Rp M W z c := by
  cases h with | cons h1 h => obtain ⟨y, z, rfl, h2, h3⟩ := rpa2 h; exact ⟨_, _, _, rfl, h1, h2, h3⟩
def Rng3I (ms : Env → Sta → Out (List PV)) : Env → Sta → Out IT := fun ε S => (ms ε S).bind fun xs S1 => match xs with
  | [.int i, .int j, .int c] => if c ≠ 0 ∧ c.natAbs < 1073741824 ∧ Builtin.Range.small i j c = true then .ok ⟨(List.range (Builtin.Range.rangeSize i j c).toNat).map fun (k : Nat) => .int (i + (k : Int) * c), []⟩ S1 else .stuck
  | _ => .stuck
theorem ri_rng3 {ts : TA} {ms : Env → Sta → Out (List PV)} (h : RA M W0 X ts ms) : RI M W0 X (iRng3 ts) (Rng3I ms) := fun W H S σ ε le r0 er Q q =>
  h.thn (.refl W H) le r0 er q fun vs xs S1 W1 H1 g1 r1 p1 q1 => by
    split at q1
    · rename_i n m c
      obtain ⟨⟨z1, z2, z3⟩, q2⟩ := ite_post q1
      obtain ⟨v, w, u, rfl, hv, hw, hu⟩ := rpa3 p1
      cases hv
      cases hw
      cases hu
      refine ⟨n, m, c, _, rfl, ⟨z1, z2, z3, ?_⟩, q2 _ W1 H1 g1 r1 walk_rngC⟩
      have h0 : 0 ≤ Builtin.Range.rangeSize n m c := by
        unfold Builtin.Range.rangeSize
        split
        · split
          · have := Int.ediv_nonneg (a := m - n - 1) (b := c) (by omega) (by omega); omega
          · omega
        · split
          · have := Int.ediv_nonneg (a := n - m - 1) (b := -c) (by omega) (by omega); omega
          · omega
      omega
    · exact q1.elim
/-! ### powers of a larger base -/
def CPowX (i j : Int) : Prop := 0 ≤ j ∧ (Builtin.Int.intBits i : Int) * j ≤ 2 ^ 27
theorem op_powX {X : Cx} : OpR X (binaryOp .Pow) (rI CPowX fun i j => .int (i ^ j.toNat)) := opI fun _ _ _ _ _ _ _ hc q => pow_int hc.1 hc.2 q
abbrev fPowX : F2 := fI (fun i j => 0 ≤ j ∧ (Builtin.Int.intBits i : Int) * j ≤ 134217728) fun i j => .int (i ^ j.toNat)
theorem k_powX : K2 M (rI CPowX fun i j => .int (i ^ j.toNat)) fPowX := k_I (fun _ _ h => by
  have e : (2 : Int) ^ 27 = 134217728 := by decide
  unfold CPowX
  rw [e]
  exact h) fun _ _ _ => .int _
end
end Fx
/-! a list comprehension whose element may raise -/
namespace Co
open PySem PySem.Spec PyProof.Rows L2
section
variable {M : Model} {A : Around} {E : Value → Shared → Prop} {s : Shared} {env : Env}
/-- behind the block: its end, or an error that goes on -/
def postX (M : Model) (A : Around) (E : Value → Shared → Prop) (Q : Value → Shared → Prop) (D : Value) (ce : Env) (r : Result) (t : Shared) : Prop := match r with
  | .ok _ => ∃ m, t.heap.Ns ce.locals m ∧ ∀ h', Heap.SameBut ce.locals t.heap h' → Q D { t with heap := h' }
  | .error x => ∃ m, t.heap.Ns ce.locals m ∧ ∀ h', Heap.SameBut ce.locals t.heap h' → wpAny M A (PySem.passOn "comprehension.variables-let-go" x ce : Sem Value) (fun _ _ => False) E { t with heap := h' }
theorem comp_freeX {e : Expr} {sc : Scope} {pos : Pos} {mk fst : Sem Value} {c : Comprehension} {cs : List Comprehension} {cl : List (Str × Addr)} {Q : Value → Shared → Prop} (h1 : clausesOf e = c :: cs) (h2 : ∀ x, foldedSetIterable c.iter env x = pure x) (h3 : closureFor sc env = pure cl)
    (h4 : sc.kind = .function) (h5 : ∀ x ∈ sc.names, x.2 = .local → sc.names.lookup x.1 = some .local)
    (go : wpAny M A fst (fun x t1 => wpAny M A (pyIter x) (fun it t2 => wpAny M A mk (fun D t3 => wpAny M A (newFunctionEnv sc env.globals cl [] env.qual none .none (some env))
      (fun ce t4 => codeAny M A (.compStart e 0 it D { ce with scope := relabel sc env }) (postX M A E Q D { ce with scope := relabel sc env }) t4) E t3) E t2) E t1) E s) :
    wpAny M A (comprehension e sc env pos mk false fst none) Q E s := by
  unfold comprehension
  rw [h3, h1]
  refine wpAny_bind (wpAny_mono go (fun x t1 g1 => wpAny_bind (wpAny_standAt (wpAny_bind (wpAny_of_eq (h2 x) (wpAny_bind (wpAny_holding (wpAny_mono g1 (fun it t2 g2 => wpAny_standIf (wpAny_bind (wpAny_mono g2 (fun D t3 g3 =>
    wpAny_bind (wpAny_pure (wpAny_bind (wpAny_mono g3 (fun ce t4 g4 => ?_) fun _ _ z => z)))) fun _ _ z => z))) fun _ _ z => z))))))) fun _ _ z => z)
  dsimp only
  have kd : ∀ x ∈ (sc.names.filter fun x => (x.2 == .local || x.2 == .cell) && x.1 != (".0" : Str)).reverse, x.2 = .local → Env.kindOf { ce with scope := relabel sc env } x.1 = some .local :=
    fun x hx l => lookup_relabel_local (h5 x (List.mem_filter.mp (List.mem_reverse.mp hx)).1 l)
  refine wpAny_holding (wpAny_bind (wpAny_attempt (wpAny_holding (wpAny_run (codeAny_mono g4 fun r t' out => ?_)))))
  cases r with
  | ok f =>
    obtain ⟨m, n, k⟩ := out
    exact wpAny_bind (wpAny_holding (wpAny_comp_letGo (cenv := { ce with scope := relabel sc env }) h4 _ t' m kd n fun h' m' _ sb => wpAny_pure (k h' sb)))
  | error x =>
    obtain ⟨m, n, k⟩ := out
    exact wpAny_bind (wpAny_holding (wpAny_comp_letGo (cenv := { ce with scope := relabel sc env }) h4 _ t' m kd n fun h' m' _ sb => wpAny_mono (k h' sb) (fun _ _ z => z.elim) fun _ _ z => z))
end
theorem noteFrame_same {e : Value} {a b : Env} (h : a.frame = b.frame) : noteFrame e a = noteFrame e b := by
  unfold noteFrame PySem.frameOf
  rw [h]
theorem funFrames_but {B h h' : Heap} : ∀ {l : List Env}, h.FunFrames B l → (∀ L ∈ frs l, h'.get? L = h.get? L) → h'.FunFrames B l
  | [], _, _ => trivial
  | env :: l, hh, k => by
    obtain ⟨hk, ⟨L, o, hf, hn, ho, hd⟩, hr⟩ := hh
    refine ⟨hk, ⟨L, o, hf, hn, (k L (List.mem_filterMap.mpr ⟨env, List.mem_cons_self, hf⟩)).trans ho, hd⟩, funFrames_but hr fun b hb => ?_⟩
    obtain ⟨e, he, q⟩ := List.mem_filterMap.mp hb
    exact k b (List.mem_filterMap.mpr ⟨e, List.mem_cons_of_mem _ he, q⟩)
section
variable {X : Cx} {pins : List (Addr × Obj)} {σ : L2.St} {H : Hp} {s s' : Shared} {E : XK}
/-- what a call let out, over a state of ours -/
theorem out_of (I : Inv X pins σ H s) {u : Value} (c : CX X.prog X.w X.stack H s E u s') : ∃ (a : Addr) (B : Heap) (t : Shared) (H' : Hp) (cls : Value) (d : Option Addr), u = .ref a ∧ Inv X pins σ H' t ∧
    (∀ b o, t.heap.get? b = some o → b ∉ frs X.stack → B.get? b = some o) ∧ t.heap.UpToSlots s'.heap ∧ HandSPX.FlyingZ B X.stack a (Zc cls d) s'.heap ∧ H' a = none ∧ s'.os = t.os ∧ AllBare s'.gens ∧ E cls d H' := by
  obtain ⟨a, B, H', cls, d, hu, fl, ho, ub, n, po, pg, w⟩ := c
  obtain ⟨G, in1, out1⟩ := restrict s'.heap fun b => (B.get? b).isSome || decide (b ∈ frs X.stack)
  have both : ∀ b o, G.get? b = some o → s'.heap.get? b = some o ∧ ((B.get? b).isSome = true ∨ b ∈ frs X.stack) := fun b o e => by
    by_cases q : ((B.get? b).isSome || decide (b ∈ frs X.stack)) = true
    · rw [in1 b q] at e
      simp only [Bool.or_eq_true, decide_eq_true_eq] at q
      exact ⟨e, q⟩
    · rw [out1 b (by simpa using q)] at e
      cases e
  have old : ∀ b o, B.get? b = some o → G.get? b = some o := fun b o e => (in1 b (by rw [e]; rfl)).trans (fl.1 b o e)
  have frm : ∀ b, b ∈ frs X.stack → G.get? b = s'.heap.get? b := fun b hb => in1 b (by rw [decide_eq_true hb, Bool.or_true])
  refine ⟨a, B, { s with heap := G, gens := s'.gens, drawn := s'.drawn, toks := s'.toks }, H', cls, d, hu, ?_, fun b o e hb => ?_, Heap.UpToSlots.of_keeps fun b o e => (both b o e).1, fl, n, po, pg, w⟩
  · refine I.call (ch := []) ⟨?_, ?_, ?_, ?_, ub.tups, ub.frzs, ub.tbls⟩ (ho.kept old) pg (fun _ z => nomatch z)
    · exact fun b o e n hb _ => old b o (ub.keep b o e n hb)
    · intro b o e n hb _
      obtain ⟨sl, q⟩ := ub.slot b o e hb
      exact ⟨sl, (frm b hb).trans q⟩
    · exact fun b o e n _ => ub.free b o e n
    · intro b o e _
      by_cases hb : b ∈ frs X.stack
      · obtain ⟨sl, q⟩ := ub.slot b o e hb
        exact ⟨_, (frm b hb).trans q⟩
      · obtain ⟨o', q⟩ := ub.there b o e hb
        exact ⟨o', old b o' q⟩
  · obtain ⟨e1, z | z⟩ := both b o e
    · obtain ⟨o', q⟩ := Option.isSome_iff_exists.mp z
      have := fl.1 b o' q
      rw [e1] at this
      cases this
      exact q
    · exact absurd z hb
/-- an error that leaves the block at ce, whose own dict stands at C -/
theorem out_block (hs : X.stack = X.env :: X.outer) (hf : X.env.frame = some X.env.locals) (tk : Takes X (fun cls d _ H => E cls d H)) (I : Inv X pins σ H s) {ce : Env} (hfr : ce.frame = X.env.frame) {m : Str → Option Value} (hn : s.heap.Ns ce.locals m) (fC : FpOk X pins H ce.locals)
    {Qf : Value → Shared → Prop} {D u : Value} (c : CX X.prog X.w X.stack H s E u s') : notedBy (model X.prog X.w) X.A ce (fun e t => postX (model X.prog X.w) X.A X.xe Qf D ce (.error e) t) u s' := by
  obtain ⟨oC, es, ep, gC, dC, rC⟩ := hn
  have I1 : Inv X (pins ++ pinsAt [ce.locals] s.heap) σ H s := I.pinned (fun b hb => by
    rcases List.mem_singleton.mp hb with rfl
    exact fC) (fun b hb => by
    rcases List.mem_singleton.mp hb with rfl
    exact ⟨oC, gC, fun v z => by rw [dC] at z; cases z⟩)
  obtain ⟨a, B, t, H', cls, d, rfl, J, nb, up, fl, na, po, pg, w⟩ := out_of I1 c
  have hpin : (ce.locals, oC) ∈ pinsAt [ce.locals] s.heap := mem_pinsAt (List.mem_singleton.mpr rfl) gC
  obtain ⟨tC, hC, cL, cfs, cd⟩ := J.pin (ce.locals, oC) (List.mem_append_right _ (List.mem_append_right _ hpin))
  have cstk : ce.locals ∉ frs X.stack := fun z => (List.mem_cons.mp (J.stkSub _ z)).elim cL cfs
  have bC : B.get? ce.locals = some oC := nb _ _ tC cstk
  have hfrs : X.A.frames = some (X.env :: X.outer) := by rw [J.ok.frames, hs]
  show wpAny _ _ (noteFrame (.ref a) ce) _ _ _
  rw [noteFrame_same hfr]
  rw [hs] at fl
  refine HandSPX.looks_onZ Zc.steady hfrs hf fl fun h1 held up1 => ?_
  rw [← hs] at held
  obtain ⟨k1, k2, k3, oe, vs, T, oT, ts, he, hz, hd, hv, hnT, hTe, hT, hdT, h3⟩ := held
  have aC : a ≠ ce.locals := fun z => by rw [z, bC] at k2; cases k2
  have TC : T ≠ ce.locals := fun z => by rw [z, bC] at hnT; cases hnT
  refine ⟨m, ⟨oC, es, ep, k1 _ _ bC, dC, rC⟩, fun h' sb => ?_⟩
  have off : ∀ b, b ≠ ce.locals → h'.get? b = h1.get? b := fun b hb => sb.2 b hb
  have frm : ∀ L ∈ frs X.stack, h'.get? L = h1.get? L := fun L hL => off L fun z => cstk (z ▸ hL)
  have J0 : Inv X pins σ H' t := J.unpinned
  -- the block's dict out of sight
  have J1 : Inv X pins σ H' { t with heap := PySem.W.hideAll t.heap [ce.locals] } :=
    J0.turned (t' := t.toks) (it := ce.locals) (fun b o hb e => PySem.W.hideAll_get _ e (by simpa using hb)) hC cL (fC.2.2.2.1) fC.2.2.2.2.1 fC.2.2.2.2.2
  have gB : ∀ b o, (PySem.W.hideAll B [ce.locals]).get? b = some o → b ≠ ce.locals ∧ B.get? b = some o := fun b o e =>
    ⟨fun z => (by
      rw [PySem.W.hideAll_none [ce.locals] (by rw [z]; exact List.mem_singleton.mpr rfl)] at e
      cases e), PySem.W.of_hideAll _ e⟩
  have stay : (PySem.W.hideAll B [ce.locals]).StaysIn h' := fun b o e => (off b (gB b o e).1).trans (k1 b o (gB b o e).2)
  have hid : ∀ b, B.get? b = none → (PySem.W.hideAll B [ce.locals]).get? b = none := fun b e => by
    cases q : (PySem.W.hideAll B [ce.locals]).get? b with
    | none => rfl
    | some o => rw [(gB b o q).2] at e; cases e
  have ff : h'.FunFrames (PySem.W.hideAll B [ce.locals]) X.stack := funFrames_none (funFrames_but k3 frm) fun L hL => hid L (by
    obtain ⟨n, _⟩ := k3.mem hL
    exact n)
  have he' := (off a aC).trans he
  have hT' := (off T TC).trans hT
  unfold PySem.passOn
  refine wpAny_bind (wpAny_field (s := { { s' with heap := h1 } with heap := h' }) he' hd hv ?_)
  rw [if_neg (show ¬ ((Value.ref T == Value.none) = true) from by simp)]
  have fin : wpAny (model X.prog X.w) X.A (setFlight (.ref a) ce.frame) (fun _ t4 => wpAny (model X.prog X.w) X.A (throw (.ref a) : Sem Value) (fun _ _ => False) X.xe t4) X.xe { { s' with heap := h1 } with heap := h' } := by
    rw [hfr, hf]
    refine HandSPX.setFlight_anyZ (base := PySem.W.hideAll B [ce.locals]) (l := X.stack) (Z := Zc cls d) (fl := rawInt X.env.locals) stay ff ⟨oe, vs, T, oT, ts, he', hz, hd, hv, hid T hnT, hTe, hT', hdT, h3⟩ fun h4 st4 ff4 tr4 up4 => wpAny_throw (tk _ _ ?_)
    refine ⟨a, PySem.W.hideAll B [ce.locals], _, pins, σ, H', cls, d, rfl, J1, fun b o e hb => ?_, fun b o e hnf => ?_, .inr (.inr ⟨st4, hid a k2, ff4, tr4⟩), na, po, pg, w⟩
    · have e1 : t.heap.get? b = some o := PySem.W.of_hideAll _ e
      have bne : b ≠ ce.locals := fun z => by
        rw [z, PySem.W.hideAll_none [ce.locals] (List.mem_singleton.mpr rfl)] at e
        cases e
      exact PySem.W.hideAll_get _ (nb b o e1 hb) (by simpa using bne)
    · have e1 : t.heap.get? b = some o := PySem.W.of_hideAll _ e
      have bne : b ≠ ce.locals := fun z => by
        rw [z, PySem.W.hideAll_none [ce.locals] (List.mem_singleton.mpr rfl)] at e
        cases e
      obtain ⟨s1, q1⟩ := up b o e1 hnf
      obtain ⟨s2, q2⟩ := up1 b _ q1 hnf
      obtain ⟨s3, q3⟩ := up4 b _ ((off b bne).trans q2) hnf
      exact ⟨s3, q3⟩
  first
    | exact wpAny_bind (wpAny_pure (wpAny_bind fin))
    | exact wpAny_bind fin
end
section
variable {Y : Cx} {pins : List (Addr × Obj)} {σ : L2.St} {H : Hp} {s : Shared}
theorem inv_xe {xe : Value → Shared → Prop} (I : Inv Y pins σ H s) : Inv { Y with xe := xe } pins σ H s :=
  ⟨⟨I.ok.mod, I.ok.kind, I.ok.glob, I.ok.blt, I.ok.above, I.ok.inj, I.ok.has, I.ok.cab, I.ok.hd, I.ok.frames, I.ok.stk, I.ok.exf, I.ok.bs, I.ok.bsz, I.ok.noex, I.ok.exfs, I.ok.funs, I.ok.frf⟩, I.os, I.bare, I.base, I.loc, I.cell, I.free, I.freeC, I.pin, I.hok, I.len⟩
theorem inv_ex {xe : Value → Shared → Prop} (I : Inv { Y with xe := xe } pins σ H s) : Inv Y pins σ H s := inv_xe (Y := { Y with xe := xe }) (xe := Y.xe) I
end
section
variable {X : Cx} {E : XK}
theorem pe_lcX {elt tg iter : Expr} {ifs : List Expr} {scope : Scope} {own : List (Str × Nat)} {pos : Pos} {wi : TI} {g : TG} {tt : TT} {te : TE} (hc : X.calm = true) (hN : X.N.Nodup) (hs : X.stack = X.env :: X.outer) (hf : X.env.frame = some X.env.locals) (tk : Takes X (fun cls d _ H => E cls d H))
    (hi : PI X tg iter wi) (ok : BlkOk X.N X.env.scope scope own) (hg : ∀ (s : Shared) (H : Hp) (C : Addr) (cl : List (Str × Addr)) (fp : List Addr), PG (X.blk s H scope (compEnvC scope cl C X.env) fp) tg g)
    (ht : ∀ (s : Shared) (H : Hp) (C : Addr) (cl : List (Str × Addr)) (fp : List Addr), PTs (X.blk s H scope (compEnvC scope cl C X.env) fp) ifs tt)
    (he : ∀ (s : Shared) (H : Hp) (C : Addr) (cl : List (Str × Addr)) (fp : List Addr) (xe : Value → Shared → Prop), Passes (L2.CX X.prog X.w) { X.blk s H scope (compEnvC scope cl C X.env) fp with xe := xe } E → PE { X.blk s H scope (compEnvC scope cl C X.env) fp with xe := xe } elt te)
    (hfs : ∀ x, foldedSetIterable iter X.env x = pure x := by intro _; rfl) : PE X (.ListComp elt [⟨tg, iter, ifs, 0⟩] scope pos) (tLc wi g tt te (own.map (·.2))) := by
  refine ⟨fun pins s σ H Q I h => ?_⟩
  rw [eval_ListComp]
  have clo : ∀ y ∈ scope.names, y.2 = .free → ∃ c, X.env.cells.lookup y.1 = some c := fun y hy e => (ok.free y hy e).elim (fun k => I.ok.has _ (.inl k)) fun k => I.ok.has _ (.inr k)
  refine comp_freeX (Q := EP X pins σ Q) rfl hfs (closure_ok clo) ok.kind (fun y hy e => by rw [ok.uniq y hy, e]) (thn (hi.run pins s σ H _ I h) fun xv s1 hx => thn hx fun itv s2 h2 => ?_)
  obtain ⟨it, fp, tn, J, H2, hit, I2, T, st2, f2, q⟩ := h2
  subst hit
  refine wpAny_newObj_type (newEnv_comp ?_) (by show 0 ≤ sizeLine; decide)
  obtain ⟨D, hD⟩ : ∃ D, D = s2.heap.objs.size := ⟨_, rfl⟩
  rw [← hD]
  have freeD : H2 D = none := I2.hok.fresh (Nat.le_of_eq hD.symm)
  obtain ⟨W, ⟨m0, w0⟩, turn⟩ := q D freeD
  obtain ⟨s3, hs3⟩ : ∃ t : Shared, t = { s2 with heap := s2.heap.push { cls := .type "list", data := .seq ([] : List Value).toArray } } := ⟨_, rfl⟩
  have hp3 : s3.heap = s2.heap.push { cls := .type "list", data := .seq ([] : List Value).toArray } := by rw [hs3]
  rw [← hs3]
  obtain ⟨H3, hH3⟩ : ∃ G : Hp, G = upd H2 D (.lst []) := ⟨_, rfl⟩
  rw [← hH3] at w0
  have I3 : Inv X pins σ H3 s3 := by
    rw [hs3, hH3]
    refine I2.laid (t' := s2.toks) (fun b o e => Heap.get?_push_of_some _ e) (Nat.le_of_eq hD.symm) ⟨Nat.zero_le _, [], 0, .nil, ?_⟩
    rw [hD]
    exact Heap.get?_push_size _ rfl
  have small : ∀ b ∈ fp, b < s2.heap.objs.size := fun b hb => by
    obtain ⟨o, e, _⟩ := T.obj _ _ st2 b hb
    exact Heap.lt_size e
  have f3 : ∀ b ∈ fp, FpOk X pins H3 b ∧ b < s3.heap.objs.size := fun b hb => by
    have l := small b hb
    refine ⟨⟨?_, (f2 b hb).2⟩, by rw [hp3, Heap.size_push]; exact Nat.lt_succ_of_lt l⟩
    rw [hH3, upd_ne (by rw [hD]; exact Nat.ne_of_lt l)]
    exact (f2 b hb).1
  have st3 : tn 0 s3.heap := T.keep _ _ _ st2 fun b _ o e => by rw [hp3]; exact Heap.get?_push_of_some _ e
  have I4 := block_start I3 ok hN f3
  show codeAny _ _ (.compStart (.ListComp elt [⟨tg, iter, ifs, 0⟩] scope pos) 0 (.ref it) (.ref D) (compEnvC scope (cellsFrom (s3.heap.objs.size + 1) scope.names (cloFrom X.env.cells scope.names [])) s3.heap.objs.size X.env))
    (postX (model X.prog X.w) X.A X.xe (EP X pins σ Q) (.ref D) (compEnvC scope (cellsFrom (s3.heap.objs.size + 1) scope.names (cloFrom X.env.cells scope.names [])) s3.heap.objs.size X.env)) { s3 with heap := pushCells (s3.heap.push { cls := .type "dict", data := .dict #[] }) scope.names }
  have pg := hg s3 H3 s3.heap.objs.size (cellsFrom (s3.heap.objs.size + 1) scope.names (cloFrom X.env.cells scope.names [])) fp
  have pt := ht s3 H3 s3.heap.objs.size (cellsFrom (s3.heap.objs.size + 1) scope.names (cloFrom X.env.cells scope.names [])) fp
  have pe := he s3 H3 s3.heap.objs.size (cellsFrom (s3.heap.objs.size + 1) scope.names (cloFrom X.env.cells scope.names [])) fp
  have noH : ∀ b ∈ fp, H3 b = none := fun b hb => (f3 b hb).1.1
  have cfr : (compEnvC scope (cellsFrom (s3.heap.objs.size + 1) scope.names (cloFrom X.env.cells scope.names [])) s3.heap.objs.size X.env).frame = X.env.frame := rfl
  have cL : (compEnvC scope (cellsFrom (s3.heap.objs.size + 1) scope.names (cloFrom X.env.cells scope.names [])) s3.heap.objs.size X.env).locals = s3.heap.objs.size := rfl
  generalize compEnvC scope (cellsFrom (s3.heap.objs.size + 1) scope.names (cloFrom X.env.cells scope.names [])) s3.heap.objs.size X.env = ce at I4 pg pt pe cfr cL ⊢
  obtain ⟨s4, hs4⟩ : ∃ t : Shared, t = { s3 with heap := pushCells (s3.heap.push { cls := .type "dict", data := .dict #[] }) scope.names } := ⟨_, rfl⟩
  rw [← hs4] at I4 ⊢
  have st4 : tn 0 s4.heap := T.keep _ _ _ st3 fun b _ o e => by rw [hs4]; exact pushCells_keeps _ _ _ _ (Heap.get?_push_of_some _ e)
  have stat : ∀ {σ' : L2.St} {H' : Hp} {t : Shared}, Inv (X.blk s3 H3 scope ce fp) [] σ' H' t → (∀ b ∈ fp, H' b = none) → ∀ b ∈ fp, FpOk (X.blk s3 H3 scope ce fp) [] H' b := fun {σ' H' t} I' hn b hb =>
    ⟨hn b hb, (I'.ok.exf b hb).1, I'.ok.exfs b hb, .inl hb, (I'.ok.exf b hb).2, fun p hp => absurd (show p ∈ ([] : List (Addr × Obj)) ++ [] from hp) (by simp)⟩
  -- back in the def
  have back : ∀ {pl : List (Addr × Obj)} {σ' : L2.St} {H' : Hp} {t : Shared}, Inv (X.blk s3 H3 scope ce fp) pl σ' H' t → Inv X pins σ H' t := fun I' => I3.call' (ch := fp) I'.os I'.base I'.hok I'.bare fun b hb => ⟨(f3 b hb).1.2.2.2.1, (f3 b hb).1.2.1, (f3 b hb).1.2.2.2.2.1, (f3 b hb).1.2.2.2.2.2⟩
  have own' : ∀ {pl : List (Addr × Obj)} {σ' : L2.St} {H' : Hp} {t : Shared}, Inv (X.blk s3 H3 scope ce fp) pl σ' H' t → FpOk X pins H' ce.locals := fun I' => I3.fpOk (Nat.le_of_eq cL.symm) I'.free
  have loop : codeAny (model X.prog X.w) X.A (.compLoop (.ListComp elt [⟨tg, iter, ifs, 0⟩] scope pos) 0 (.ref it) (.ref D) ce) (postX (model X.prog X.w) X.A X.xe (EP X pins σ Q) (.ref D) ce) s4 := by
    refine compLoop_any (fun n t => ∃ i G, Inv (X.blk s3 H3 scope ce fp) [] (wipe σ (own.map (·.2))) G t ∧ tn i t.heap ∧ (∀ b ∈ fp, G b = none) ∧ W i n G) ?_ m0 ⟨0, H3, I4, st4, noH, w0⟩
    rintro n s5 ⟨i, H5, I5, st5, n5, w5⟩
    rcases turn i n H5 w5 with ⟨stop, fine⟩ | ⟨go, Nx, hNx, step⟩
    · refine thnF (T.done (X.blk s3 H3 scope ce fp) rfl rfl rfl hc i [] s5 _ H5 (fun _ _ => False) I5 (stat I5 n5) st5 stop) fun r s6 ⟨hr, I6⟩ => ?_
      subst hr
      obtain ⟨m, hn, _⟩ := I6.loc
      obtain ⟨f0, f1, _, f3', f4, f5⟩ := own' I6
      exact ⟨m, hn, fun h'' sb => ⟨.ref D, H5, (back I6).turned (t' := s6.toks) (fun b o hb e => (sb.2 b hb).trans e) f0 f1 f3' f4 f5, rfl, fine⟩⟩
    · refine thnF (T.item (X.blk s3 H3 scope ce fp) rfl rfl rfl hc i [] s5 _ H5 (fun _ _ => False) I5 (stat I5 n5) st5 go) fun r s6 ⟨u, hr, h6⟩ => ?_
      subst hr
      refine thnF h6 fun _ s7 ⟨x, H7, I7, r7, y7, st7, n7⟩ => ?_
      have I7p := I7.pinned (stat I7 n7) (T.obj _ _ st7)
      refine thnF (pg.run _ s7 _ H7 x u _ I7p r7 (step x H7 y7)) fun _ s8 ⟨σ8, H8, I8, hw8, q8⟩ => ?_
      refine thnF (pt.run _ s8 σ8 H8 _ I8 q8) fun b s9 ⟨H9, I9, q9⟩ => ?_
      have fin : ∀ {t : Shared} {G : Hp}, Inv (X.blk s3 H3 scope ce fp) ([] ++ pinsAt fp s7.heap) σ8 G t → Nx G → ∃ k, k < n ∧ ∃ i G, Inv (X.blk s3 H3 scope ce fp) [] (wipe σ (own.map (·.2))) G t ∧ tn i t.heap ∧ (∀ b ∈ fp, G b = none) ∧ W i k G := fun {t G} I' nx => by
        obtain ⟨k, hk, w'⟩ := hNx G nx
        have still : ∀ b ∈ fp, ∀ o, s7.heap.get? b = some o → t.heap.get? b = some o ∧ G b = none := fun b hb o e => by
          have z := I'.pin (b, o) (List.mem_append_right _ (List.mem_append_right _ (mem_pinsAt hb e)))
          exact ⟨z.1, z.2.1⟩
        refine ⟨k, hk, i + 1, G, (I'.unpinned (pins := [])).weak (by rw [← hw8, wipe_length]) (fun j v e => ?_), T.keep _ _ _ st7 fun b hb o e => (still b hb o e).1, fun b hb => ?_, w'⟩
        · rw [← hw8] at e
          exact (wipe_some e).1
        · obtain ⟨o, e, _⟩ := T.obj _ _ st7 b hb
          exact (still b hb o e).2
      cases b with
      | false => exact fin I9 q9
      | true =>
        refine wpAny_mono ((pe (fun e t => ∃ (pl : List (Addr × Obj)) (σ' : L2.St) (G : Hp) (t1 : Shared), Inv (X.blk s3 H3 scope ce fp) pl σ' G t1 ∧ L2.CX X.prog X.w X.stack G t1 E e t) (fun pl σ' G t1 e t I' c => ⟨pl, σ', G, t1, inv_ex I', c⟩)).run _ s9 σ8 H9 _ (inv_xe I9) q9)
          (fun z s10 ⟨yv, H10, I10, r10, acc, hD10, hz10, nx⟩ => app_ok (X := X.blk s3 H3 scope ce fp) (inv_ex I10) hD10 hz10 r10 fun s11 I11 => fin I11 nx) fun e t ⟨pl, σ', G, t1, I', c⟩ => ?_
        obtain ⟨m, hn, _⟩ := I'.loc
        exact out_block hs hf tk (back I') cfr hn (own' I') c
  exact codeAny_compStart_list loop (T.self X.A 0 _ _ _ st4 loop)
end
end Co
namespace Fx
open PySem PySem.Spec PyProof.Rows L2 Co
/-! ### dicts that are only asked for their type -/
def DctE : Env → Sta → Out PV := fun _ S => .ok .dct S
@[simp ↓] theorem DctE_ap {ε : Env} {S : Sta} : DctE ε S = .ok .dct S := id rfl
theorem new_dct {M : Md} {Wa W : Wd} {Ha H : Hp} {S : Sta} {kvs : List (Key × V)} {Q : VK} (g : Go Wa Ha W H) (r : Rel M W H S) (q : okG Rp M Wa Ha Q .dct S) {p : Addr} (hp : H p = none) : Q (.ref p) (upd H p (.dK kvs)) := by
  obtain ⟨r2, g2⟩ := r.new (o := .dK kvs) hp
  exact q _ _ _ (g.trans g2) r2 (.dct upd_same)
theorem re_dnew {M : Md} {W0 : Wd} {X : WX} : RE M W0 X tDNewK DctE := fun W H S σ ε le r0 er Q q p hp => new_dct (.refl W H) r0 q hp
theorem re_disp1 {M : Md} {W0 : Wd} {X : WX} {i j : Int} : RE M W0 X (tDisp [(tC (.int i), tC (.int j))]) DctE := fun W H S σ ε le r0 er Q q p hp =>
  ⟨upd_same, [(.inl i, .int j)], rfl, Nat.le_of_ble_eq_true rfl, by rw [upd_upd]; exact new_dct (.refl W H) r0 q hp⟩
end Fx
namespace K03
open PySem L2 Co Fx
def FL : String → List Str
  | "BadText" => ["place"]
  | _ => []
def ER (c : String) : Bool := ["FetchError", "BadData", "BadText"].contains c
def L__law_around_1 : Fx.Env → Sta → Fx.Flow := (scopeS (SetS 0 (IfE (TestE (OpE fEqA (OpE fMod (CbE fInt (ConsA (VarE 2) NilA)) (CE (.int 2))) (CE (.int 0)))) (LstE (ConsA (VarE 0) NilA)) (TupE (ConsA (VarE 0) NilA)))))
def m__law_around : FC := calmF (defM false 2 3 (SeqS (ForS (Rng1I (ConsA (VarE 1) NilA)) (NameG 2) L__law_around_1)
  (RetS (VarE 0))))
def m__law_bag : FC := calmF (defM true 1 2 (RetS (LmuE (ConsA (LcE (SeqI (SlE (VarE 0) NoO (PartO (CE (.int 63))))) (NameG 1) YesT (CbE fInt (ConsA (VarE 1) NilA)) [1]) (ConsA (CE (.int 0)) (ConsA (CE (.int 0)) (ConsA (CE (.int 0)) (ConsA (CE (.int 20021)) NilA))))))))
def m__law_draw : FC := calmF (defM false 2 6 (SeqS (AsgS (OpE fAdd (OpE fIx (VarE 0) (CE (.int 3))) (CE (.int 1))) (SubG (VarE 0) (CE (.int 3))))
  (SeqS (IfS (TestE (OpE fGt (OpE fIx (VarE 0) (CE (.int 2))) (CE (.int 0)))) (SeqS (SetS 2 (OpE fMod (CbE fInt (ConsA (OpE fIx (VarE 0) (CE (.int 2))) NilA)) (VarE 1)))
  (SeqS (AsgS (OpE fDiv (OpE fIx (VarE 0) (CE (.int 2))) (VarE 1)) (SubG (VarE 0) (CE (.int 2))))
  (RetS (VarE 2)))) NextS)
  (SeqS (SetS 3 (OpE fIx (VarE 0) (CE (.int 3))))
  (SeqS (IfS (TestE (OpE fLt (OpE fIx (VarE 0) (CE (.int 1))) (CbE fLen (ConsA (OpE fIx (VarE 0) (CE (.int 0))) NilA)))) (SeqS (SetS 3 (OpE fIx (OpE fIx (VarE 0) (CE (.int 0))) (OpE fIx (VarE 0) (CE (.int 1)))))
  (SeqS (AsgS (OpE fAdd (OpE fIx (VarE 0) (CE (.int 1))) (CE (.int 1))) (SubG (VarE 0) (CE (.int 1))))
  (IfS (TestE (OpE fGe (CbE fAbs (ConsA (VarE 3) NilA)) (OpE fPow (CE (.int 10)) (CE (.int 18))))) (SeqS (AsgS (OpE fDiv (CbE fAbs (ConsA (VarE 3) NilA)) (VarE 1)) (SubG (VarE 0) (CE (.int 2))))
  (RetS (OpE fMod (CbE fInt (ConsA (CbE fAbs (ConsA (VarE 3) NilA)) NilA)) (VarE 1)))) NextS))) NextS)
  (SeqS (SetS 4 (OpE fMod (CbE fInt (ConsA (OpE fAdd (OpE fAdd (OpE fAdd (OpE fMul (OpE fIx (VarE 0) (CE (.int 4))) (CE (.int 48271))) (OpE fMul (OpE fMod (CbE fInt (ConsA (VarE 3) NilA)) (CE (.int 2147483629))) (CE (.int 69621)))) (OpE fMul (OpE fIx (VarE 0) (CE (.int 3))) (CE (.int 7919)))) (CE (.int 11))) NilA)) (CE (.int 2147483647))))
  (SeqS (AsgS (VarE 4) (SubG (VarE 0) (CE (.int 4))))
  (SeqS (SetS 5 (OpE fMod (CbE fInt (ConsA (OpE fAdd (OpE fAdd (OpE fMul (VarE 4) (CE (.int 16807))) (OpE fMul (OpE fMul (OpE fIx (VarE 0) (CE (.int 3))) (OpE fIx (VarE 0) (CE (.int 3)))) (CE (.int 104729)))) (OpE fDiv (VarE 4) (CE (.int 65536)))) NilA)) (CE (.int 998244353))))
  (RetS (OpE fMod (CbE fInt (ConsA (OpE fDiv (VarE 5) (CE (.int 7))) NilA)) (VarE 1)))))))))))
def m__law_name : FC := calmF (defM false 1 2 (RetS (JoinE (CE (.str "")) (LcE (Rng1I (ConsA (OpE fAdd (CE (.int 1)) (CallE m__law_draw [] (ConsA (VarE 0) (ConsA (CE (.int 12)) NilA)))) NilA)) (NameG 1) YesT (OpE fIx (CE (.str "abcdefghijklmnopqrstuvwxyz")) (CallE m__law_draw [] (ConsA (VarE 0) (ConsA (CE (.int 26)) NilA)))) [1]))))
def m__law_leaf : FC := calmF (defM false 1 2 (SeqS (SetS 1 (CallE m__law_draw [] (ConsA (VarE 0) (ConsA (CE (.int 4)) NilA))))
  (SeqS (IfS (TestE (OpE fEqA (VarE 1) (CE (.int 0)))) (RetS (CallE m__law_name [] (ConsA (VarE 0) NilA))) NextS)
  (SeqS (IfS (TestE (OpE fEqA (VarE 1) (CE (.int 1)))) (RetS (OpE fSub (CallE m__law_draw [] (ConsA (VarE 0) (ConsA (OpE fPow (CE (.int 10)) (CE (.int 30))) NilA))) (OpE fPow (CE (.int 10)) (CE (.int 29))))) NextS)
  (SeqS (IfS (TestE (OpE fEqA (VarE 1) (CE (.int 2)))) (RetS (OpE fSub (CallE m__law_draw [] (ConsA (VarE 0) (ConsA (CE (.int 21)) NilA))) (CE (.int 10)))) NextS)
  (RetS (OpE fIx (LstE (ConsA (TupE NilA) (ConsA (LstE NilA) NilA))) (CallE m__law_draw [] (ConsA (VarE 0) (ConsA (CE (.int 2)) NilA))))))))))
def L__law_data_1 (r__law_data : FC) : Fx.Env → Sta → Fx.Flow := (scopeS (SeqS (AsgS (OpE fSub (OpE fIx (VarE 2) (CE (.int 0))) (CE (.int 1))) (SubG (VarE 2) (CE (.int 0))))
  (DropS (AppE (VarE 3) (CallE (calmF r__law_data) [] (ConsA (VarE 0) (ConsA (OpE fSub (VarE 1) (CE (.int 1))) (ConsA (VarE 2) NilA))))))))
def b__law_data (r__law_data : FC) : FC := calmF (defM false 3 5 (SeqS (IfS (TOr (TestE (OpE fEqA (VarE 1) (CE (.int 0)))) (TOr (TestE (OpE fLe (OpE fIx (VarE 2) (CE (.int 0))) (CE (.int 0)))) (TestE (OpE fEqA (CallE m__law_draw [] (ConsA (VarE 0) (ConsA (CE (.int 3)) NilA))) (CE (.int 0)))))) (RetS (CallE m__law_leaf [] (ConsA (VarE 0) NilA))) NextS)
  (SeqS (SetS 3 (LmuE NilA))
  (SeqS (ForS (Rng1I (ConsA (CallE m__law_draw [] (ConsA (VarE 0) (ConsA (CE (.int 5)) NilA))) NilA)) (NameG 4) (L__law_data_1 r__law_data))
  (RetS (IfE (TestE (OpE fEqA (CallE m__law_draw [] (ConsA (VarE 0) (ConsA (CE (.int 2)) NilA))) (CE (.int 0)))) (VarE 3) (CbE fTuple (ConsA (VarE 3) NilA))))))))
def ms__law_data : Nat → FC
  | 0 => nilF
  | n + 1 => b__law_data (ms__law_data n)
def m__law_data (n : Nat) : FC := ms__law_data n
theorem m__law_data_s (n : Nat) : m__law_data (n + 1) = b__law_data (m__law_data n) := rfl
def m_is_name : FC := calmF (defM false 1 2 (SeqS (IfS (TOr (TNot (TestE (IsiE .str (VarE 0)))) (TNot (TestE (ChainE fLe fLe (CE (.int 1)) (CbE fLen (ConsA (VarE 0) NilA)) (CE (.int 12)))))) (RetS (CE (.bl false))) NextS)
  (RetS (CbE fAll (ConsA (LcE (StrI (VarE 0)) (NameG 1) YesT (OpE fInS (VarE 1) (CE (.str "abcdefghijklmnopqrstuvwxyz"))) [1]) NilA)))))
def m_is_whole : FC := calmF (defM false 3 3 (SeqS (IfS (TOr (TNot (TestE (IsiE .int (VarE 0)))) (TestE (IsiE .bool (VarE 0)))) (RetS (CE (.bl false))) NextS)
  (RetS (AndE (OrE (OpE fIsN (VarE 1) (CE .non)) (OpE fLe (VarE 1) (VarE 0))) (OrE (OpE fIsN (VarE 2) (CE .non)) (OpE fLe (VarE 0) (VarE 2)))))))
def m_is_sequence : FC := calmF (defM false 3 3 (RetS (AndE (IsiTE .list .tuple (VarE 0)) (CallE m_is_whole [] (ConsA (CbE fLen (ConsA (VarE 0) NilA)) (ConsA (VarE 1) (ConsA (VarE 2) NilA)))))))
def b__text_of (r__text_of : FC) : FC := defM false 2 3 (SeqS (IfS (TestE (CallE m_is_whole [] (ConsA (VarE 0) (ConsA (NegE (CE (.int 9999999999999999999999999999999999999999999999999999999999999999999999999999999999999999999999999999999999999999999999999999999999999999999999999999999999999999999999999999999999999999999999999999999999999999999999999999999999999999999999999999999999999999999999999999999999999999999999999999999999999999999999999999999999999999999999999999999999999999999999999999999999999999999999999999999999999999))) (ConsA (CE (.int 9999999999999999999999999999999999999999999999999999999999999999999999999999999999999999999999999999999999999999999999999999999999999999999999999999999999999999999999999999999999999999999999999999999999999999999999999999999999999999999999999999999999999999999999999999999999999999999999999999999999999999999999999999999999999999999999999999999999999999999999999999999999999999999999999999999999999999)) NilA))))) (RetS (CbE fStr (ConsA (VarE 0) NilA))) NextS)
  (SeqS (IfS (TestE (CallE m_is_name [] (ConsA (VarE 0) NilA))) (RetS (VarE 0)) NextS)
  (SeqS (IfS (TOr (TNot (TestE (CallE m_is_sequence [.int 0, .non] (ConsA (VarE 0) NilA)))) (TestE (OpE fGt (VarE 1) (CE (.int 40))))) (Raise0S "BadData") NextS)
  (RetS (OpE fAdd (OpE fAdd (CE (.str "[")) (JoinE (CE (.str ",")) (LcE (SeqI (VarE 0)) (NameG 2) YesT (CallE r__text_of [] (ConsA (VarE 2) (ConsA (OpE fAdd (VarE 1) (CE (.int 1))) NilA))) [2]))) (CE (.str "]")))))))
def ms__text_of : Nat → FC
  | 0 => nilF
  | n + 1 => b__text_of (ms__text_of n)
def m__text_of (n : Nat) : FC := ms__text_of n
theorem m__text_of_s (n : Nat) : m__text_of (n + 1) = b__text_of (m__text_of n) := rfl
def m_data_text : FC := defM false 1 1 (RetS (CallE (m__text_of 90) [] (ConsA (VarE 0) (ConsA (CE (.int 1)) NilA))))
def m__law_refused : FC := calmF (defM false 1 1 (SeqS (TryS (isC "BadData") (DropS (CallE m_data_text [] (ConsA (VarE 0) NilA))) (fun c xs => (RetS (CE (.bl true)))))
  (RetS (CE (.bl false)))))
def b__law_firm (r__law_firm : FC) : FC := calmF (defM false 1 2 (SeqS (IfS (TestE (IsiTE .list .tuple (VarE 0))) (RetS (CbE fTuple (ConsA (LcE (SeqI (VarE 0)) (NameG 1) YesT (CallE (calmF r__law_firm) [] (ConsA (VarE 1) NilA)) [1]) NilA))) NextS)
  (RetS (VarE 0))))
def ms__law_firm : Nat → FC
  | 0 => nilF
  | n + 1 => b__law_firm (ms__law_firm n)
def m__law_firm (n : Nat) : FC := ms__law_firm n
theorem m__law_firm_s (n : Nat) : m__law_firm (n + 1) = b__law_firm (m__law_firm n) := rfl
def b__law_same (r__law_same : FC) : FC := calmF (defM false 2 3 (SeqS (IfS (TOr (TestE (IsiE .tuple (VarE 0))) (TestE (IsiE .tuple (VarE 1)))) (SeqS (IfS (TOr (TNot (TestE (IsiE .tuple (VarE 0)))) (TOr (TNot (TestE (IsiE .tuple (VarE 1)))) (TestE (OpE fNeA (CbE fLen (ConsA (VarE 0) NilA)) (CbE fLen (ConsA (VarE 1) NilA)))))) (RetS (CE (.bl false))) NextS)
  (RetS (CbE fAll (ConsA (LcE (Rng1I (ConsA (CbE fLen (ConsA (VarE 0) NilA)) NilA)) (NameG 2) YesT (CallE (calmF r__law_same) [] (ConsA (OpE fIx (VarE 0) (VarE 2)) (ConsA (OpE fIx (VarE 1) (VarE 2)) NilA))) [2]) NilA)))) NextS)
  (SeqS (IfS (TOr (TestE (IsiE .bool (VarE 0))) (TestE (IsiE .bool (VarE 1)))) (RetS (CE (.bl false))) NextS)
  (RetS (AndE (OpE fEqA (IsiE .str (VarE 0)) (IsiE .str (VarE 1))) (OpE fEqA (VarE 0) (VarE 1)))))))
def ms__law_same : Nat → FC
  | 0 => nilF
  | n + 1 => b__law_same (ms__law_same n)
def m__law_same (n : Nat) : FC := ms__law_same n
theorem m__law_same_s (n : Nat) : m__law_same (n + 1) = b__law_same (m__law_same n) := rfl
def b__law_text (r__law_text : FC) : FC := calmF (defM false 1 2 (SeqS (IfS (TestE (IsiE .str (VarE 0))) (RetS (VarE 0)) NextS)
  (SeqS (IfS (TestE (IsiE .int (VarE 0))) (RetS (CbE fStr (ConsA (VarE 0) NilA))) NextS)
  (RetS (OpE fAdd (OpE fAdd (CE (.str "[")) (JoinE (CE (.str ",")) (LcE (SeqI (VarE 0)) (NameG 1) YesT (CallE (calmF r__law_text) [] (ConsA (VarE 1) NilA)) [1]))) (CE (.str "]")))))))
def ms__law_text : Nat → FC
  | 0 => nilF
  | n + 1 => b__law_text (ms__law_text n)
def m__law_text (n : Nat) : FC := ms__law_text n
theorem m__law_text_s (n : Nat) : m__law_text (n + 1) = b__law_text (m__law_text n) := rfl
def W__run_end_1 : Fx.Env → Sta → Fx.Flow := (scopeS (AugS 4 (CE (.int 1)) (fI0 fun i j => .int (i + j))))
def W__run_end_1c : Fx.Env → Sta → Fx.Out Bool := (TAnd (TestE (OpE fLt (VarE 4) (CbE fLen (ConsA (VarE 0) NilA)))) (TAnd (TestE (OpE fLt (OpE fSub (VarE 4) (VarE 1)) (VarE 3))) (TestE (OpE fInS (OpE fIx (VarE 0) (VarE 4)) (VarE 2)))))
def m__run_end : FC := calmF (defM false 4 5 (SeqS (SetS 4 (VarE 1))
  (SeqS (iterW W__run_end_1c W__run_end_1 1000000)
  (RetS (VarE 4)))))
def m__sign_at : FC := defM false 2 2 (SeqS (IfS (TestE (OpE fGe (VarE 1) (CbE fLen (ConsA (VarE 0) NilA)))) (RaiseS "BadText" ["place"] (ConsA (VarE 1) NilA)) NextS)
  (RetS (OpE fIx (VarE 0) (VarE 1))))
def m__read_integer : FC := defM false 2 4 (SeqS (IfS (TestE (OpE fEqA (OpE fIx (VarE 0) (VarE 1)) (CE (.str "0")))) (RetS (TupE (ConsA (CE (.int 0)) (ConsA (OpE fAdd (VarE 1) (CE (.int 1))) NilA)))) NextS)
  (SeqS (SetS 2 (IfE (TestE (OpE fEqA (OpE fIx (VarE 0) (VarE 1)) (CE (.str "-")))) (OpE fAdd (VarE 1) (CE (.int 1))) (VarE 1)))
  (SeqS (IfS (TOr (TestE (OpE fNotInS (CallE m__sign_at [] (ConsA (VarE 0) (ConsA (VarE 2) NilA))) (CE (.str "0123456789")))) (TestE (OpE fEqA (OpE fIx (VarE 0) (VarE 2)) (CE (.str "0"))))) (RaiseS "BadText" ["place"] (ConsA (VarE 2) NilA)) NextS)
  (SeqS (SetS 3 (CallE m__run_end [] (ConsA (VarE 0) (ConsA (VarE 2) (ConsA (CE (.str "0123456789")) (ConsA (CE (.int 400)) NilA))))))
  (RetS (TupE (ConsA (CbE fIntX (ConsA (SlE (VarE 0) (PartO (VarE 1)) (PartO (VarE 3))) NilA)) (ConsA (VarE 3) NilA))))))))
def b__read_item (r__read_item r__read_tuple : FC) : FC := defM false 3 5 (SeqS (SetS 3 (CallE m__sign_at [] (ConsA (VarE 0) (ConsA (VarE 1) NilA))))
  (SeqS (IfS (TestE (OpE fEqA (VarE 3) (CE (.str "[")))) (SeqS (IfS (TestE (OpE fGt (VarE 2) (CE (.int 40)))) (RaiseS "BadText" ["place"] (ConsA (VarE 1) NilA)) NextS)
  (RetS (CallE r__read_tuple [] (ConsA (VarE 0) (ConsA (OpE fAdd (VarE 1) (CE (.int 1))) (ConsA (VarE 2) NilA)))))) NextS)
  (SeqS (IfS (TestE (OpE fInS (VarE 3) (CE (.str "abcdefghijklmnopqrstuvwxyz")))) (SeqS (SetS 4 (CallE m__run_end [] (ConsA (VarE 0) (ConsA (VarE 1) (ConsA (CE (.str "abcdefghijklmnopqrstuvwxyz")) (ConsA (CE (.int 12)) NilA))))))
  (RetS (TupE (ConsA (SlE (VarE 0) (PartO (VarE 1)) (PartO (VarE 4))) (ConsA (VarE 4) NilA))))) NextS)
  (RetS (CallE m__read_integer [] (ConsA (VarE 0) (ConsA (VarE 1) NilA)))))))
def W__read_tuple_1 (r__read_item r__read_tuple : FC) : Fx.Env → Sta → Fx.Flow := (scopeS (SeqS (AsgS (CallE r__read_item [] (ConsA (VarE 0) (ConsA (VarE 1) (ConsA (OpE fAdd (VarE 2) (CE (.int 1))) NilA)))) (TupG 2 (ConsG (NameG 4) (ConsG (NameG 1) NilG))))
  (SeqS (DropS (AppE (VarE 3) (VarE 4)))
  (SeqS (SetS 5 (CallE m__sign_at [] (ConsA (VarE 0) (ConsA (VarE 1) NilA))))
  (SeqS (IfS (TestE (OpE fEqA (VarE 5) (CE (.str "]")))) (RetS (TupE (ConsA (CbE fTuple (ConsA (VarE 3) NilA)) (ConsA (OpE fAdd (VarE 1) (CE (.int 1))) NilA)))) NextS)
  (SeqS (IfS (TestE (OpE fNeA (VarE 5) (CE (.str ",")))) (RaiseS "BadText" ["place"] (ConsA (VarE 1) NilA)) NextS)
  (AugS 1 (CE (.int 1)) (fI0 fun i j => .int (i + j)))))))))
def W__read_tuple_1c (r__read_item r__read_tuple : FC) : Fx.Env → Sta → Fx.Out Bool := (TestE (CE (.bl true)))
def b__read_tuple (r__read_item r__read_tuple : FC) : FC := defM false 3 6 (SeqS (IfS (TestE (OpE fEqA (CallE m__sign_at [] (ConsA (VarE 0) (ConsA (VarE 1) NilA))) (CE (.str "]")))) (RetS (TupE (ConsA (TupE NilA) (ConsA (OpE fAdd (VarE 1) (CE (.int 1))) NilA)))) NextS)
  (SeqS (SetS 3 (LmuE NilA))
  (iterW (W__read_tuple_1c r__read_item r__read_tuple) (W__read_tuple_1 r__read_item r__read_tuple) 1000000)))
def ms__read_item : Nat → FC × FC
  | 0 => (nilF, nilF)
  | n + 1 => (b__read_item ((ms__read_item n).1) ((ms__read_item n).2), b__read_tuple ((ms__read_item n).1) ((ms__read_item n).2))
def m__read_item (n : Nat) : FC := (ms__read_item n).1
def m__read_tuple (n : Nat) : FC := (ms__read_item n).2
theorem m__read_item_s (n : Nat) : m__read_item (n + 1) = b__read_item (m__read_item n) (m__read_tuple n) := rfl
theorem m__read_tuple_s (n : Nat) : m__read_tuple (n + 1) = b__read_tuple (m__read_item n) (m__read_tuple n) := rfl
def m_read_data : FC := defM false 1 3 (SeqS (IfS (TNot (TestE (IsiE .str (VarE 0)))) (RaiseS "BadText" ["place"] (ConsA (CE (.int 0)) NilA)) NextS)
  (SeqS (AsgS (CallE (m__read_item 90) [] (ConsA (VarE 0) (ConsA (CE (.int 0)) (ConsA (CE (.int 1)) NilA)))) (TupG 2 (ConsG (NameG 1) (ConsG (NameG 2) NilG))))
  (SeqS (IfS (TestE (OpE fLt (VarE 2) (CbE fLen (ConsA (VarE 0) NilA)))) (RaiseS "BadText" ["place"] (ConsA (VarE 2) NilA)) NextS)
  (RetS (VarE 1)))))
def m__law_right : FC := defM false 1 3 (SeqS (SetS 1 (CbE fRepr (ConsA (VarE 0) NilA)))
  (SeqS (SetS 2 (CallE m_data_text [] (ConsA (VarE 0) NilA)))
  (SeqS (IfS (TOr (TestE (OpE fNeA (VarE 2) (CallE (calmF (m__law_text 90)) [] (ConsA (VarE 0) NilA)))) (TestE (OpE fNeA (CbE fRepr (ConsA (VarE 0) NilA)) (VarE 1)))) (RetS (CE (.bl false))) NextS)
  (RetS (CallE (calmF (m__law_same 90)) [] (ConsA (CallE m_read_data [] (ConsA (VarE 2) NilA)) (ConsA (CallE (calmF (m__law_firm 90)) [] (ConsA (VarE 0) NilA)) NilA)))))))
def m_law : FC := defM false 1 13 (SeqS (SetS 1 (CallE m__law_bag [] (ConsA (VarE 0) NilA)))
  (SeqS (SetS 2 (CallE (calmF (m__law_data 90)) [] (ConsA (VarE 1) (ConsA (CE (.int 6)) (ConsA (LmuE (ConsA (CE (.int 40)) NilA)) NilA)))))
  (SeqS (SetS 3 (CallE (calmF (m__law_data 90)) [] (ConsA (VarE 1) (ConsA (CE (.int 5)) (ConsA (LmuE (ConsA (CE (.int 30)) NilA)) NilA)))))
  (SeqS (IfS (TOr (TNot (TestE (CallE m__law_right [] (ConsA (VarE 2) NilA)))) (TOr (TNot (TestE (CallE m__law_right [] (ConsA (VarE 3) NilA)))) (TNot (TestE (CallE m__law_right [] (ConsA (LstE (ConsA (VarE 2) (ConsA (VarE 3) (ConsA (CE (.str "put")) (ConsA (NegE (CE (.int 1))) NilA))))) NilA)))))) (RetS (CE (.bl false))) NextS)
  (SeqS (SetS 4 (OpE fPowX (OpE fPow (CE (.int 10)) (CE (.int 50))) (CE (.int 8))))
  (SeqS (SetS 5 (CallE m__law_draw [] (ConsA (VarE 1) (ConsA (OpE fPow (CE (.int 10)) (CE (.int 30))) NilA))))
  (SeqS (IfS (TOr (TNot (TestE (CallE m__law_right [] (ConsA (TupE (ConsA (OpE fSub (OpE fSub (VarE 4) (CE (.int 1))) (VarE 5)) (ConsA (OpE fSub (OpE fAdd (CE (.int 1)) (VarE 5)) (VarE 4)) NilA))) NilA)))) (TOr (TNot (TestE (CallE m__law_refused [] (ConsA (OpE fAdd (VarE 4) (VarE 5)) NilA)))) (TNot (TestE (CallE m__law_refused [] (ConsA (LstE (ConsA (CE (.int 0)) (ConsA (OpE fSub (OpE fSub (CE (.int 0)) (VarE 4)) (VarE 5)) NilA))) NilA)))))) (RetS (CE (.bl false))) NextS)
  (SeqS (SetS 6 (CallE m__law_leaf [] (ConsA (VarE 1) NilA)))
  (SeqS (SetS 7 (IfE (TestE (IsiTE .list .tuple (VarE 6))) (CE (.int 39)) (CE (.int 40))))
  (SeqS (IfS (TOr (TNot (TestE (CallE m__law_right [] (ConsA (CallE m__law_around [] (ConsA (VarE 6) (ConsA (VarE 7) NilA))) NilA)))) (TNot (TestE (CallE m__law_right [] (ConsA (CallE m__law_around [] (ConsA (VarE 6) (ConsA (CallE m__law_draw [] (ConsA (VarE 1) (ConsA (VarE 7) NilA))) NilA))) NilA))))) (RetS (CE (.bl false))) NextS)
  (SeqS (IfS (TOr (TNot (TestE (CallE m__law_refused [] (ConsA (CallE m__law_around [] (ConsA (VarE 6) (ConsA (OpE fAdd (VarE 7) (CE (.int 1))) NilA))) NilA)))) (TNot (TestE (CallE m__law_refused [] (ConsA (CallE m__law_around [] (ConsA (VarE 6) (ConsA (OpE fAdd (OpE fAdd (VarE 7) (CE (.int 1))) (CallE m__law_draw [] (ConsA (VarE 1) (ConsA (CE (.int 20)) NilA)))) NilA))) NilA))))) (RetS (CE (.bl false))) NextS)
  (SeqS (SetS 8 (CallE m__law_name [] (ConsA (VarE 1) NilA)))
  (SeqS (SetS 9 (CallE m__law_draw [] (ConsA (VarE 1) (ConsA (OpE fAdd (CbE fLen (ConsA (VarE 8) NilA)) (CE (.int 1))) NilA))))
  (SeqS (SetS 10 (LstE (ConsA (CE (.bl true)) (ConsA (CE (.bl false)) (ConsA (CE .non) (ConsA (CE (.str "")) (ConsA (CE (.str "A")) (ConsA (CE (.str "a b")) (ConsA (OpE fAdd (OpE fAdd (SlE (VarE 8) NoO (PartO (VarE 9))) (CE (.str "-"))) (SlE (VarE 8) (PartO (VarE 9)) NoO)) (ConsA (OpE fAdd (OpE fAdd (SlE (VarE 8) NoO (PartO (VarE 9))) (CE (.str "X"))) (SlE (VarE 8) (PartO (VarE 9)) NoO)) (ConsA (OpE fAdd (VarE 8) (CE (.str "abcdefghijkl"))) (ConsA (CE (.str "7")) (ConsA DctE (ConsA DctE NilA))))))))))))))
  (SeqS (SetS 11 (OpE fIx (VarE 10) (CallE m__law_draw [] (ConsA (VarE 1) (ConsA (CE (.int 12)) NilA)))))
  (SeqS (SetS 12 (LstE (ConsA (VarE 2) (ConsA (LstE (ConsA (VarE 3) (ConsA (VarE 11) NilA))) (ConsA (VarE 8) NilA)))))
  (SeqS (IfS (TOr (TNot (TestE (CallE m__law_refused [] (ConsA (VarE 11) NilA)))) (TOr (TNot (TestE (CallE m__law_refused [] (ConsA (VarE 12) NilA)))) (TNot (TestE (CallE m__law_refused [] (ConsA (CallE m__law_around [] (ConsA (TupE (ConsA (VarE 8) (ConsA (VarE 11) (ConsA (VarE 8) NilA)))) (ConsA (CallE m__law_draw [] (ConsA (VarE 1) (ConsA (CE (.int 30)) NilA))) NilA))) NilA)))))) (RetS (CE (.bl false))) NextS)
  (RetS (AndE (CallE m__law_right [] (ConsA (VarE 8) NilA)) (CallE (calmF (m__law_same 90)) [] (ConsA (CallE m_read_data [] (ConsA (CE (.str "[3,put,[-1,[]]]")) NilA)) (ConsA (TupE (ConsA (CE (.int 3)) (ConsA (CE (.str "put")) (ConsA (TupE (ConsA (NegE (CE (.int 1))) (ConsA (TupE NilA) NilA))) NilA)))) NilA))))))))))))))))))))))
abbrev md (K : PySem.W.Frag) (AD : String → Addr) : Md := ⟨K, AD, FL, ER⟩
end K03
namespace K03
open PySem L2 Co
def topS (i : Nat) : Stmt := PySem.Challenge.pw_fewfetches_k03_data_texts_read_back.main.body.getD i (.Pass ⟨0, 0, 0, 0⟩)
abbrev s_BadText___init__ : Stmt := inClass (topS 3) 0
abbrev s_is_whole : Stmt := topS 7
abbrev s_is_name : Stmt := topS 8
abbrev s_is_sequence : Stmt := topS 9
abbrev s_data_text : Stmt := topS 15
abbrev s__text_of : Stmt := topS 16
abbrev s_read_data : Stmt := topS 17
abbrev s__read_item : Stmt := topS 18
abbrev s__sign_at : Stmt := topS 19
abbrev s__run_end : Stmt := topS 20
abbrev s__read_tuple : Stmt := topS 21
abbrev s__read_integer : Stmt := topS 22
abbrev s__law_bag : Stmt := topS 24
abbrev s__law_draw : Stmt := topS 25
abbrev s__law_name : Stmt := topS 26
abbrev s__law_leaf : Stmt := topS 27
abbrev s__law_data : Stmt := topS 28
abbrev s__law_text : Stmt := topS 29
abbrev s__law_firm : Stmt := topS 30
abbrev s__law_same : Stmt := topS 31
abbrev s__law_around : Stmt := topS 32
abbrev s__law_refused : Stmt := topS 33
abbrev s__law_right : Stmt := topS 34
abbrev s_law : Stmt := topS 35
theorem sc_BadText___init__ : FnScope ["self", "place"] ["self", "place"] (defScope s_BadText___init__) := ⟨rfl, rfl, rfl, by decide +kernel, rfl, by decide +kernel, by decide +kernel⟩
theorem sc_is_whole : FnScope ["thing", "low", "high"] ["thing", "low", "high"] (defScope s_is_whole) := ⟨rfl, rfl, rfl, by decide +kernel, rfl, by decide +kernel, by decide +kernel⟩
theorem sc_is_name : FnScope ["thing", "sign"] ["thing"] (defScope s_is_name) := ⟨rfl, rfl, rfl, by decide +kernel, rfl, by decide +kernel, by decide +kernel⟩
theorem sc_is_sequence : FnScope ["thing", "low", "high"] ["thing", "low", "high"] (defScope s_is_sequence) := ⟨rfl, rfl, rfl, by decide +kernel, rfl, by decide +kernel, by decide +kernel⟩
theorem sc_data_text : FnScope ["data"] ["data"] (defScope s_data_text) := ⟨rfl, rfl, rfl, by decide +kernel, rfl, by decide +kernel, by decide +kernel⟩
theorem sc__text_of : FnScope ["data", "deep", "item"] ["data", "deep"] (defScope s__text_of) := ⟨rfl, rfl, rfl, by decide +kernel, rfl, by decide +kernel, by decide +kernel⟩
theorem sc_read_data : FnScope ["text", "data", "at"] ["text"] (defScope s_read_data) := ⟨rfl, rfl, rfl, by decide +kernel, rfl, by decide +kernel, by decide +kernel⟩
theorem sc__read_item : FnScope ["text", "at", "deep", "sign", "end"] ["text", "at", "deep"] (defScope s__read_item) := ⟨rfl, rfl, rfl, by decide +kernel, rfl, by decide +kernel, by decide +kernel⟩
theorem sc__sign_at : FnScope ["text", "at"] ["text", "at"] (defScope s__sign_at) := ⟨rfl, rfl, rfl, by decide +kernel, rfl, by decide +kernel, by decide +kernel⟩
theorem sc__run_end : FnScope ["text", "at", "signs", "most", "end"] ["text", "at", "signs", "most"] (defScope s__run_end) := ⟨rfl, rfl, rfl, by decide +kernel, rfl, by decide +kernel, by decide +kernel⟩
theorem sc__read_tuple : FnScope ["text", "at", "deep", "items", "item", "sign"] ["text", "at", "deep"] (defScope s__read_tuple) := ⟨rfl, rfl, rfl, by decide +kernel, rfl, by decide +kernel, by decide +kernel⟩
theorem sc__read_integer : FnScope ["text", "at", "first", "end"] ["text", "at"] (defScope s__read_integer) := ⟨rfl, rfl, rfl, by decide +kernel, rfl, by decide +kernel, by decide +kernel⟩
theorem sc__law_bag : FnScope ["script", "cell"] ["script"] (defScope s__law_bag) := ⟨rfl, rfl, rfl, by decide +kernel, rfl, by decide +kernel, by decide +kernel⟩
theorem sc__law_draw : FnScope ["bag", "limit", "digit", "cell", "mixed", "twice"] ["bag", "limit"] (defScope s__law_draw) := ⟨rfl, rfl, rfl, by decide +kernel, rfl, by decide +kernel, by decide +kernel⟩
theorem sc__law_name : FnScope ["bag", "k"] ["bag"] (defScope s__law_name) := ⟨rfl, rfl, rfl, by decide +kernel, rfl, by decide +kernel, by decide +kernel⟩
theorem sc__law_leaf : FnScope ["bag", "way"] ["bag"] (defScope s__law_leaf) := ⟨rfl, rfl, rfl, by decide +kernel, rfl, by decide +kernel, by decide +kernel⟩
theorem sc__law_data : FnScope ["bag", "deep", "budget", "parts", "k"] ["bag", "deep", "budget"] (defScope s__law_data) := ⟨rfl, rfl, rfl, by decide +kernel, rfl, by decide +kernel, by decide +kernel⟩
theorem sc__law_text : FnScope ["data", "part"] ["data"] (defScope s__law_text) := ⟨rfl, rfl, rfl, by decide +kernel, rfl, by decide +kernel, by decide +kernel⟩
theorem sc__law_firm : FnScope ["data", "part"] ["data"] (defScope s__law_firm) := ⟨rfl, rfl, rfl, by decide +kernel, rfl, by decide +kernel, by decide +kernel⟩
theorem sc__law_same : FnScope ["one", "other", "k"] ["one", "other"] (defScope s__law_same) := ⟨rfl, rfl, rfl, by decide +kernel, rfl, by decide +kernel, by decide +kernel⟩
theorem sc__law_around : FnScope ["thing", "many", "k"] ["thing", "many"] (defScope s__law_around) := ⟨rfl, rfl, rfl, by decide +kernel, rfl, by decide +kernel, by decide +kernel⟩
theorem sc__law_refused : FnScope ["data"] ["data"] (defScope s__law_refused) := ⟨rfl, rfl, rfl, by decide +kernel, rfl, by decide +kernel, by decide +kernel⟩
theorem sc__law_right : FnScope ["data", "before", "text"] ["data"] (defScope s__law_right) := ⟨rfl, rfl, rfl, by decide +kernel, rfl, by decide +kernel, by decide +kernel⟩
theorem sc_law : FnScope ["script", "bag", "one", "two", "great", "low", "leaf", "room", "name", "at", "odd", "bad", "spoiled"] ["script"] (defScope s_law) := ⟨rfl, rfl, rfl, by decide +kernel, rfl, by decide +kernel, by decide +kernel⟩
structure Txt (K : PySem.W.Frag) (mg : Str → Option Value) (AD : String → Addr) (FD : String → FuncData) (TK : String → Tok) : Prop where
  b_abs : mg "abs" = none
  b_all : mg "all" = none
  b_bool : mg "bool" = none
  b_int : mg "int" = none
  b_isinstance : mg "isinstance" = none
  b_len : mg "len" = none
  b_list : mg "list" = none
  b_range : mg "range" = none
  b_repr : mg "repr" = none
  b_str : mg "str" = none
  b_tuple : mg "tuple" = none
  g_LETTERS : mg "LETTERS" = some (.str "abcdefghijklmnopqrstuvwxyz" (TK "LETTERS"))
  g_LONGEST_NAME : mg "LONGEST_NAME" = some (.int 12 (TK "LONGEST_NAME"))
  g_FIGURES : mg "FIGURES" = some (.str "0123456789" (TK "FIGURES"))
  g_MOST_FIGURES : mg "MOST_FIGURES" = some (.int 400 (TK "MOST_FIGURES"))
  g_GREATEST_INTEGER : mg "GREATEST_INTEGER" = some (.int 9999999999999999999999999999999999999999999999999999999999999999999999999999999999999999999999999999999999999999999999999999999999999999999999999999999999999999999999999999999999999999999999999999999999999999999999999999999999999999999999999999999999999999999999999999999999999999999999999999999999999999999999999999999999999999999999999999999999999999999999999999999999999999999999999999999999999999 (TK "GREATEST_INTEGER"))
  g_DEEPEST_TUPLE : mg "DEEPEST_TUPLE" = some (.int 40 (TK "DEEPEST_TUPLE"))
  f_BadText___init__ : Fun K "__init__" "BadText.__init__" s_BadText___init__ (AD "BadText.__init__") (FD "BadText.__init__")
  f_is_whole : FunD K "is_whole" "is_whole" (defArgs s_is_whole) (defBody s_is_whole) (defScope s_is_whole) [.non, .non] [] (AD "is_whole") (FD "is_whole")
  g_is_whole : mg "is_whole" = some (.ref (AD "is_whole"))
  f_is_name : Fun K "is_name" "is_name" s_is_name (AD "is_name") (FD "is_name")
  g_is_name : mg "is_name" = some (.ref (AD "is_name"))
  f_is_sequence : FunD K "is_sequence" "is_sequence" (defArgs s_is_sequence) (defBody s_is_sequence) (defScope s_is_sequence) [.int 0, .non] [] (AD "is_sequence") (FD "is_sequence")
  g_is_sequence : mg "is_sequence" = some (.ref (AD "is_sequence"))
  f_data_text : Fun K "data_text" "data_text" s_data_text (AD "data_text") (FD "data_text")
  g_data_text : mg "data_text" = some (.ref (AD "data_text"))
  f__text_of : Fun K "_text_of" "_text_of" s__text_of (AD "_text_of") (FD "_text_of")
  g__text_of : mg "_text_of" = some (.ref (AD "_text_of"))
  f_read_data : Fun K "read_data" "read_data" s_read_data (AD "read_data") (FD "read_data")
  g_read_data : mg "read_data" = some (.ref (AD "read_data"))
  f__read_item : Fun K "_read_item" "_read_item" s__read_item (AD "_read_item") (FD "_read_item")
  g__read_item : mg "_read_item" = some (.ref (AD "_read_item"))
  f__sign_at : Fun K "_sign_at" "_sign_at" s__sign_at (AD "_sign_at") (FD "_sign_at")
  g__sign_at : mg "_sign_at" = some (.ref (AD "_sign_at"))
  f__run_end : Fun K "_run_end" "_run_end" s__run_end (AD "_run_end") (FD "_run_end")
  g__run_end : mg "_run_end" = some (.ref (AD "_run_end"))
  f__read_tuple : Fun K "_read_tuple" "_read_tuple" s__read_tuple (AD "_read_tuple") (FD "_read_tuple")
  g__read_tuple : mg "_read_tuple" = some (.ref (AD "_read_tuple"))
  f__read_integer : Fun K "_read_integer" "_read_integer" s__read_integer (AD "_read_integer") (FD "_read_integer")
  g__read_integer : mg "_read_integer" = some (.ref (AD "_read_integer"))
  f__law_bag : Fun K "_law_bag" "_law_bag" s__law_bag (AD "_law_bag") (FD "_law_bag")
  g__law_bag : mg "_law_bag" = some (.ref (AD "_law_bag"))
  f__law_draw : Fun K "_law_draw" "_law_draw" s__law_draw (AD "_law_draw") (FD "_law_draw")
  g__law_draw : mg "_law_draw" = some (.ref (AD "_law_draw"))
  f__law_name : Fun K "_law_name" "_law_name" s__law_name (AD "_law_name") (FD "_law_name")
  g__law_name : mg "_law_name" = some (.ref (AD "_law_name"))
  f__law_leaf : Fun K "_law_leaf" "_law_leaf" s__law_leaf (AD "_law_leaf") (FD "_law_leaf")
  g__law_leaf : mg "_law_leaf" = some (.ref (AD "_law_leaf"))
  f__law_data : Fun K "_law_data" "_law_data" s__law_data (AD "_law_data") (FD "_law_data")
  g__law_data : mg "_law_data" = some (.ref (AD "_law_data"))
  f__law_text : Fun K "_law_text" "_law_text" s__law_text (AD "_law_text") (FD "_law_text")
  g__law_text : mg "_law_text" = some (.ref (AD "_law_text"))
  f__law_firm : Fun K "_law_firm" "_law_firm" s__law_firm (AD "_law_firm") (FD "_law_firm")
  g__law_firm : mg "_law_firm" = some (.ref (AD "_law_firm"))
  f__law_same : Fun K "_law_same" "_law_same" s__law_same (AD "_law_same") (FD "_law_same")
  g__law_same : mg "_law_same" = some (.ref (AD "_law_same"))
  f__law_around : Fun K "_law_around" "_law_around" s__law_around (AD "_law_around") (FD "_law_around")
  g__law_around : mg "_law_around" = some (.ref (AD "_law_around"))
  f__law_refused : Fun K "_law_refused" "_law_refused" s__law_refused (AD "_law_refused") (FD "_law_refused")
  g__law_refused : mg "_law_refused" = some (.ref (AD "_law_refused"))
  f__law_right : Fun K "_law_right" "_law_right" s__law_right (AD "_law_right") (FD "_law_right")
  g__law_right : mg "_law_right" = some (.ref (AD "_law_right"))
  f_law : Fun K "law" "law" s_law (AD "law") (FD "law")
  g_law : mg "law" = some (.ref (AD "law"))
  g_FetchError : mg "FetchError" = some (.ref (AD "FetchError"))
  x_FetchError : PySem.W.excIn K (AD "FetchError") [.type "ValueError", .type "Exception", .type "BaseException", .type "object"] "ValueError.__new__" = true
  k_FetchError : PySem.W.keepIn K (.ref (AD "FetchError")) = true
  s_FetchError : PySem.W.subIn K (.ref (AD "FetchError")) (.type "BaseException") = some true
  t_FetchError : PySem.W.typeIn K (.ref (AD "FetchError")) = some (.type "type")
  g_BadData : mg "BadData" = some (.ref (AD "BadData"))
  e_BadData : PySem.W.exmOne K (.ref (AD "BadData")) (.ref (AD "BadData")) = some true
  x_BadData : PySem.W.excIn K (AD "BadData") [.type "ValueError", .type "Exception", .type "BaseException", .type "object"] "ValueError.__new__" = true
  k_BadData : PySem.W.keepIn K (.ref (AD "BadData")) = true
  s_BadData : PySem.W.subIn K (.ref (AD "BadData")) (.type "BaseException") = some true
  t_BadData : PySem.W.typeIn K (.ref (AD "BadData")) = some (.type "type")
  g_BadText : mg "BadText" = some (.ref (AD "BadText"))
  o_BadText : OexC K (AD "BadText")
  i_BadText : PySem.W.findIn K (.ref (AD "BadText")) "__init__" = some (some (.ref (AD "BadText.__init__")))
  ti_BadText : PySem.W.typeIn K (.ref (AD "BadText.__init__")) = some (.type "function")
  xf_BadText : XfC K (AD "BadText")
  n_BadText_place : PySem.W.findIn K (.ref (AD "BadText")) "place" = some none
theorem Txt.bd_BadText___init__ {K : PySem.W.Frag} {mg : Str → Option Value} {AD : String → Addr} {FD : String → FuncData} {TK : String → Tok} (T : Txt K mg AD FD TK) : Binds K (FD "BadText.__init__") ["self", "place"] [] := T.f_BadText___init__.binds fun _ _ _ _ _ _ us hl => match us, hl with | [_, _], _ => rfl
theorem Txt.bd_is_whole {K : PySem.W.Frag} {mg : Str → Option Value} {AD : String → Addr} {FD : String → FuncData} {TK : String → Tok} (T : Txt K mg AD FD TK) : Binds K (FD "is_whole") ["thing", "low", "high"] [] := by
  obtain ⟨ds, hv, hb⟩ : ∃ ds, Vals ([] : List V) ds ∧ Binds K (FD "is_whole") ["thing", "low", "high"] ds := T.f_is_whole.binds1 3 2 (by simp) rfl fun T kV doc pm an cdv ct us its h1 h2 => match us, its, h1, h2 with | [_, _, _], [_, _], _, _ => ⟨_, rfl, rfl⟩
  cases hv
  exact hb
theorem Txt.bd_is_whole_1 {K : PySem.W.Frag} {mg : Str → Option Value} {AD : String → Addr} {FD : String → FuncData} {TK : String → Tok} (T : Txt K mg AD FD TK) : ∃ ds, Vals ([.non] : List V) ds ∧ Binds K (FD "is_whole") ["thing", "low", "high"] ds := T.f_is_whole.binds1 2 1 (by simp) rfl fun T kV doc pm an cdv ct us its h1 h2 => match us, its, h1, h2 with | [_, _], [_, _], _, _ => ⟨_, rfl, rfl⟩
theorem Txt.bd_is_whole_2 {K : PySem.W.Frag} {mg : Str → Option Value} {AD : String → Addr} {FD : String → FuncData} {TK : String → Tok} (T : Txt K mg AD FD TK) : ∃ ds, Vals ([.non, .non] : List V) ds ∧ Binds K (FD "is_whole") ["thing", "low", "high"] ds := T.f_is_whole.binds1 1 0 (by simp) rfl fun T kV doc pm an cdv ct us its h1 h2 => match us, its, h1, h2 with | [_], [_, _], _, _ => ⟨_, rfl, rfl⟩
theorem Txt.bd_is_name {K : PySem.W.Frag} {mg : Str → Option Value} {AD : String → Addr} {FD : String → FuncData} {TK : String → Tok} (T : Txt K mg AD FD TK) : Binds K (FD "is_name") ["thing"] [] := T.f_is_name.binds fun _ _ _ _ _ _ us hl => match us, hl with | [_], _ => rfl
theorem Txt.bd_is_sequence {K : PySem.W.Frag} {mg : Str → Option Value} {AD : String → Addr} {FD : String → FuncData} {TK : String → Tok} (T : Txt K mg AD FD TK) : Binds K (FD "is_sequence") ["thing", "low", "high"] [] := by
  obtain ⟨ds, hv, hb⟩ : ∃ ds, Vals ([] : List V) ds ∧ Binds K (FD "is_sequence") ["thing", "low", "high"] ds := T.f_is_sequence.binds1 3 2 (by simp) rfl fun T kV doc pm an cdv ct us its h1 h2 => match us, its, h1, h2 with | [_, _, _], [_, _], _, _ => ⟨_, rfl, rfl⟩
  cases hv
  exact hb
theorem Txt.bd_is_sequence_1 {K : PySem.W.Frag} {mg : Str → Option Value} {AD : String → Addr} {FD : String → FuncData} {TK : String → Tok} (T : Txt K mg AD FD TK) : ∃ ds, Vals ([.non] : List V) ds ∧ Binds K (FD "is_sequence") ["thing", "low", "high"] ds := T.f_is_sequence.binds1 2 1 (by simp) rfl fun T kV doc pm an cdv ct us its h1 h2 => match us, its, h1, h2 with | [_, _], [_, _], _, _ => ⟨_, rfl, rfl⟩
theorem Txt.bd_is_sequence_2 {K : PySem.W.Frag} {mg : Str → Option Value} {AD : String → Addr} {FD : String → FuncData} {TK : String → Tok} (T : Txt K mg AD FD TK) : ∃ ds, Vals ([.int 0, .non] : List V) ds ∧ Binds K (FD "is_sequence") ["thing", "low", "high"] ds := T.f_is_sequence.binds1 1 0 (by simp) rfl fun T kV doc pm an cdv ct us its h1 h2 => match us, its, h1, h2 with | [_], [_, _], _, _ => ⟨_, rfl, rfl⟩
theorem Txt.bd_data_text {K : PySem.W.Frag} {mg : Str → Option Value} {AD : String → Addr} {FD : String → FuncData} {TK : String → Tok} (T : Txt K mg AD FD TK) : Binds K (FD "data_text") ["data"] [] := T.f_data_text.binds fun _ _ _ _ _ _ us hl => match us, hl with | [_], _ => rfl
theorem Txt.bd__text_of {K : PySem.W.Frag} {mg : Str → Option Value} {AD : String → Addr} {FD : String → FuncData} {TK : String → Tok} (T : Txt K mg AD FD TK) : Binds K (FD "_text_of") ["data", "deep"] [] := T.f__text_of.binds fun _ _ _ _ _ _ us hl => match us, hl with | [_, _], _ => rfl
theorem Txt.bd_read_data {K : PySem.W.Frag} {mg : Str → Option Value} {AD : String → Addr} {FD : String → FuncData} {TK : String → Tok} (T : Txt K mg AD FD TK) : Binds K (FD "read_data") ["text"] [] := T.f_read_data.binds fun _ _ _ _ _ _ us hl => match us, hl with | [_], _ => rfl
theorem Txt.bd__read_item {K : PySem.W.Frag} {mg : Str → Option Value} {AD : String → Addr} {FD : String → FuncData} {TK : String → Tok} (T : Txt K mg AD FD TK) : Binds K (FD "_read_item") ["text", "at", "deep"] [] := T.f__read_item.binds fun _ _ _ _ _ _ us hl => match us, hl with | [_, _, _], _ => rfl
theorem Txt.bd__sign_at {K : PySem.W.Frag} {mg : Str → Option Value} {AD : String → Addr} {FD : String → FuncData} {TK : String → Tok} (T : Txt K mg AD FD TK) : Binds K (FD "_sign_at") ["text", "at"] [] := T.f__sign_at.binds fun _ _ _ _ _ _ us hl => match us, hl with | [_, _], _ => rfl
theorem Txt.bd__run_end {K : PySem.W.Frag} {mg : Str → Option Value} {AD : String → Addr} {FD : String → FuncData} {TK : String → Tok} (T : Txt K mg AD FD TK) : Binds K (FD "_run_end") ["text", "at", "signs", "most"] [] := T.f__run_end.binds fun _ _ _ _ _ _ us hl => match us, hl with | [_, _, _, _], _ => rfl
theorem Txt.bd__read_tuple {K : PySem.W.Frag} {mg : Str → Option Value} {AD : String → Addr} {FD : String → FuncData} {TK : String → Tok} (T : Txt K mg AD FD TK) : Binds K (FD "_read_tuple") ["text", "at", "deep"] [] := T.f__read_tuple.binds fun _ _ _ _ _ _ us hl => match us, hl with | [_, _, _], _ => rfl
theorem Txt.bd__read_integer {K : PySem.W.Frag} {mg : Str → Option Value} {AD : String → Addr} {FD : String → FuncData} {TK : String → Tok} (T : Txt K mg AD FD TK) : Binds K (FD "_read_integer") ["text", "at"] [] := T.f__read_integer.binds fun _ _ _ _ _ _ us hl => match us, hl with | [_, _], _ => rfl
theorem Txt.bd__law_bag {K : PySem.W.Frag} {mg : Str → Option Value} {AD : String → Addr} {FD : String → FuncData} {TK : String → Tok} (T : Txt K mg AD FD TK) : Binds K (FD "_law_bag") ["script"] [] := T.f__law_bag.binds fun _ _ _ _ _ _ us hl => match us, hl with | [_], _ => rfl
theorem Txt.bd__law_draw {K : PySem.W.Frag} {mg : Str → Option Value} {AD : String → Addr} {FD : String → FuncData} {TK : String → Tok} (T : Txt K mg AD FD TK) : Binds K (FD "_law_draw") ["bag", "limit"] [] := T.f__law_draw.binds fun _ _ _ _ _ _ us hl => match us, hl with | [_, _], _ => rfl
theorem Txt.bd__law_name {K : PySem.W.Frag} {mg : Str → Option Value} {AD : String → Addr} {FD : String → FuncData} {TK : String → Tok} (T : Txt K mg AD FD TK) : Binds K (FD "_law_name") ["bag"] [] := T.f__law_name.binds fun _ _ _ _ _ _ us hl => match us, hl with | [_], _ => rfl
theorem Txt.bd__law_leaf {K : PySem.W.Frag} {mg : Str → Option Value} {AD : String → Addr} {FD : String → FuncData} {TK : String → Tok} (T : Txt K mg AD FD TK) : Binds K (FD "_law_leaf") ["bag"] [] := T.f__law_leaf.binds fun _ _ _ _ _ _ us hl => match us, hl with | [_], _ => rfl
theorem Txt.bd__law_data {K : PySem.W.Frag} {mg : Str → Option Value} {AD : String → Addr} {FD : String → FuncData} {TK : String → Tok} (T : Txt K mg AD FD TK) : Binds K (FD "_law_data") ["bag", "deep", "budget"] [] := T.f__law_data.binds fun _ _ _ _ _ _ us hl => match us, hl with | [_, _, _], _ => rfl
theorem Txt.bd__law_text {K : PySem.W.Frag} {mg : Str → Option Value} {AD : String → Addr} {FD : String → FuncData} {TK : String → Tok} (T : Txt K mg AD FD TK) : Binds K (FD "_law_text") ["data"] [] := T.f__law_text.binds fun _ _ _ _ _ _ us hl => match us, hl with | [_], _ => rfl
theorem Txt.bd__law_firm {K : PySem.W.Frag} {mg : Str → Option Value} {AD : String → Addr} {FD : String → FuncData} {TK : String → Tok} (T : Txt K mg AD FD TK) : Binds K (FD "_law_firm") ["data"] [] := T.f__law_firm.binds fun _ _ _ _ _ _ us hl => match us, hl with | [_], _ => rfl
theorem Txt.bd__law_same {K : PySem.W.Frag} {mg : Str → Option Value} {AD : String → Addr} {FD : String → FuncData} {TK : String → Tok} (T : Txt K mg AD FD TK) : Binds K (FD "_law_same") ["one", "other"] [] := T.f__law_same.binds fun _ _ _ _ _ _ us hl => match us, hl with | [_, _], _ => rfl
theorem Txt.bd__law_around {K : PySem.W.Frag} {mg : Str → Option Value} {AD : String → Addr} {FD : String → FuncData} {TK : String → Tok} (T : Txt K mg AD FD TK) : Binds K (FD "_law_around") ["thing", "many"] [] := T.f__law_around.binds fun _ _ _ _ _ _ us hl => match us, hl with | [_, _], _ => rfl
theorem Txt.bd__law_refused {K : PySem.W.Frag} {mg : Str → Option Value} {AD : String → Addr} {FD : String → FuncData} {TK : String → Tok} (T : Txt K mg AD FD TK) : Binds K (FD "_law_refused") ["data"] [] := T.f__law_refused.binds fun _ _ _ _ _ _ us hl => match us, hl with | [_], _ => rfl
theorem Txt.bd__law_right {K : PySem.W.Frag} {mg : Str → Option Value} {AD : String → Addr} {FD : String → FuncData} {TK : String → Tok} (T : Txt K mg AD FD TK) : Binds K (FD "_law_right") ["data"] [] := T.f__law_right.binds fun _ _ _ _ _ _ us hl => match us, hl with | [_], _ => rfl
theorem Txt.bd_law {K : PySem.W.Frag} {mg : Str → Option Value} {AD : String → Addr} {FD : String → FuncData} {TK : String → Tok} (T : Txt K mg AD FD TK) : Binds K (FD "law") ["script"] [] := T.f_law.binds fun _ _ _ _ _ _ us hl => match us, hl with | [_], _ => rfl
end K03
namespace K03
open PySem L2 Co Fx
section
variable {P : Program} {w : World} {K : PySem.W.Frag} {mg : Str → Option Value} {base : Heap} {AD : String → Addr} {FD : String → FuncData} {TK : String → Tok}
theorem ok__law_around (T : Txt K mg AD FD TK) : FnOk P w K mg base CX0 1 (AD "_law_around") (FD "_law_around") ["thing", "many"] (spM (md K AD) m__law_around) := by
  refine T.f__law_around.ok sc__law_around (fun vs H Q E h => spM_len (calmF_len defM_len) h) (fun cdv A outer s H vs Q E hr h => ?_)
  refine ⟨_, (pss_cons (ps_for PassesOwn.never rfl (pi_range1 (by rfl) T.b_range (pa_cons (pv 1) pa_nil)) (pg_name (i := 2) sc__law_around.nd rfl (by first | exact Or.inl rfl | exact Or.inr rfl)) (pss_one (ps_set (i := 0) sc__law_around.nd rfl (by first | exact Or.inl rfl | exact Or.inr rfl) (pe_ifExp (pt_cmpR (r := rEqA K) (op_eqA (by exact hr.units)) (pe_op op_mod (pe_callTy call_int1A (by rfl) T.b_int (by decide +kernel) (pa_cons (pv 2) pa_nil)) pe_int) pe_int (nomark _)) (pe_lst (pa_cons (pv 0) pa_nil)) (pe_tup (pa_cons (pv 0) pa_nil))))))
    (pss_one (ps_ret (pv 0)))), ?_⟩
  refine def_ok0 (N := ["thing", "many", "k"]) rfl ?_ h
  exact (rs_seq (rs_for (ri_rng1 (ra_cons re_var ra_nil)) rg_name (RS.scope (rs_set (re_if (rt_test (re_op (re_op (re_cb (ra_cons re_var ra_nil) k_int) re_int k_mod) re_int k_eqA)) (re_lst (ra_cons re_var ra_nil)) (re_tup (ra_cons re_var ra_nil))))))
    (rs_ret re_var))
theorem ok__law_bag (T : Txt K mg AD FD TK) : FnOk P w K mg base CX0 1 (AD "_law_bag") (FD "_law_bag") ["script"] (spM (md K AD) m__law_bag) := by
  refine T.f__law_bag.ok sc__law_bag (fun vs H Q E h => spM_len (calmF_len defM_len) h) (fun cdv A outer s H vs Q E hr h => ?_)
  refine ⟨_, (pss_one (ps_ret (pe_lst (pa_cons (pe_lc (own := [("cell", 1)]) rfl sc__law_bag.nd (pi_seq (pe_slice (r := rSlX K) sl_any (pv 0) po_none (po_some pe_int))) (blkOk_by (own := [("cell", 1)]) (N := ["script", "cell"]) (sc := defScope s__law_bag) (by decide +kernel)) (fun _ _ _ _ _ => (pg_name (i := 1) sc__law_bag.nd rfl (by first | exact Or.inl rfl | exact Or.inr rfl))) (fun _ _ _ _ _ => pts_nil) (fun _ _ _ _ _ => (pe_callTy call_int1A (by rfl) T.b_int (by decide +kernel) (pa_cons (pv 1) pa_nil)))) (pa_cons pe_int (pa_cons pe_int (pa_cons pe_int (pa_cons pe_int pa_nil)))))))), ?_⟩
  refine def_ok0 (N := ["script", "cell"]) rfl ?_ h
  exact (rs_ret (re_lmu (ra_cons (re_lc (ri_seq (re_sl re_var ro_none (ro_part re_int))) (rn_name (by decide)) rt_yes (re_cb (ra_cons re_var ra_nil) k_int) (fun _ _ _ _ _ z => z)) (ra_cons re_int (ra_cons re_int (ra_cons re_int (ra_cons re_int ra_nil)))))))
theorem ok__law_draw (T : Txt K mg AD FD TK) : FnOk P w K mg base CX0 1 (AD "_law_draw") (FD "_law_draw") ["bag", "limit"] (spM (md K AD) m__law_draw) := by
  refine T.f__law_draw.ok sc__law_draw (fun vs H Q E h => spM_len (calmF_len defM_len) h) (fun cdv A outer s H vs Q E hr h => ?_)
  refine ⟨_, (pss_cons (ps_asg (pe_op (r := rAddA K) op_addA (pe_ix (r := rIx K) ix_seq (pv 0) pe_int (fun _ _ => rfl)) pe_int) (pg_sub (pv 0) pe_int set_list))
    (pss_cons (ps_if (pt_cmpR op_gt (pe_ix (r := rIx K) ix_seq (pv 0) pe_int (fun _ _ => rfl)) pe_int (nomark _)) (pss_cons (ps_set (i := 2) sc__law_draw.nd rfl (by first | exact Or.inl rfl | exact Or.inr rfl) (pe_op op_mod (pe_callTy call_int1A (by rfl) T.b_int (by decide +kernel) (pa_cons (pe_ix (r := rIx K) ix_seq (pv 0) pe_int (fun _ _ => rfl)) pa_nil)) (pv 1)))
    (pss_cons (ps_asg (pe_op op_fdivW (pe_ix (r := rIx K) ix_seq (pv 0) pe_int (fun _ _ => rfl)) (pv 1)) (pg_sub (pv 0) pe_int set_list))
    (pss_one (ps_ret (pv 2))))) pss_nil)
    (pss_cons (ps_set (i := 3) sc__law_draw.nd rfl (by first | exact Or.inl rfl | exact Or.inr rfl) (pe_ix (r := rIx K) ix_seq (pv 0) pe_int (fun _ _ => rfl)))
    (pss_cons (ps_if (pt_cmpR op_lt (pe_ix (r := rIx K) ix_seq (pv 0) pe_int (fun _ _ => rfl)) (pe_callB (r := rLenA K) call_lenA (by rfl) T.b_len (by decide +kernel) (pa_cons (pe_ix (r := rIx K) ix_seq (pv 0) pe_int (fun _ _ => rfl)) pa_nil)) (nomark _)) (pss_cons (ps_set (i := 3) sc__law_draw.nd rfl (by first | exact Or.inl rfl | exact Or.inr rfl) (pe_ix (r := rIx K) ix_seq (pe_ix (r := rIx K) ix_seq (pv 0) pe_int (fun _ _ => rfl)) (pe_ix (r := rIx K) ix_seq (pv 0) pe_int (fun _ _ => rfl)) (fun _ _ => rfl)))
    (pss_cons (ps_asg (pe_op (r := rAddA K) op_addA (pe_ix (r := rIx K) ix_seq (pv 0) pe_int (fun _ _ => rfl)) pe_int) (pg_sub (pv 0) pe_int set_list))
    (pss_one (ps_if (pt_cmpR op_ge (pe_callB call_abs (by rfl) T.b_abs (by decide +kernel) (pa_cons (pv 3) pa_nil)) (pe_op op_pow pe_int pe_int) (nomark _)) (pss_cons (ps_asg (pe_op op_fdivW (pe_callB call_abs (by rfl) T.b_abs (by decide +kernel) (pa_cons (pv 3) pa_nil)) (pv 1)) (pg_sub (pv 0) pe_int set_list))
    (pss_one (ps_ret (pe_op op_mod (pe_callTy call_int1A (by rfl) T.b_int (by decide +kernel) (pa_cons (pe_callB call_abs (by rfl) T.b_abs (by decide +kernel) (pa_cons (pv 3) pa_nil)) pa_nil)) (pv 1))))) pss_nil)))) pss_nil)
    (pss_cons (ps_set (i := 4) sc__law_draw.nd rfl (by first | exact Or.inl rfl | exact Or.inr rfl) (pe_op op_mod (pe_callTy call_int1A (by rfl) T.b_int (by decide +kernel) (pa_cons (pe_op (r := rAddA K) op_addA (pe_op (r := rAddA K) op_addA (pe_op (r := rAddA K) op_addA (pe_op op_mul (pe_ix (r := rIx K) ix_seq (pv 0) pe_int (fun _ _ => rfl)) pe_int) (pe_op op_mul (pe_op op_mod (pe_callTy call_int1A (by rfl) T.b_int (by decide +kernel) (pa_cons (pv 3) pa_nil)) pe_int) pe_int)) (pe_op op_mul (pe_ix (r := rIx K) ix_seq (pv 0) pe_int (fun _ _ => rfl)) pe_int)) pe_int) pa_nil)) pe_int))
    (pss_cons (ps_asg (pv 4) (pg_sub (pv 0) pe_int set_list))
    (pss_cons (ps_set (i := 5) sc__law_draw.nd rfl (by first | exact Or.inl rfl | exact Or.inr rfl) (pe_op op_mod (pe_callTy call_int1A (by rfl) T.b_int (by decide +kernel) (pa_cons (pe_op (r := rAddA K) op_addA (pe_op (r := rAddA K) op_addA (pe_op op_mul (pv 4) pe_int) (pe_op op_mul (pe_op op_mul (pe_ix (r := rIx K) ix_seq (pv 0) pe_int (fun _ _ => rfl)) (pe_ix (r := rIx K) ix_seq (pv 0) pe_int (fun _ _ => rfl))) pe_int)) (pe_op op_fdivW (pv 4) pe_int)) pa_nil)) pe_int))
    (pss_one (ps_ret (pe_op op_mod (pe_callTy call_int1A (by rfl) T.b_int (by decide +kernel) (pa_cons (pe_op op_fdivW (pv 5) pe_int) pa_nil)) (pv 1))))))))))), ?_⟩
  refine def_ok0 (N := ["bag", "limit", "digit", "cell", "mixed", "twice"]) rfl ?_ h
  exact (rs_seq (rs_asg (re_op (re_op re_var re_int k_ix) re_int k_add) (rg_sub re_var re_int))
    (rs_seq (rs_if (rt_test (re_op (re_op re_var re_int k_ix) re_int k_gt)) (rs_seq (rs_set (re_op (re_cb (ra_cons (re_op re_var re_int k_ix) ra_nil) k_int) re_var k_mod))
    (rs_seq (rs_asg (re_op (re_op re_var re_int k_ix) re_var k_div) (rg_sub re_var re_int))
    (rs_ret re_var))) rs_next)
    (rs_seq (rs_set (re_op re_var re_int k_ix))
    (rs_seq (rs_if (rt_test (re_op (re_op re_var re_int k_ix) (re_cb (ra_cons (re_op re_var re_int k_ix) ra_nil) k_len) k_lt)) (rs_seq (rs_set (re_op (re_op re_var re_int k_ix) (re_op re_var re_int k_ix) k_ix))
    (rs_seq (rs_asg (re_op (re_op re_var re_int k_ix) re_int k_add) (rg_sub re_var re_int))
    (rs_if (rt_test (re_op (re_cb (ra_cons re_var ra_nil) k_abs) (re_op re_int re_int k_pow) k_ge)) (rs_seq (rs_asg (re_op (re_cb (ra_cons re_var ra_nil) k_abs) re_var k_div) (rg_sub re_var re_int))
    (rs_ret (re_op (re_cb (ra_cons (re_cb (ra_cons re_var ra_nil) k_abs) ra_nil) k_int) re_var k_mod))) rs_next))) rs_next)
    (rs_seq (rs_set (re_op (re_cb (ra_cons (re_op (re_op (re_op (re_op (re_op re_var re_int k_ix) re_int k_mul) (re_op (re_op (re_cb (ra_cons re_var ra_nil) k_int) re_int k_mod) re_int k_mul) k_add) (re_op (re_op re_var re_int k_ix) re_int k_mul) k_add) re_int k_add) ra_nil) k_int) re_int k_mod))
    (rs_seq (rs_asg re_var (rg_sub re_var re_int))
    (rs_seq (rs_set (re_op (re_cb (ra_cons (re_op (re_op (re_op re_var re_int k_mul) (re_op (re_op (re_op re_var re_int k_ix) (re_op re_var re_int k_ix) k_mul) re_int k_mul) k_add) (re_op re_var re_int k_div) k_add) ra_nil) k_int) re_int k_mod))
    (rs_ret (re_op (re_cb (ra_cons (re_op re_var re_int k_div) ra_nil) k_int) re_var k_mod)))))))))
theorem ok__law_name (T : Txt K mg AD FD TK) : FnOk P w K mg base CX0 2 (AD "_law_name") (FD "_law_name") ["bag"] (spM (md K AD) m__law_name) := by
  have G__law_draw : FnOk P w K mg base CX0 _ _ _ _ _ := ok__law_draw T
  refine T.f__law_name.ok sc__law_name (fun vs H Q E h => spM_len (calmF_len defM_len) h) (fun cdv A outer s H vs Q E hr h => ?_)
  refine ⟨_, (pss_one (ps_ret (pe_joinA pe_str (pe_lc (own := [("k", 1)]) rfl sc__law_name.nd (pi_range1 (by rfl) T.b_range (pa_cons (pe_op (r := rAddA K) op_addA pe_int (pe_call (G__law_draw) (hr.mono (by decide)) rfl T.g__law_draw T.f__law_draw.kp T.bd__law_draw .nil pass0 (pa_cons (pv 0) (pa_cons pe_int pa_nil)))) pa_nil)) (blkOk_by (own := [("k", 1)]) (N := ["bag", "k"]) (sc := defScope s__law_name) (by decide +kernel)) (fun _ _ _ _ _ => (pg_name (i := 1) sc__law_name.nd rfl (by first | exact Or.inl rfl | exact Or.inr rfl))) (fun _ _ _ _ _ => pts_nil) (fun _ _ _ _ _ => (pe_ix (r := rIx K) ix_seq pe_str (pe_call (G__law_draw) (hr.mono (by decide)) rfl T.g__law_draw T.f__law_draw.kp T.bd__law_draw .nil pass0 (pa_cons (pv 0) (pa_cons pe_int pa_nil))) (fun _ _ => rfl))))))), ?_⟩
  refine def_ok0 (N := ["bag", "k"]) rfl ?_ h
  exact (rs_ret (re_join re_str (re_lc (ri_rng1 (ra_cons (re_op re_int (re_call0 (ra_cons re_var (ra_cons re_int ra_nil)) (fun _ => .nil)) k_add) ra_nil)) (rn_name (by decide)) rt_yes (re_op re_str (re_call0 (ra_cons re_var (ra_cons re_int ra_nil)) (fun _ => .nil)) k_ix) (fun _ _ _ _ _ z => z))))
theorem ok__law_leaf (T : Txt K mg AD FD TK) : FnOk P w K mg base CX0 3 (AD "_law_leaf") (FD "_law_leaf") ["bag"] (spM (md K AD) m__law_leaf) := by
  have G__law_draw : FnOk P w K mg base CX0 _ _ _ _ _ := ok__law_draw T
  have G__law_name : FnOk P w K mg base CX0 _ _ _ _ _ := ok__law_name T
  refine T.f__law_leaf.ok sc__law_leaf (fun vs H Q E h => spM_len (calmF_len defM_len) h) (fun cdv A outer s H vs Q E hr h => ?_)
  refine ⟨_, (pss_cons (ps_set (i := 1) sc__law_leaf.nd rfl (by first | exact Or.inl rfl | exact Or.inr rfl) (pe_call (G__law_draw) (hr.mono (by decide)) rfl T.g__law_draw T.f__law_draw.kp T.bd__law_draw .nil pass0 (pa_cons (pv 0) (pa_cons pe_int pa_nil))))
    (pss_cons (ps_if (pt_cmpR (r := rEqA K) (op_eqA (by exact hr.units)) (pv 1) pe_int (nomark _)) (pss_one (ps_ret (pe_call (G__law_name) (hr.mono (by decide)) rfl T.g__law_name T.f__law_name.kp T.bd__law_name .nil pass0 (pa_cons (pv 0) pa_nil)))) pss_nil)
    (pss_cons (ps_if (pt_cmpR (r := rEqA K) (op_eqA (by exact hr.units)) (pv 1) pe_int (nomark _)) (pss_one (ps_ret (pe_op op_sub (pe_call (G__law_draw) (hr.mono (by decide)) rfl T.g__law_draw T.f__law_draw.kp T.bd__law_draw .nil pass0 (pa_cons (pv 0) (pa_cons (pe_op op_pow pe_int pe_int) pa_nil))) (pe_op op_pow pe_int pe_int)))) pss_nil)
    (pss_cons (ps_if (pt_cmpR (r := rEqA K) (op_eqA (by exact hr.units)) (pv 1) pe_int (nomark _)) (pss_one (ps_ret (pe_op op_sub (pe_call (G__law_draw) (hr.mono (by decide)) rfl T.g__law_draw T.f__law_draw.kp T.bd__law_draw .nil pass0 (pa_cons (pv 0) (pa_cons pe_int pa_nil))) pe_int))) pss_nil)
    (pss_one (ps_ret (pe_ix (r := rIx K) ix_seq (pe_lst (pa_cons (pe_tup pa_nil) (pa_cons (pe_lst pa_nil) pa_nil))) (pe_call (G__law_draw) (hr.mono (by decide)) rfl T.g__law_draw T.f__law_draw.kp T.bd__law_draw .nil pass0 (pa_cons (pv 0) (pa_cons pe_int pa_nil))) (fun _ _ => rfl)))))))), ?_⟩
  refine def_ok0 (N := ["bag", "way"]) rfl ?_ h
  exact (rs_seq (rs_set (re_call0 (ra_cons re_var (ra_cons re_int ra_nil)) (fun _ => .nil)))
    (rs_seq (rs_if (rt_test (re_op re_var re_int k_eqA)) (rs_ret (re_call0 (ra_cons re_var ra_nil) (fun _ => .nil))) rs_next)
    (rs_seq (rs_if (rt_test (re_op re_var re_int k_eqA)) (rs_ret (re_op (re_call0 (ra_cons re_var (ra_cons (re_op re_int re_int k_pow) ra_nil)) (fun _ => .nil)) (re_op re_int re_int k_pow) k_sub)) rs_next)
    (rs_seq (rs_if (rt_test (re_op re_var re_int k_eqA)) (rs_ret (re_op (re_call0 (ra_cons re_var (ra_cons re_int ra_nil)) (fun _ => .nil)) re_int k_sub)) rs_next)
    (rs_ret (re_op (re_lst (ra_cons (re_tup ra_nil) (ra_cons (re_lst ra_nil) ra_nil))) (re_call0 (ra_cons re_var (ra_cons re_int ra_nil)) (fun _ => .nil)) k_ix))))))
theorem oks__law_data (T : Txt K mg AD FD TK) : ∀ n : Nat, (FnOk P w K mg base CX0 (n + 3) (AD "_law_data") (FD "_law_data") ["bag", "deep", "budget"] (spM (md K AD) (m__law_data n))) := by
  intro n
  induction n with
  | zero => exact fnOk_nil
  | succ n ih =>
    have H__law_data := ih
    skip
    · have G__law_data := fnOk_calm H__law_data
      have G__law_draw : FnOk P w K mg base CX0 _ _ _ _ _ := ok__law_draw T
      have G__law_leaf : FnOk P w K mg base CX0 _ _ _ _ _ := ok__law_leaf T
      refine T.f__law_data.ok sc__law_data (fun vs H Q E h => spM_len (calmF_len defM_len) h) (fun cdv A outer s H vs Q E hr h => ?_)
      refine ⟨_, (pss_cons (ps_if (PW.pt (pw_or (pt_cmpR (r := rEqA K) (op_eqA (by exact hr.units)) (pv 1) pe_int (nomark _)) (pw_or (pt_cmpR op_le (pe_ix (r := rIx K) ix_seq (pv 2) pe_int (fun _ _ => rfl)) pe_int (nomark _)) (pw_or1 (pt_cmpR (r := rEqA K) (op_eqA (by exact hr.units)) (pe_call (G__law_draw) (hr.mono (by omega)) rfl T.g__law_draw T.f__law_draw.kp T.bd__law_draw .nil pass0 (pa_cons (pv 0) (pa_cons pe_int pa_nil))) pe_int (nomark _)))))) (pss_one (ps_ret (pe_call (G__law_leaf) (hr.mono (by omega)) rfl T.g__law_leaf T.f__law_leaf.kp T.bd__law_leaf .nil pass0 (pa_cons (pv 0) pa_nil)))) pss_nil)
        (pss_cons (ps_set (i := 3) sc__law_data.nd rfl (by first | exact Or.inl rfl | exact Or.inr rfl) (pe_lst pa_nil))
        (pss_cons (ps_for PassesOwn.never rfl (pi_range1 (by rfl) T.b_range (pa_cons (pe_call (G__law_draw) (hr.mono (by omega)) rfl T.g__law_draw T.f__law_draw.kp T.bd__law_draw .nil pass0 (pa_cons (pv 0) (pa_cons pe_int pa_nil))) pa_nil)) (pg_name (i := 4) sc__law_data.nd rfl (by first | exact Or.inl rfl | exact Or.inr rfl)) (pss_cons (ps_asg (pe_op op_sub (pe_ix (r := rIx K) ix_seq (pv 2) pe_int (fun _ _ => rfl)) pe_int) (pg_sub (pv 2) pe_int set_list))
        (pss_one (ps_expr (pe_bm PySem.F.plainAttrs_list PySem.F.slot_list_append PySem.F.type_list_append mt_append (pv 3) (pa_cons (pe_call (G__law_data) (hr.mono (by omega)) rfl T.g__law_data T.f__law_data.kp T.bd__law_data .nil pass0 (pa_cons (pv 0) (pa_cons (pe_op op_sub (pv 1) pe_int) (pa_cons (pv 2) pa_nil)))) pa_nil))))))
        (pss_one (ps_ret (pe_ifExp (pt_cmpR (r := rEqA K) (op_eqA (by exact hr.units)) (pe_call (G__law_draw) (hr.mono (by omega)) rfl T.g__law_draw T.f__law_draw.kp T.bd__law_draw .nil pass0 (pa_cons (pv 0) (pa_cons pe_int pa_nil))) pe_int (nomark _)) (pv 3) (pe_callTy (r := rTupO K) call_tupO (by rfl) T.b_tuple (by decide +kernel) (pa_cons (pv 3) pa_nil)))))))), ?_⟩
      refine def_ok0 (N := ["bag", "deep", "budget", "parts", "k"]) rfl ?_ h
      exact (rs_seq (rs_if (rt_or (rt_test (re_op re_var re_int k_eqA)) (rt_or (rt_test (re_op (re_op re_var re_int k_ix) re_int k_le)) (rt_test (re_op (re_call0 (ra_cons re_var (ra_cons re_int ra_nil)) (fun _ => .nil)) re_int k_eqA)))) (rs_ret (re_call0 (ra_cons re_var ra_nil) (fun _ => .nil))) rs_next)
        (rs_seq (rs_set (re_lmu ra_nil))
        (rs_seq (rs_for (ri_rng1 (ra_cons (re_call0 (ra_cons re_var (ra_cons re_int ra_nil)) (fun _ => .nil)) ra_nil)) rg_name (RS.scope (rs_seq (rs_asg (re_op (re_op re_var re_int k_ix) re_int k_sub) (rg_sub re_var re_int))
        (rs_drop (re_app re_var (re_call0 (ra_cons re_var (ra_cons (re_op re_var re_int k_sub) (ra_cons re_var ra_nil))) (fun _ => .nil)))))))
        (rs_ret (re_if (rt_test (re_op (re_call0 (ra_cons re_var (ra_cons re_int ra_nil)) (fun _ => .nil)) re_int k_eqA)) re_var (re_cb (ra_cons re_var ra_nil) k_tuple))))))
theorem ok__law_data (T : Txt K mg AD FD TK) (n : Nat) : FnOk P w K mg base CX0 (n + 3) (AD "_law_data") (FD "_law_data") ["bag", "deep", "budget"] (spM (md K AD) (m__law_data n)) := oks__law_data T n
theorem ok_is_name (T : Txt K mg AD FD TK) : FnOk P w K mg base CX0 1 (AD "is_name") (FD "is_name") ["thing"] (spM (md K AD) m_is_name) := by
  refine T.f_is_name.ok sc_is_name (fun vs H Q E h => spM_len (calmF_len defM_len) h) (fun cdv A outer s H vs Q E hr h => ?_)
  refine ⟨_, (pss_cons (ps_if (PW.pt (pw_or (pt_not (pt_val (pe_callB (r := rIsi K) call_isi (by rfl) T.b_isinstance (by decide +kernel) (pa_cons (pv 0) (pa_cons (pe_bltn (v := .ty "str") (by rfl) T.b_str (by decide +kernel) rfl) pa_nil))))) (pw_or1 (pt_not (pt_chain op_le op_le pe_int (pe_callB (r := rLenA K) call_lenA (by rfl) T.b_len (by decide +kernel) (pa_cons (pv 0) pa_nil)) (pe_glob (v := .int 12) rfl T.g_LONGEST_NAME ⟨_, rfl⟩)))))) (pss_one (ps_ret pe_bl)) pss_nil)
    (pss_one (ps_ret (pe_callB (r := rAll K) (cr_all rfl) (by rfl) T.b_all (by decide +kernel) (pa_cons (pe_lc (own := [("sign", 1)]) rfl sc_is_name.nd (pi_str (pv 0)) (blkOk_by (own := [("sign", 1)]) (N := ["thing", "sign"]) (sc := defScope s_is_name) (by decide +kernel)) (fun _ _ _ _ _ => (pg_name (i := 1) sc_is_name.nd rfl (by first | exact Or.inl rfl | exact Or.inr rfl))) (fun _ _ _ _ _ => pts_nil) (fun _ _ _ _ _ => (pe_cmpR op_inS (pv 1) (pe_glob (v := .str "abcdefghijklmnopqrstuvwxyz") rfl T.g_LETTERS ⟨_, rfl⟩) rfl))) pa_nil))))), ?_⟩
  refine def_ok0 (N := ["thing", "sign"]) rfl ?_ h
  exact (rs_seq (rs_if (rt_or (rt_not (rt_B (re_isi .str re_var))) (rt_not (rt_test (re_chain re_int (re_cb (ra_cons re_var ra_nil) k_len) k_le re_int k_le)))) (rs_ret re_bl) rs_next)
    (rs_ret (re_cb (ra_cons (re_lc (ri_str re_var) (rn_name (by decide)) rt_yes (re_op re_var re_str k_inS) (fun _ _ _ _ _ z => z)) ra_nil) k_all)))
theorem ok_is_whole (T : Txt K mg AD FD TK) : FnOk P w K mg base CX0 1 (AD "is_whole") (FD "is_whole") ["thing", "low", "high"] (spM (md K AD) m_is_whole) := by
  refine T.f_is_whole.ok sc_is_whole (fun vs H Q E h => spM_len (calmF_len defM_len) h) (fun cdv A outer s H vs Q E hr h => ?_)
  refine ⟨_, (pss_cons (ps_if (PW.pt (pw_or (pt_not (pt_val (pe_callB (r := rIsi K) call_isi (by rfl) T.b_isinstance (by decide +kernel) (pa_cons (pv 0) (pa_cons (pe_bltn (v := .ty "int") (by rfl) T.b_int (by decide +kernel) rfl) pa_nil))))) (pw_or1 (pt_val (pe_callB (r := rIsi K) call_isi (by rfl) T.b_isinstance (by decide +kernel) (pa_cons (pv 0) (pa_cons (pe_bltn (v := .ty "bool") (by rfl) T.b_bool (by decide +kernel) rfl) pa_nil))))))) (pss_one (ps_ret pe_bl)) pss_nil)
    (pss_one (ps_ret (pe_and (pe_or (pe_cmpR op_isN1 (pv 1) pe_non (nomark _)) (pe_one (pe_cmpR op_le (pv 1) (pv 0) (nomark _)))) (pe_one (pe_or (pe_cmpR op_isN1 (pv 2) pe_non (nomark _)) (pe_one (pe_cmpR op_le (pv 0) (pv 2) (nomark _))))))))), ?_⟩
  refine def_ok0 (N := ["thing", "low", "high"]) rfl ?_ h
  exact (rs_seq (rs_if (rt_or (rt_not (rt_B (re_isi .int re_var))) (rt_B (re_isi .bool re_var))) (rs_ret re_bl) rs_next)
    (rs_ret (re_and (re_or (re_op re_var re_non k_isN) (re_op re_var re_var k_le)) (re_or (re_op re_var re_non k_isN) (re_op re_var re_var k_le)))))
theorem ok_is_sequence (T : Txt K mg AD FD TK) : FnOk P w K mg base CX0 2 (AD "is_sequence") (FD "is_sequence") ["thing", "low", "high"] (spM (md K AD) m_is_sequence) := by
  have G_is_whole : FnOk P w K mg base CX0 _ _ _ _ _ := ok_is_whole T
  refine T.f_is_sequence.ok sc_is_sequence (fun vs H Q E h => spM_len (calmF_len defM_len) h) (fun cdv A outer s H vs Q E hr h => ?_)
  refine ⟨_, (pss_one (ps_ret (pe_and (pe_callB (r := rIsiT K) call_isiT (by rfl) T.b_isinstance (by decide +kernel) (pa_cons (pv 0) (pa_cons (pe_tup (pa_cons (pe_bltn (v := .ty "list") (by rfl) T.b_list (by decide +kernel) rfl) (pa_cons (pe_bltn (v := .ty "tuple") (by rfl) T.b_tuple (by decide +kernel) rfl) pa_nil))) pa_nil))) (pe_one (pe_call (G_is_whole) (hr.mono (by decide)) rfl T.g_is_whole T.f_is_whole.kp T.bd_is_whole .nil pass0 (pa_cons (pe_callB (r := rLenA K) call_lenA (by rfl) T.b_len (by decide +kernel) (pa_cons (pv 0) pa_nil)) (pa_cons (pv 1) (pa_cons (pv 2) pa_nil)))))))), ?_⟩
  refine def_ok0 (N := ["thing", "low", "high"]) rfl ?_ h
  exact (rs_ret (re_and (re_isiT .list .tuple re_var) (re_call0 (ra_cons (re_cb (ra_cons re_var ra_nil) k_len) (ra_cons re_var (ra_cons re_var ra_nil))) (fun _ => .nil))))
theorem oks__text_of (T : Txt K mg AD FD TK) : ∀ n : Nat, (FnOk P w K mg base (CX P w) (n + 2) (AD "_text_of") (FD "_text_of") ["data", "deep"] (spM (md K AD) (m__text_of n))) := by
  intro n
  induction n with
  | zero => exact fnOk_nil
  | succ n ih =>
    have H__text_of := ih
    skip
    · have G__text_of := H__text_of
      have G_is_name : FnOk P w K mg base CX0 _ _ _ _ _ := ok_is_name T
      have G_is_sequence : FnOk P w K mg base CX0 _ _ _ _ _ := ok_is_sequence T
      obtain ⟨ds_is_sequence_2, dv_is_sequence_2, bd_is_sequence_2⟩ := T.bd_is_sequence_2
      have G_is_whole : FnOk P w K mg base CX0 _ _ _ _ _ := ok_is_whole T
      refine T.f__text_of.okX sc__text_of (fun vs H Q E h => spM_len (defM_len) h) (fun cdv A outer s H vs Q E hr h => ?_)
      refine ⟨_, (pss_cons (ps_if (pt_val (pe_call (G_is_whole) (hr.mono (by omega)) rfl T.g_is_whole T.f_is_whole.kp T.bd_is_whole .nil pass0 (pa_cons (pv 0) (pa_cons (pe_un un_neg (pe_glob (v := .int 9999999999999999999999999999999999999999999999999999999999999999999999999999999999999999999999999999999999999999999999999999999999999999999999999999999999999999999999999999999999999999999999999999999999999999999999999999999999999999999999999999999999999999999999999999999999999999999999999999999999999999999999999999999999999999999999999999999999999999999999999999999999999999999999999999999999999999) rfl T.g_GREATEST_INTEGER ⟨_, rfl⟩)) (pa_cons (pe_glob (v := .int 9999999999999999999999999999999999999999999999999999999999999999999999999999999999999999999999999999999999999999999999999999999999999999999999999999999999999999999999999999999999999999999999999999999999999999999999999999999999999999999999999999999999999999999999999999999999999999999999999999999999999999999999999999999999999999999999999999999999999999999999999999999999999999999999999999999999999999) rfl T.g_GREATEST_INTEGER ⟨_, rfl⟩) pa_nil))))) (pss_one (ps_ret (pe_callTy call_strI (by rfl) T.b_str (by decide +kernel) (pa_cons (pv 0) pa_nil)))) pss_nil)
        (pss_cons (ps_if (pt_val (pe_call (G_is_name) (hr.mono (by omega)) rfl T.g_is_name T.f_is_name.kp T.bd_is_name .nil pass0 (pa_cons (pv 0) pa_nil))) (pss_one (ps_ret (pv 0))) pss_nil)
        (pss_cons (ps_if (PW.pt (pw_or (pt_not (pt_val (pe_call (G_is_sequence) (hr.mono (by omega)) rfl T.g_is_sequence T.f_is_sequence.kp bd_is_sequence_2 dv_is_sequence_2 pass0 (pa_cons (pv 0) pa_nil)))) (pw_or1 (pt_cmpR op_gt (pv 1) (pe_glob (v := .int 40) rfl T.g_DEEPEST_TUPLE ⟨_, rfl⟩) (nomark _))))) (pss_one (ps_raise rfl (takes_of rfl rfl rfl rfl) (pmk_own0 PySem.F.excBase_ValueError T.x_BadData T.g_BadData T.k_BadData (raises_own T.s_BadData T.t_BadData) rfl))) pss_nil)
        (pss_one (ps_ret (pe_op (r := rAddA K) op_addA (pe_op (r := rAddA K) op_addA pe_str (pe_joinA pe_str (pe_lcX (own := [("item", 2)]) rfl sc__text_of.nd rfl rfl (takes_of rfl rfl rfl rfl) (pi_seq (pv 0)) (blkOk_by (own := [("item", 2)]) (N := ["data", "deep", "item"]) (sc := defScope s__text_of) (by decide +kernel)) (fun _ _ _ _ _ => (pg_name (i := 2) sc__text_of.nd rfl (by first | exact Or.inl rfl | exact Or.inr rfl))) (fun _ _ _ _ _ => pts_nil) (fun _ _ _ _ _ xe px => (pe_call (G__text_of) (hr.mono (by omega)) rfl T.g__text_of T.f__text_of.kp T.bd__text_of .nil px (pa_cons (pv 2) (pa_cons (pe_op (r := rAddA K) op_addA (pv 1) pe_int) pa_nil))))))) pe_str)))))), ?_⟩
      refine def_ok (N := ["data", "deep", "item"]) rfl ?_ h
      exact (rs_seq (rs_if (rt_B (re_call0 (ra_cons re_var (ra_cons (re_neg re_int) (ra_cons re_int ra_nil))) (fun _ => .nil))) (rs_ret (re_cb (ra_cons re_var ra_nil) k_str)) rs_next)
        (rs_seq (rs_if (rt_B (re_call0 (ra_cons re_var ra_nil) (fun _ => .nil))) (rs_ret re_var) rs_next)
        (rs_seq (rs_if (rt_or (rt_not (rt_B (re_call0 (ra_cons re_var ra_nil) (fun _ => (.cons (.int _) (.cons .non .nil)))))) (rt_test (re_op re_var re_int k_gt))) (rs_raise0 rfl) rs_next)
        (rs_ret (re_op (re_op re_str (re_join re_str (re_lc (ri_seq re_var) (rn_name (by decide)) rt_yes (re_call (ra_cons re_var (ra_cons (re_op re_var re_int k_add) ra_nil)) (fun _ => .nil)) (fun _ _ _ _ _ z => z))) k_add) re_str k_add)))))
theorem ok__text_of (T : Txt K mg AD FD TK) (n : Nat) : FnOk P w K mg base (CX P w) (n + 2) (AD "_text_of") (FD "_text_of") ["data", "deep"] (spM (md K AD) (m__text_of n)) := oks__text_of T n
theorem ok_data_text (T : Txt K mg AD FD TK) : FnOk P w K mg base (CX P w) 93 (AD "data_text") (FD "data_text") ["data"] (spM (md K AD) m_data_text) := by
  have G__text_of : FnOk P w K mg base (CX P w) _ _ _ _ _ := ok__text_of T 90
  refine T.f_data_text.okX sc_data_text (fun vs H Q E h => spM_len (defM_len) h) (fun cdv A outer s H vs Q E hr h => ?_)
  refine ⟨_, (pss_one (ps_ret (pe_call (G__text_of) (hr.mono (by decide)) rfl T.g__text_of T.f__text_of.kp T.bd__text_of .nil (passes_call (takes_of rfl rfl rfl rfl) (fun _ _ _ _ h => h)) (pa_cons (pv 0) (pa_cons pe_int pa_nil))))), ?_⟩
  refine def_ok (N := ["data"]) rfl ?_ h
  exact (rs_ret (re_call (ra_cons re_var (ra_cons re_int ra_nil)) (fun _ => .nil)))
theorem ok__law_refused (T : Txt K mg AD FD TK) : FnOk P w K mg base CX0 94 (AD "_law_refused") (FD "_law_refused") ["data"] (spM (md K AD) m__law_refused) := by
  have G_data_text : FnOk P w K mg base (CX P w) _ _ _ _ _ := ok_data_text T
  refine T.f__law_refused.ok sc__law_refused (fun vs H Q E h => spM_len (calmF_len defM_len) h) (fun cdv A outer s H vs Q E hr h => ?_)
  refine ⟨_, (pss_cons (ps_try_only rfl rfl ⟨rfl, by decide, .inl T.g_BadData⟩ takes0 (fun W pn xe tk pe => (pss_one (ps_expr (pe_callS (G_data_text) (hr.mono (by decide)) rfl T.g_data_text T.f_data_text.kp T.bd_data_text (fun σ => passAt tk σ) (pa_cons (pv 0) pa_nil))))) (fun a oe cls d pn hz hf => (pss_one (ps_ret pe_bl))))
    (pss_one (ps_ret pe_bl))), ?_⟩
  refine def_ok0 (N := ["data"]) rfl ?_ h
  exact (rs_seq (rs_try (fun _ => (rs_drop (re_callS (ra_cons re_var ra_nil)))) (sub_one T.e_BadData) (fun _ _ c xs => (rs_ret re_bl)))
    (rs_ret re_bl))
theorem oks__law_firm (T : Txt K mg AD FD TK) : ∀ n : Nat, (FnOk P w K mg base CX0 (n + 1) (AD "_law_firm") (FD "_law_firm") ["data"] (spM (md K AD) (m__law_firm n))) := by
  intro n
  induction n with
  | zero => exact fnOk_nil
  | succ n ih =>
    have H__law_firm := ih
    skip
    · have G__law_firm := fnOk_calm H__law_firm
      refine T.f__law_firm.ok sc__law_firm (fun vs H Q E h => spM_len (calmF_len defM_len) h) (fun cdv A outer s H vs Q E hr h => ?_)
      refine ⟨_, (pss_cons (ps_if (pt_val (pe_callB (r := rIsiT K) call_isiT (by rfl) T.b_isinstance (by decide +kernel) (pa_cons (pv 0) (pa_cons (pe_tup (pa_cons (pe_bltn (v := .ty "list") (by rfl) T.b_list (by decide +kernel) rfl) (pa_cons (pe_bltn (v := .ty "tuple") (by rfl) T.b_tuple (by decide +kernel) rfl) pa_nil))) pa_nil)))) (pss_one (ps_ret (pe_callTy (r := rTupO K) call_tupO (by rfl) T.b_tuple (by decide +kernel) (pa_cons (pe_lc (own := [("part", 1)]) rfl sc__law_firm.nd (pi_seq (pv 0)) (blkOk_by (own := [("part", 1)]) (N := ["data", "part"]) (sc := defScope s__law_firm) (by decide +kernel)) (fun _ _ _ _ _ => (pg_name (i := 1) sc__law_firm.nd rfl (by first | exact Or.inl rfl | exact Or.inr rfl))) (fun _ _ _ _ _ => pts_nil) (fun _ _ _ _ _ => (pe_call (G__law_firm) (hr.mono (by omega)) rfl T.g__law_firm T.f__law_firm.kp T.bd__law_firm .nil pass0 (pa_cons (pv 1) pa_nil)))) pa_nil)))) pss_nil)
        (pss_one (ps_ret (pv 0)))), ?_⟩
      refine def_ok0 (N := ["data", "part"]) rfl ?_ h
      exact (rs_seq (rs_if (rt_B (re_isiT .list .tuple re_var)) (rs_ret (re_cb (ra_cons (re_lc (ri_seq re_var) (rn_name (by decide)) rt_yes (re_call0 (ra_cons re_var ra_nil) (fun _ => .nil)) (fun _ _ _ _ _ z => z)) ra_nil) k_tuple)) rs_next)
        (rs_ret re_var))
theorem ok__law_firm (T : Txt K mg AD FD TK) (n : Nat) : FnOk P w K mg base CX0 (n + 1) (AD "_law_firm") (FD "_law_firm") ["data"] (spM (md K AD) (m__law_firm n)) := oks__law_firm T n
theorem oks__law_same (T : Txt K mg AD FD TK) : ∀ n : Nat, (FnOk P w K mg base CX0 (n + 1) (AD "_law_same") (FD "_law_same") ["one", "other"] (spM (md K AD) (m__law_same n))) := by
  intro n
  induction n with
  | zero => exact fnOk_nil
  | succ n ih =>
    have H__law_same := ih
    skip
    · have G__law_same := fnOk_calm H__law_same
      refine T.f__law_same.ok sc__law_same (fun vs H Q E h => spM_len (calmF_len defM_len) h) (fun cdv A outer s H vs Q E hr h => ?_)
      refine ⟨_, (pss_cons (ps_if (PW.pt (pw_or (pt_val (pe_callB (r := rIsi K) call_isi (by rfl) T.b_isinstance (by decide +kernel) (pa_cons (pv 0) (pa_cons (pe_bltn (v := .ty "tuple") (by rfl) T.b_tuple (by decide +kernel) rfl) pa_nil)))) (pw_or1 (pt_val (pe_callB (r := rIsi K) call_isi (by rfl) T.b_isinstance (by decide +kernel) (pa_cons (pv 1) (pa_cons (pe_bltn (v := .ty "tuple") (by rfl) T.b_tuple (by decide +kernel) rfl) pa_nil))))))) (pss_cons (ps_if (PW.pt (pw_or (pt_not (pt_val (pe_callB (r := rIsi K) call_isi (by rfl) T.b_isinstance (by decide +kernel) (pa_cons (pv 0) (pa_cons (pe_bltn (v := .ty "tuple") (by rfl) T.b_tuple (by decide +kernel) rfl) pa_nil))))) (pw_or (pt_not (pt_val (pe_callB (r := rIsi K) call_isi (by rfl) T.b_isinstance (by decide +kernel) (pa_cons (pv 1) (pa_cons (pe_bltn (v := .ty "tuple") (by rfl) T.b_tuple (by decide +kernel) rfl) pa_nil))))) (pw_or1 (pt_cmpR (r := rNeA K) (op_neA (by exact hr.units)) (pe_callB (r := rLenA K) call_lenA (by rfl) T.b_len (by decide +kernel) (pa_cons (pv 0) pa_nil)) (pe_callB (r := rLenA K) call_lenA (by rfl) T.b_len (by decide +kernel) (pa_cons (pv 1) pa_nil)) (nomark _)))))) (pss_one (ps_ret pe_bl)) pss_nil)
        (pss_one (ps_ret (pe_callB (r := rAll K) (cr_all rfl) (by rfl) T.b_all (by decide +kernel) (pa_cons (pe_lc (own := [("k", 2)]) rfl sc__law_same.nd (pi_range1 (by rfl) T.b_range (pa_cons (pe_callB (r := rLenA K) call_lenA (by rfl) T.b_len (by decide +kernel) (pa_cons (pv 0) pa_nil)) pa_nil)) (blkOk_by (own := [("k", 2)]) (N := ["one", "other", "k"]) (sc := defScope s__law_same) (by decide +kernel)) (fun _ _ _ _ _ => (pg_name (i := 2) sc__law_same.nd rfl (by first | exact Or.inl rfl | exact Or.inr rfl))) (fun _ _ _ _ _ => pts_nil) (fun _ _ _ _ _ => (pe_call (G__law_same) (hr.mono (by omega)) rfl T.g__law_same T.f__law_same.kp T.bd__law_same .nil pass0 (pa_cons (pe_ix (r := rIx K) ix_seq (pv 0) (pv 2) (fun _ _ => rfl)) (pa_cons (pe_ix (r := rIx K) ix_seq (pv 1) (pv 2) (fun _ _ => rfl)) pa_nil))))) pa_nil))))) pss_nil)
        (pss_cons (ps_if (PW.pt (pw_or (pt_val (pe_callB (r := rIsi K) call_isi (by rfl) T.b_isinstance (by decide +kernel) (pa_cons (pv 0) (pa_cons (pe_bltn (v := .ty "bool") (by rfl) T.b_bool (by decide +kernel) rfl) pa_nil)))) (pw_or1 (pt_val (pe_callB (r := rIsi K) call_isi (by rfl) T.b_isinstance (by decide +kernel) (pa_cons (pv 1) (pa_cons (pe_bltn (v := .ty "bool") (by rfl) T.b_bool (by decide +kernel) rfl) pa_nil))))))) (pss_one (ps_ret pe_bl)) pss_nil)
        (pss_one (ps_ret (pe_and (pe_cmpR (r := rEqA K) (op_eqA (by exact hr.units)) (pe_callB (r := rIsi K) call_isi (by rfl) T.b_isinstance (by decide +kernel) (pa_cons (pv 0) (pa_cons (pe_bltn (v := .ty "str") (by rfl) T.b_str (by decide +kernel) rfl) pa_nil))) (pe_callB (r := rIsi K) call_isi (by rfl) T.b_isinstance (by decide +kernel) (pa_cons (pv 1) (pa_cons (pe_bltn (v := .ty "str") (by rfl) T.b_str (by decide +kernel) rfl) pa_nil))) (nomark _)) (pe_one (pe_cmpR (r := rEqA K) (op_eqA (by exact hr.units)) (pv 0) (pv 1) (nomark _)))))))), ?_⟩
      refine def_ok0 (N := ["one", "other", "k"]) rfl ?_ h
      exact (rs_seq (rs_if (rt_or (rt_B (re_isi .tuple re_var)) (rt_B (re_isi .tuple re_var))) (rs_seq (rs_if (rt_or (rt_not (rt_B (re_isi .tuple re_var))) (rt_or (rt_not (rt_B (re_isi .tuple re_var))) (rt_test (re_op (re_cb (ra_cons re_var ra_nil) k_len) (re_cb (ra_cons re_var ra_nil) k_len) k_neA)))) (rs_ret re_bl) rs_next)
        (rs_ret (re_cb (ra_cons (re_lc (ri_rng1 (ra_cons (re_cb (ra_cons re_var ra_nil) k_len) ra_nil)) (rn_name (by decide)) rt_yes (re_call0 (ra_cons (re_op re_var re_var k_ix) (ra_cons (re_op re_var re_var k_ix) ra_nil)) (fun _ => .nil)) (fun _ _ _ _ _ z => z)) ra_nil) k_all))) rs_next)
        (rs_seq (rs_if (rt_or (rt_B (re_isi .bool re_var)) (rt_B (re_isi .bool re_var))) (rs_ret re_bl) rs_next)
        (rs_ret (re_and (re_op (re_isi .str re_var) (re_isi .str re_var) k_eqA) (re_op re_var re_var k_eqA)))))
theorem ok__law_same (T : Txt K mg AD FD TK) (n : Nat) : FnOk P w K mg base CX0 (n + 1) (AD "_law_same") (FD "_law_same") ["one", "other"] (spM (md K AD) (m__law_same n)) := oks__law_same T n
theorem oks__law_text (T : Txt K mg AD FD TK) : ∀ n : Nat, (FnOk P w K mg base CX0 (n + 1) (AD "_law_text") (FD "_law_text") ["data"] (spM (md K AD) (m__law_text n))) := by
  intro n
  induction n with
  | zero => exact fnOk_nil
  | succ n ih =>
    have H__law_text := ih
    skip
    · have G__law_text := fnOk_calm H__law_text
      refine T.f__law_text.ok sc__law_text (fun vs H Q E h => spM_len (calmF_len defM_len) h) (fun cdv A outer s H vs Q E hr h => ?_)
      refine ⟨_, (pss_cons (ps_if (pt_val (pe_callB (r := rIsi K) call_isi (by rfl) T.b_isinstance (by decide +kernel) (pa_cons (pv 0) (pa_cons (pe_bltn (v := .ty "str") (by rfl) T.b_str (by decide +kernel) rfl) pa_nil)))) (pss_one (ps_ret (pv 0))) pss_nil)
        (pss_cons (ps_if (pt_val (pe_callB (r := rIsi K) call_isi (by rfl) T.b_isinstance (by decide +kernel) (pa_cons (pv 0) (pa_cons (pe_bltn (v := .ty "int") (by rfl) T.b_int (by decide +kernel) rfl) pa_nil)))) (pss_one (ps_ret (pe_callTy call_strI (by rfl) T.b_str (by decide +kernel) (pa_cons (pv 0) pa_nil)))) pss_nil)
        (pss_one (ps_ret (pe_op (r := rAddA K) op_addA (pe_op (r := rAddA K) op_addA pe_str (pe_joinA pe_str (pe_lc (own := [("part", 1)]) rfl sc__law_text.nd (pi_seq (pv 0)) (blkOk_by (own := [("part", 1)]) (N := ["data", "part"]) (sc := defScope s__law_text) (by decide +kernel)) (fun _ _ _ _ _ => (pg_name (i := 1) sc__law_text.nd rfl (by first | exact Or.inl rfl | exact Or.inr rfl))) (fun _ _ _ _ _ => pts_nil) (fun _ _ _ _ _ => (pe_call (G__law_text) (hr.mono (by omega)) rfl T.g__law_text T.f__law_text.kp T.bd__law_text .nil pass0 (pa_cons (pv 1) pa_nil)))))) pe_str))))), ?_⟩
      refine def_ok0 (N := ["data", "part"]) rfl ?_ h
      exact (rs_seq (rs_if (rt_B (re_isi .str re_var)) (rs_ret re_var) rs_next)
        (rs_seq (rs_if (rt_B (re_isi .int re_var)) (rs_ret (re_cb (ra_cons re_var ra_nil) k_str)) rs_next)
        (rs_ret (re_op (re_op re_str (re_join re_str (re_lc (ri_seq re_var) (rn_name (by decide)) rt_yes (re_call0 (ra_cons re_var ra_nil) (fun _ => .nil)) (fun _ _ _ _ _ z => z))) k_add) re_str k_add))))
theorem ok__law_text (T : Txt K mg AD FD TK) (n : Nat) : FnOk P w K mg base CX0 (n + 1) (AD "_law_text") (FD "_law_text") ["data"] (spM (md K AD) (m__law_text n)) := oks__law_text T n
theorem ok_BadText___init__ (T : Txt K mg AD FD TK) : FnOk P w K mg base CX0 1 (AD "BadText.__init__") (FD "BadText.__init__") ["self", "place"] (spIni (AD "BadText") ["place"]) := by
  refine T.f_BadText___init__.ok sc_BadText___init__ (fun vs H Q E h => spIni_len h) (fun cdv A outer s H vs Q E hr h => ?_)
  obtain ⟨a, ws, rfl, hl, ha, k⟩ := h
  obtain ⟨v0, rfl⟩ : ∃ v0, ws = [v0] := by
    match ws, hl with
    | [v0], _ => exact ⟨v0, rfl⟩
  refine ⟨_, (pss_one (ps_ost (pv 0) (pv 1))), ?_⟩
  exact ⟨v0, rfl, .ref a, rfl, a, AD "BadText", rfl, T.o_BadText, T.n_BadText_place, .inl ⟨ha, fun dx h1 h2 => k dx h1 h2⟩⟩
theorem ok__run_end (T : Txt K mg AD FD TK) : FnOk P w K mg base CX0 1 (AD "_run_end") (FD "_run_end") ["text", "at", "signs", "most"] (spM (md K AD) m__run_end) := by
  refine T.f__run_end.ok sc__run_end (fun vs H Q E h => spM_len (calmF_len defM_len) h) (fun cdv A outer s H vs Q E hr h => ?_)
  refine ⟨_, (pss_cons (ps_set (i := 4) sc__run_end.nd rfl (by first | exact Or.inl rfl | exact Or.inr rfl) (pv 1))
    (pss_cons (ps_while PassesOwn.never (PW.pt (pw_and (pt_cmpR op_lt (pv 4) (pe_callB (r := rLenA K) call_lenA (by rfl) T.b_len (by decide +kernel) (pa_cons (pv 0) pa_nil)) (nomark _)) (pw_and (pt_cmpR op_lt (pe_op op_sub (pv 4) (pv 1)) (pv 3) (nomark _)) (pw_and1 (pt_cmpR op_inS (pe_ix (r := rIx K) ix_seq (pv 0) (pv 4) (fun _ _ => rfl)) (pv 2) rfl))))) (pss_one (ps_aug (i := 4) sc__run_end.nd rfl (Or.inl rfl) pe_int ip_add)))
    (pss_one (ps_ret (pv 4))))), ?_⟩
  refine def_ok0 (N := ["text", "at", "signs", "most", "end"]) rfl ?_ h
  exact (rs_seq (rs_set re_var)
    (rs_seq (rs_while 1000000 (rt_and (rt_test (re_op re_var (re_cb (ra_cons re_var ra_nil) k_len) k_lt)) (rt_and (rt_test (re_op (re_op re_var re_var k_sub) re_var k_lt)) (rt_test (re_op (re_op re_var re_var k_ix) re_var k_inS)))) (RS.scope (rs_aug re_int k_ipI)))
    (rs_ret re_var)))
theorem ok__sign_at (T : Txt K mg AD FD TK) : FnOk P w K mg base (CX P w) 3 (AD "_sign_at") (FD "_sign_at") ["text", "at"] (spM (md K AD) m__sign_at) := by
  have G_BadText___init__ : FnOk P w K mg base CX0 _ _ _ _ _ := ok_BadText___init__ T
  refine T.f__sign_at.okX sc__sign_at (fun vs H Q E h => spM_len (defM_len) h) (fun cdv A outer s H vs Q E hr h => ?_)
  refine ⟨_, (pss_cons (ps_if (pt_cmpR op_ge (pv 1) (pe_callB (r := rLenA K) call_lenA (by rfl) T.b_len (by decide +kernel) (pa_cons (pv 0) pa_nil)) (nomark _)) (pss_one (ps_raise rfl (takes_of rfl rfl rfl rfl) (pmk_oex T.o_BadText T.i_BadText T.ti_BadText (G_BadText___init__) (hr.mono (by decide)) T.bd_BadText___init__ .nil pass0 rfl T.g_BadText (pa_cons (pv 1) pa_nil)))) pss_nil)
    (pss_one (ps_ret (pe_ix (r := rIx K) ix_seq (pv 0) (pv 1) (fun _ _ => rfl))))), ?_⟩
  refine def_ok (N := ["text", "at"]) rfl ?_ h
  exact (rs_seq (rs_if (rt_test (re_op re_var (re_cb (ra_cons re_var ra_nil) k_len) k_ge)) (rs_raise (ra_cons re_var ra_nil) rfl (by decide) (by decide)) rs_next)
    (rs_ret (re_op re_var re_var k_ix)))
theorem ok__read_integer (T : Txt K mg AD FD TK) : FnOk P w K mg base (CX P w) 4 (AD "_read_integer") (FD "_read_integer") ["text", "at"] (spM (md K AD) m__read_integer) := by
  have G_BadText___init__ : FnOk P w K mg base CX0 _ _ _ _ _ := ok_BadText___init__ T
  have G__run_end : FnOk P w K mg base CX0 _ _ _ _ _ := ok__run_end T
  have G__sign_at : FnOk P w K mg base (CX P w) _ _ _ _ _ := ok__sign_at T
  refine T.f__read_integer.okX sc__read_integer (fun vs H Q E h => spM_len (defM_len) h) (fun cdv A outer s H vs Q E hr h => ?_)
  refine ⟨_, (pss_cons (ps_if (pt_cmpR (r := rEqA K) (op_eqA (by exact hr.units)) (pe_ix (r := rIx K) ix_seq (pv 0) (pv 1) (fun _ _ => rfl)) pe_str (nomark _)) (pss_one (ps_ret (pe_tup (pa_cons pe_int (pa_cons (pe_op (r := rAddA K) op_addA (pv 1) pe_int) pa_nil))))) pss_nil)
    (pss_cons (ps_set (i := 2) sc__read_integer.nd rfl (by first | exact Or.inl rfl | exact Or.inr rfl) (pe_ifExp (pt_cmpR (r := rEqA K) (op_eqA (by exact hr.units)) (pe_ix (r := rIx K) ix_seq (pv 0) (pv 1) (fun _ _ => rfl)) pe_str (nomark _)) (pe_op (r := rAddA K) op_addA (pv 1) pe_int) (pv 1)))
    (pss_cons (ps_if (PW.pt (pw_or (pt_cmpR op_notInS (pe_call (G__sign_at) (hr.mono (by decide)) rfl T.g__sign_at T.f__sign_at.kp T.bd__sign_at .nil (passes_call (takes_of rfl rfl rfl rfl) (fun _ _ _ _ h => h)) (pa_cons (pv 0) (pa_cons (pv 2) pa_nil))) (pe_glob (v := .str "0123456789") rfl T.g_FIGURES ⟨_, rfl⟩) rfl) (pw_or1 (pt_cmpR (r := rEqA K) (op_eqA (by exact hr.units)) (pe_ix (r := rIx K) ix_seq (pv 0) (pv 2) (fun _ _ => rfl)) pe_str (nomark _))))) (pss_one (ps_raise rfl (takes_of rfl rfl rfl rfl) (pmk_oex T.o_BadText T.i_BadText T.ti_BadText (G_BadText___init__) (hr.mono (by decide)) T.bd_BadText___init__ .nil pass0 rfl T.g_BadText (pa_cons (pv 2) pa_nil)))) pss_nil)
    (pss_cons (ps_set (i := 3) sc__read_integer.nd rfl (by first | exact Or.inl rfl | exact Or.inr rfl) (pe_call (G__run_end) (hr.mono (by decide)) rfl T.g__run_end T.f__run_end.kp T.bd__run_end .nil pass0 (pa_cons (pv 0) (pa_cons (pv 2) (pa_cons (pe_glob (v := .str "0123456789") rfl T.g_FIGURES ⟨_, rfl⟩) (pa_cons (pe_glob (v := .int 400) rfl T.g_MOST_FIGURES ⟨_, rfl⟩) pa_nil))))))
    (pss_one (ps_ret (pe_tup (pa_cons (pe_callTy (r := rIntX) call_intX (by rfl) T.b_int (by decide +kernel) (pa_cons (pe_slice (r := rSlX K) sl_any (pv 0) (po_some (pv 1)) (po_some (pv 3))) pa_nil)) (pa_cons (pv 3) pa_nil))))))))), ?_⟩
  refine def_ok (N := ["text", "at", "first", "end"]) rfl ?_ h
  exact (rs_seq (rs_if (rt_test (re_op (re_op re_var re_var k_ix) re_str k_eqA)) (rs_ret (re_tup (ra_cons re_int (ra_cons (re_op re_var re_int k_add) ra_nil)))) rs_next)
    (rs_seq (rs_set (re_if (rt_test (re_op (re_op re_var re_var k_ix) re_str k_eqA)) (re_op re_var re_int k_add) re_var))
    (rs_seq (rs_if (rt_or (rt_test (re_op (re_call (ra_cons re_var (ra_cons re_var ra_nil)) (fun _ => .nil)) re_str k_notInS)) (rt_test (re_op (re_op re_var re_var k_ix) re_str k_eqA))) (rs_raise (ra_cons re_var ra_nil) rfl (by decide) (by decide)) rs_next)
    (rs_seq (rs_set (re_call0 (ra_cons re_var (ra_cons re_var (ra_cons re_str (ra_cons re_int ra_nil)))) (fun _ => .nil)))
    (rs_ret (re_tup (ra_cons (re_cb (ra_cons (re_sl re_var (ro_part re_var) (ro_part re_var)) ra_nil) k_intX) (ra_cons re_var ra_nil))))))))
theorem oks__read_item (T : Txt K mg AD FD TK) : ∀ n : Nat, (FnOk P w K mg base (CX P w) (n + 4) (AD "_read_item") (FD "_read_item") ["text", "at", "deep"] (spM (md K AD) (m__read_item n))) ∧ (FnOk P w K mg base (CX P w) (n + 4) (AD "_read_tuple") (FD "_read_tuple") ["text", "at", "deep"] (spM (md K AD) (m__read_tuple n))) := by
  intro n
  induction n with
  | zero => exact ⟨fnOk_nil, fnOk_nil⟩
  | succ n ih =>
    obtain ⟨H__read_item, H__read_tuple⟩ := ih
    refine ⟨?_, ?_⟩
    · have G_BadText___init__ : FnOk P w K mg base CX0 _ _ _ _ _ := ok_BadText___init__ T
      have G__read_integer : FnOk P w K mg base (CX P w) _ _ _ _ _ := ok__read_integer T
      have G__read_tuple := H__read_tuple
      have G__run_end : FnOk P w K mg base CX0 _ _ _ _ _ := ok__run_end T
      have G__sign_at : FnOk P w K mg base (CX P w) _ _ _ _ _ := ok__sign_at T
      refine T.f__read_item.okX sc__read_item (fun vs H Q E h => spM_len (defM_len) h) (fun cdv A outer s H vs Q E hr h => ?_)
      refine ⟨_, (pss_cons (ps_set (i := 3) sc__read_item.nd rfl (by first | exact Or.inl rfl | exact Or.inr rfl) (pe_call (G__sign_at) (hr.mono (by omega)) rfl T.g__sign_at T.f__sign_at.kp T.bd__sign_at .nil (passes_call (takes_of rfl rfl rfl rfl) (fun _ _ _ _ h => h)) (pa_cons (pv 0) (pa_cons (pv 1) pa_nil))))
        (pss_cons (ps_if (pt_cmpR (r := rEqA K) (op_eqA (by exact hr.units)) (pv 3) pe_str (nomark _)) (pss_cons (ps_if (pt_cmpR op_gt (pv 2) (pe_glob (v := .int 40) rfl T.g_DEEPEST_TUPLE ⟨_, rfl⟩) (nomark _)) (pss_one (ps_raise rfl (takes_of rfl rfl rfl rfl) (pmk_oex T.o_BadText T.i_BadText T.ti_BadText (G_BadText___init__) (hr.mono (by omega)) T.bd_BadText___init__ .nil pass0 rfl T.g_BadText (pa_cons (pv 1) pa_nil)))) pss_nil)
        (pss_one (ps_ret (pe_call (G__read_tuple) (hr.mono (by omega)) rfl T.g__read_tuple T.f__read_tuple.kp T.bd__read_tuple .nil (passes_call (takes_of rfl rfl rfl rfl) (fun _ _ _ _ h => h)) (pa_cons (pv 0) (pa_cons (pe_op (r := rAddA K) op_addA (pv 1) pe_int) (pa_cons (pv 2) pa_nil))))))) pss_nil)
        (pss_cons (ps_if (pt_cmpR op_inS (pv 3) (pe_glob (v := .str "abcdefghijklmnopqrstuvwxyz") rfl T.g_LETTERS ⟨_, rfl⟩) rfl) (pss_cons (ps_set (i := 4) sc__read_item.nd rfl (by first | exact Or.inl rfl | exact Or.inr rfl) (pe_call (G__run_end) (hr.mono (by omega)) rfl T.g__run_end T.f__run_end.kp T.bd__run_end .nil pass0 (pa_cons (pv 0) (pa_cons (pv 1) (pa_cons (pe_glob (v := .str "abcdefghijklmnopqrstuvwxyz") rfl T.g_LETTERS ⟨_, rfl⟩) (pa_cons (pe_glob (v := .int 12) rfl T.g_LONGEST_NAME ⟨_, rfl⟩) pa_nil))))))
        (pss_one (ps_ret (pe_tup (pa_cons (pe_slice (r := rSlX K) sl_any (pv 0) (po_some (pv 1)) (po_some (pv 4))) (pa_cons (pv 4) pa_nil)))))) pss_nil)
        (pss_one (ps_ret (pe_call (G__read_integer) (hr.mono (by omega)) rfl T.g__read_integer T.f__read_integer.kp T.bd__read_integer .nil (passes_call (takes_of rfl rfl rfl rfl) (fun _ _ _ _ h => h)) (pa_cons (pv 0) (pa_cons (pv 1) pa_nil)))))))), ?_⟩
      refine def_ok (N := ["text", "at", "deep", "sign", "end"]) rfl ?_ h
      exact (rs_seq (rs_set (re_call (ra_cons re_var (ra_cons re_var ra_nil)) (fun _ => .nil)))
        (rs_seq (rs_if (rt_test (re_op re_var re_str k_eqA)) (rs_seq (rs_if (rt_test (re_op re_var re_int k_gt)) (rs_raise (ra_cons re_var ra_nil) rfl (by decide) (by decide)) rs_next)
        (rs_ret (re_call (ra_cons re_var (ra_cons (re_op re_var re_int k_add) (ra_cons re_var ra_nil))) (fun _ => .nil)))) rs_next)
        (rs_seq (rs_if (rt_test (re_op re_var re_str k_inS)) (rs_seq (rs_set (re_call0 (ra_cons re_var (ra_cons re_var (ra_cons re_str (ra_cons re_int ra_nil)))) (fun _ => .nil)))
        (rs_ret (re_tup (ra_cons (re_sl re_var (ro_part re_var) (ro_part re_var)) (ra_cons re_var ra_nil))))) rs_next)
        (rs_ret (re_call (ra_cons re_var (ra_cons re_var ra_nil)) (fun _ => .nil))))))
    · have G_BadText___init__ : FnOk P w K mg base CX0 _ _ _ _ _ := ok_BadText___init__ T
      have G__read_item := H__read_item
      have G__sign_at : FnOk P w K mg base (CX P w) _ _ _ _ _ := ok__sign_at T
      refine T.f__read_tuple.okX sc__read_tuple (fun vs H Q E h => spM_len (defM_len) h) (fun cdv A outer s H vs Q E hr h => ?_)
      refine ⟨_, (pss_cons (ps_if (pt_cmpR (r := rEqA K) (op_eqA (by exact hr.units)) (pe_call (G__sign_at) (hr.mono (by omega)) rfl T.g__sign_at T.f__sign_at.kp T.bd__sign_at .nil (passes_call (takes_of rfl rfl rfl rfl) (fun _ _ _ _ h => h)) (pa_cons (pv 0) (pa_cons (pv 1) pa_nil))) pe_str (nomark _)) (pss_one (ps_ret (pe_tup (pa_cons (pe_tup pa_nil) (pa_cons (pe_op (r := rAddA K) op_addA (pv 1) pe_int) pa_nil))))) pss_nil)
        (pss_cons (ps_set (i := 3) sc__read_tuple.nd rfl (by first | exact Or.inl rfl | exact Or.inr rfl) (pe_lst pa_nil))
        (pss_one (ps_while (passes_of rfl) (pt_val pe_bl) (pss_cons (ps_asg (pe_call (G__read_item) (hr.mono (by omega)) rfl T.g__read_item T.f__read_item.kp T.bd__read_item .nil (passes_call (takes_of rfl rfl rfl rfl) (fun _ _ _ _ h => h)) (pa_cons (pv 0) (pa_cons (pv 1) (pa_cons (pe_op (r := rAddA K) op_addA (pv 2) pe_int) pa_nil)))) (pg_tup rfl (pgs_cons (pg_name (i := 4) sc__read_tuple.nd rfl (by first | exact Or.inl rfl | exact Or.inr rfl)) (pgs_cons (pg_name (i := 1) sc__read_tuple.nd rfl (by first | exact Or.inl rfl | exact Or.inr rfl)) pgs_nil))))
        (pss_cons (ps_expr (pe_bm PySem.F.plainAttrs_list PySem.F.slot_list_append PySem.F.type_list_append mt_append (pv 3) (pa_cons (pv 4) pa_nil)))
        (pss_cons (ps_set (i := 5) sc__read_tuple.nd rfl (by first | exact Or.inl rfl | exact Or.inr rfl) (pe_call (G__sign_at) (hr.mono (by omega)) rfl T.g__sign_at T.f__sign_at.kp T.bd__sign_at .nil (passes_call (takes_of rfl rfl rfl rfl) (fun _ _ _ _ h => h)) (pa_cons (pv 0) (pa_cons (pv 1) pa_nil))))
        (pss_cons (ps_if (pt_cmpR (r := rEqA K) (op_eqA (by exact hr.units)) (pv 5) pe_str (nomark _)) (pss_one (ps_ret (pe_tup (pa_cons (pe_callTy (r := rTupO K) call_tupO (by rfl) T.b_tuple (by decide +kernel) (pa_cons (pv 3) pa_nil)) (pa_cons (pe_op (r := rAddA K) op_addA (pv 1) pe_int) pa_nil))))) pss_nil)
        (pss_cons (ps_if (pt_cmpR (r := rNeA K) (op_neA (by exact hr.units)) (pv 5) pe_str (nomark _)) (pss_one (ps_raise rfl (takes_of rfl rfl rfl rfl) (pmk_oex T.o_BadText T.i_BadText T.ti_BadText (G_BadText___init__) (hr.mono (by omega)) T.bd_BadText___init__ .nil pass0 rfl T.g_BadText (pa_cons (pv 1) pa_nil)))) pss_nil)
        (pss_one (ps_aug (i := 1) sc__read_tuple.nd rfl (Or.inl rfl) pe_int ip_add))))))))))), ?_⟩
      refine def_ok (N := ["text", "at", "deep", "items", "item", "sign"]) rfl ?_ h
      exact (rs_seq (rs_if (rt_test (re_op (re_call (ra_cons re_var (ra_cons re_var ra_nil)) (fun _ => .nil)) re_str k_eqA)) (rs_ret (re_tup (ra_cons (re_tup ra_nil) (ra_cons (re_op re_var re_int k_add) ra_nil)))) rs_next)
        (rs_seq (rs_set (re_lmu ra_nil))
        (rs_while 1000000 (rt_B re_bl) (RS.scope (rs_seq (rs_asg (re_call (ra_cons re_var (ra_cons re_var (ra_cons (re_op re_var re_int k_add) ra_nil))) (fun _ => .nil)) (rg_tup (rgs_cons rg_name (rgs_cons rg_name rgs_nil))))
        (rs_seq (rs_drop (re_app re_var re_var))
        (rs_seq (rs_set (re_call (ra_cons re_var (ra_cons re_var ra_nil)) (fun _ => .nil)))
        (rs_seq (rs_if (rt_test (re_op re_var re_str k_eqA)) (rs_ret (re_tup (ra_cons (re_cb (ra_cons re_var ra_nil) k_tuple) (ra_cons (re_op re_var re_int k_add) ra_nil)))) rs_next)
        (rs_seq (rs_if (rt_test (re_op re_var re_str k_neA)) (rs_raise (ra_cons re_var ra_nil) rfl (by decide) (by decide)) rs_next)
        (rs_aug re_int k_ipI))))))))))
theorem ok__read_item (T : Txt K mg AD FD TK) (n : Nat) : FnOk P w K mg base (CX P w) (n + 4) (AD "_read_item") (FD "_read_item") ["text", "at", "deep"] (spM (md K AD) (m__read_item n)) := (oks__read_item T n).1
theorem ok__read_tuple (T : Txt K mg AD FD TK) (n : Nat) : FnOk P w K mg base (CX P w) (n + 4) (AD "_read_tuple") (FD "_read_tuple") ["text", "at", "deep"] (spM (md K AD) (m__read_tuple n)) := (oks__read_item T n).2
theorem ok_read_data (T : Txt K mg AD FD TK) : FnOk P w K mg base (CX P w) 95 (AD "read_data") (FD "read_data") ["text"] (spM (md K AD) m_read_data) := by
  have G_BadText___init__ : FnOk P w K mg base CX0 _ _ _ _ _ := ok_BadText___init__ T
  have G__read_item : FnOk P w K mg base (CX P w) _ _ _ _ _ := ok__read_item T 90
  refine T.f_read_data.okX sc_read_data (fun vs H Q E h => spM_len (defM_len) h) (fun cdv A outer s H vs Q E hr h => ?_)
  refine ⟨_, (pss_cons (ps_if (pt_not (pt_val (pe_callB (r := rIsi K) call_isi (by rfl) T.b_isinstance (by decide +kernel) (pa_cons (pv 0) (pa_cons (pe_bltn (v := .ty "str") (by rfl) T.b_str (by decide +kernel) rfl) pa_nil))))) (pss_one (ps_raise rfl (takes_of rfl rfl rfl rfl) (pmk_oex T.o_BadText T.i_BadText T.ti_BadText (G_BadText___init__) (hr.mono (by decide)) T.bd_BadText___init__ .nil pass0 rfl T.g_BadText (pa_cons pe_int pa_nil)))) pss_nil)
    (pss_cons (ps_asg (pe_call (G__read_item) (hr.mono (by decide)) rfl T.g__read_item T.f__read_item.kp T.bd__read_item .nil (passes_call (takes_of rfl rfl rfl rfl) (fun _ _ _ _ h => h)) (pa_cons (pv 0) (pa_cons pe_int (pa_cons pe_int pa_nil)))) (pg_tup rfl (pgs_cons (pg_name (i := 1) sc_read_data.nd rfl (by first | exact Or.inl rfl | exact Or.inr rfl)) (pgs_cons (pg_name (i := 2) sc_read_data.nd rfl (by first | exact Or.inl rfl | exact Or.inr rfl)) pgs_nil))))
    (pss_cons (ps_if (pt_cmpR op_lt (pv 2) (pe_callB (r := rLenA K) call_lenA (by rfl) T.b_len (by decide +kernel) (pa_cons (pv 0) pa_nil)) (nomark _)) (pss_one (ps_raise rfl (takes_of rfl rfl rfl rfl) (pmk_oex T.o_BadText T.i_BadText T.ti_BadText (G_BadText___init__) (hr.mono (by decide)) T.bd_BadText___init__ .nil pass0 rfl T.g_BadText (pa_cons (pv 2) pa_nil)))) pss_nil)
    (pss_one (ps_ret (pv 1)))))), ?_⟩
  refine def_ok (N := ["text", "data", "at"]) rfl ?_ h
  exact (rs_seq (rs_if (rt_not (rt_B (re_isi .str re_var))) (rs_raise (ra_cons re_int ra_nil) rfl (by decide) (by decide)) rs_next)
    (rs_seq (rs_asg (re_call (ra_cons re_var (ra_cons re_int (ra_cons re_int ra_nil))) (fun _ => .nil)) (rg_tup (rgs_cons rg_name (rgs_cons rg_name rgs_nil))))
    (rs_seq (rs_if (rt_test (re_op re_var (re_cb (ra_cons re_var ra_nil) k_len) k_lt)) (rs_raise (ra_cons re_var ra_nil) rfl (by decide) (by decide)) rs_next)
    (rs_ret re_var))))
theorem ok__law_right (T : Txt K mg AD FD TK) : FnG P w K mg base (CX P w) 96 (AD "_law_right") (FD "_law_right") ["data"] (spM (md K AD) m__law_right) := by
  have G__law_firm : FnOk P w K mg base CX0 _ _ _ _ _ := fnOk_calm (ok__law_firm T 90)
  have G__law_same : FnOk P w K mg base CX0 _ _ _ _ _ := fnOk_calm (ok__law_same T 90)
  have G__law_text : FnOk P w K mg base CX0 _ _ _ _ _ := fnOk_calm (ok__law_text T 90)
  have G_data_text : FnOk P w K mg base (CX P w) _ _ _ _ _ := ok_data_text T
  have G_read_data : FnOk P w K mg base (CX P w) _ _ _ _ _ := ok_read_data T
  refine fnG_of T.f__law_right sc__law_right (fun vs H Q E h => spM_len (defM_len) h) (fun cdv A outer s H vs Q E ga hr h => ?_)
  refine ⟨_, (pss_cons (ps_set (i := 1) sc__law_right.nd rfl (by first | exact Or.inl rfl | exact Or.inr rfl) (pe_callB (r := rReprD K) (call_reprD (by exact ga) (by exact hr.units)) (by rfl) T.b_repr (by decide +kernel) (pa_cons (pv 0) pa_nil)))
    (pss_cons (ps_set (i := 2) sc__law_right.nd rfl (by first | exact Or.inl rfl | exact Or.inr rfl) (pe_call (G_data_text) (hr.mono (by decide)) rfl T.g_data_text T.f_data_text.kp T.bd_data_text .nil (passes_call (takes_of rfl rfl rfl rfl) (fun _ _ _ _ h => h)) (pa_cons (pv 0) pa_nil)))
    (pss_cons (ps_if (PW.pt (pw_or (pt_cmpR (r := rNeA K) (op_neA (by exact hr.units)) (pv 2) (pe_call (G__law_text) (hr.mono (by decide)) rfl T.g__law_text T.f__law_text.kp T.bd__law_text .nil pass0 (pa_cons (pv 0) pa_nil)) (nomark _)) (pw_or1 (pt_cmpR (r := rNeA K) (op_neA (by exact hr.units)) (pe_callB (r := rReprD K) (call_reprD (by exact ga) (by exact hr.units)) (by rfl) T.b_repr (by decide +kernel) (pa_cons (pv 0) pa_nil)) (pv 1) (nomark _))))) (pss_one (ps_ret pe_bl)) pss_nil)
    (pss_one (ps_ret (pe_call (G__law_same) (hr.mono (by decide)) rfl T.g__law_same T.f__law_same.kp T.bd__law_same .nil pass0 (pa_cons (pe_call (G_read_data) (hr.mono (by decide)) rfl T.g_read_data T.f_read_data.kp T.bd_read_data .nil (passes_call (takes_of rfl rfl rfl rfl) (fun _ _ _ _ h => h)) (pa_cons (pv 2) pa_nil)) (pa_cons (pe_call (G__law_firm) (hr.mono (by decide)) rfl T.g__law_firm T.f__law_firm.kp T.bd__law_firm .nil pass0 (pa_cons (pv 0) pa_nil)) pa_nil)))))))), ?_⟩
  refine def_ok (N := ["data", "before", "text"]) rfl ?_ h
  exact (rs_seq (rs_set (re_cb (ra_cons re_var ra_nil) k_repr))
    (rs_seq (rs_set (re_call (ra_cons re_var ra_nil) (fun _ => .nil)))
    (rs_seq (rs_if (rt_or (rt_test (re_op re_var (re_call0 (ra_cons re_var ra_nil) (fun _ => .nil)) k_neA)) (rt_test (re_op (re_cb (ra_cons re_var ra_nil) k_repr) re_var k_neA))) (rs_ret re_bl) rs_next)
    (rs_ret (re_call0 (ra_cons (re_call (ra_cons re_var ra_nil) (fun _ => .nil)) (ra_cons (re_call0 (ra_cons re_var ra_nil) (fun _ => .nil)) ra_nil)) (fun _ => .nil))))))
theorem ok_law (T : Txt K mg AD FD TK) : FnG P w K mg base (CX P w) 97 (AD "law") (FD "law") ["script"] (spM (md K AD) m_law) := by
  have G__law_around : FnOk P w K mg base CX0 _ _ _ _ _ := ok__law_around T
  have G__law_bag : FnOk P w K mg base CX0 _ _ _ _ _ := ok__law_bag T
  have G__law_data : FnOk P w K mg base CX0 _ _ _ _ _ := fnOk_calm (ok__law_data T 90)
  have G__law_draw : FnOk P w K mg base CX0 _ _ _ _ _ := ok__law_draw T
  have G__law_leaf : FnOk P w K mg base CX0 _ _ _ _ _ := ok__law_leaf T
  have G__law_name : FnOk P w K mg base CX0 _ _ _ _ _ := ok__law_name T
  have G__law_refused : FnOk P w K mg base CX0 _ _ _ _ _ := ok__law_refused T
  have G__law_right : FnG P w K mg base (CX P w) _ _ _ _ _ := ok__law_right T
  have G__law_same : FnOk P w K mg base CX0 _ _ _ _ _ := fnOk_calm (ok__law_same T 90)
  have G_read_data : FnOk P w K mg base (CX P w) _ _ _ _ _ := ok_read_data T
  refine fnG_of T.f_law sc_law (fun vs H Q E h => spM_len (defM_len) h) (fun cdv A outer s H vs Q E ga hr h => ?_)
  refine ⟨_, (pss_cons (ps_set (i := 1) sc_law.nd rfl (by first | exact Or.inl rfl | exact Or.inr rfl) (pe_call (G__law_bag) (hr.mono (by decide)) rfl T.g__law_bag T.f__law_bag.kp T.bd__law_bag .nil pass0 (pa_cons (pv 0) pa_nil)))
    (pss_cons (ps_set (i := 2) sc_law.nd rfl (by first | exact Or.inl rfl | exact Or.inr rfl) (pe_call (G__law_data) (hr.mono (by decide)) rfl T.g__law_data T.f__law_data.kp T.bd__law_data .nil pass0 (pa_cons (pv 1) (pa_cons pe_int (pa_cons (pe_lst (pa_cons pe_int pa_nil)) pa_nil)))))
    (pss_cons (ps_set (i := 3) sc_law.nd rfl (by first | exact Or.inl rfl | exact Or.inr rfl) (pe_call (G__law_data) (hr.mono (by decide)) rfl T.g__law_data T.f__law_data.kp T.bd__law_data .nil pass0 (pa_cons (pv 1) (pa_cons pe_int (pa_cons (pe_lst (pa_cons pe_int pa_nil)) pa_nil)))))
    (pss_cons (ps_if (PW.pt (pw_or (pt_not (pt_val (pe_callG (G__law_right) ga (hr.mono (by decide)) rfl T.g__law_right T.f__law_right.kp T.bd__law_right .nil (passes_call (takes_of rfl rfl rfl rfl) (fun _ _ _ _ h => h)) (pa_cons (pv 2) pa_nil)))) (pw_or (pt_not (pt_val (pe_callG (G__law_right) ga (hr.mono (by decide)) rfl T.g__law_right T.f__law_right.kp T.bd__law_right .nil (passes_call (takes_of rfl rfl rfl rfl) (fun _ _ _ _ h => h)) (pa_cons (pv 3) pa_nil)))) (pw_or1 (pt_not (pt_val (pe_callG (G__law_right) ga (hr.mono (by decide)) rfl T.g__law_right T.f__law_right.kp T.bd__law_right .nil (passes_call (takes_of rfl rfl rfl rfl) (fun _ _ _ _ h => h)) (pa_cons (pe_lst (pa_cons (pv 2) (pa_cons (pv 3) (pa_cons pe_str (pa_cons (pe_un un_neg pe_int) pa_nil))))) pa_nil)))))))) (pss_one (ps_ret pe_bl)) pss_nil)
    (pss_cons (ps_set (i := 4) sc_law.nd rfl (by first | exact Or.inl rfl | exact Or.inr rfl) (pe_op op_powX (pe_op op_pow pe_int pe_int) pe_int))
    (pss_cons (ps_set (i := 5) sc_law.nd rfl (by first | exact Or.inl rfl | exact Or.inr rfl) (pe_call (G__law_draw) (hr.mono (by decide)) rfl T.g__law_draw T.f__law_draw.kp T.bd__law_draw .nil pass0 (pa_cons (pv 1) (pa_cons (pe_op op_pow pe_int pe_int) pa_nil))))
    (pss_cons (ps_if (PW.pt (pw_or (pt_not (pt_val (pe_callG (G__law_right) ga (hr.mono (by decide)) rfl T.g__law_right T.f__law_right.kp T.bd__law_right .nil (passes_call (takes_of rfl rfl rfl rfl) (fun _ _ _ _ h => h)) (pa_cons (pe_tup (pa_cons (pe_op op_sub (pe_op op_sub (pv 4) pe_int) (pv 5)) (pa_cons (pe_op op_sub (pe_op (r := rAddA K) op_addA pe_int (pv 5)) (pv 4)) pa_nil))) pa_nil)))) (pw_or (pt_not (pt_val (pe_call (G__law_refused) (hr.mono (by decide)) rfl T.g__law_refused T.f__law_refused.kp T.bd__law_refused .nil pass0 (pa_cons (pe_op (r := rAddA K) op_addA (pv 4) (pv 5)) pa_nil)))) (pw_or1 (pt_not (pt_val (pe_call (G__law_refused) (hr.mono (by decide)) rfl T.g__law_refused T.f__law_refused.kp T.bd__law_refused .nil pass0 (pa_cons (pe_lst (pa_cons pe_int (pa_cons (pe_op op_sub (pe_op op_sub pe_int (pv 4)) (pv 5)) pa_nil))) pa_nil)))))))) (pss_one (ps_ret pe_bl)) pss_nil)
    (pss_cons (ps_set (i := 6) sc_law.nd rfl (by first | exact Or.inl rfl | exact Or.inr rfl) (pe_call (G__law_leaf) (hr.mono (by decide)) rfl T.g__law_leaf T.f__law_leaf.kp T.bd__law_leaf .nil pass0 (pa_cons (pv 1) pa_nil)))
    (pss_cons (ps_set (i := 7) sc_law.nd rfl (by first | exact Or.inl rfl | exact Or.inr rfl) (pe_ifExp (pt_val (pe_callB (r := rIsiT K) call_isiT (by rfl) T.b_isinstance (by decide +kernel) (pa_cons (pv 6) (pa_cons (pe_tup (pa_cons (pe_bltn (v := .ty "list") (by rfl) T.b_list (by decide +kernel) rfl) (pa_cons (pe_bltn (v := .ty "tuple") (by rfl) T.b_tuple (by decide +kernel) rfl) pa_nil))) pa_nil)))) pe_int pe_int))
    (pss_cons (ps_if (PW.pt (pw_or (pt_not (pt_val (pe_callG (G__law_right) ga (hr.mono (by decide)) rfl T.g__law_right T.f__law_right.kp T.bd__law_right .nil (passes_call (takes_of rfl rfl rfl rfl) (fun _ _ _ _ h => h)) (pa_cons (pe_call (G__law_around) (hr.mono (by decide)) rfl T.g__law_around T.f__law_around.kp T.bd__law_around .nil pass0 (pa_cons (pv 6) (pa_cons (pv 7) pa_nil))) pa_nil)))) (pw_or1 (pt_not (pt_val (pe_callG (G__law_right) ga (hr.mono (by decide)) rfl T.g__law_right T.f__law_right.kp T.bd__law_right .nil (passes_call (takes_of rfl rfl rfl rfl) (fun _ _ _ _ h => h)) (pa_cons (pe_call (G__law_around) (hr.mono (by decide)) rfl T.g__law_around T.f__law_around.kp T.bd__law_around .nil pass0 (pa_cons (pv 6) (pa_cons (pe_call (G__law_draw) (hr.mono (by decide)) rfl T.g__law_draw T.f__law_draw.kp T.bd__law_draw .nil pass0 (pa_cons (pv 1) (pa_cons (pv 7) pa_nil))) pa_nil))) pa_nil))))))) (pss_one (ps_ret pe_bl)) pss_nil)
    (pss_cons (ps_if (PW.pt (pw_or (pt_not (pt_val (pe_call (G__law_refused) (hr.mono (by decide)) rfl T.g__law_refused T.f__law_refused.kp T.bd__law_refused .nil pass0 (pa_cons (pe_call (G__law_around) (hr.mono (by decide)) rfl T.g__law_around T.f__law_around.kp T.bd__law_around .nil pass0 (pa_cons (pv 6) (pa_cons (pe_op (r := rAddA K) op_addA (pv 7) pe_int) pa_nil))) pa_nil)))) (pw_or1 (pt_not (pt_val (pe_call (G__law_refused) (hr.mono (by decide)) rfl T.g__law_refused T.f__law_refused.kp T.bd__law_refused .nil pass0 (pa_cons (pe_call (G__law_around) (hr.mono (by decide)) rfl T.g__law_around T.f__law_around.kp T.bd__law_around .nil pass0 (pa_cons (pv 6) (pa_cons (pe_op (r := rAddA K) op_addA (pe_op (r := rAddA K) op_addA (pv 7) pe_int) (pe_call (G__law_draw) (hr.mono (by decide)) rfl T.g__law_draw T.f__law_draw.kp T.bd__law_draw .nil pass0 (pa_cons (pv 1) (pa_cons pe_int pa_nil)))) pa_nil))) pa_nil))))))) (pss_one (ps_ret pe_bl)) pss_nil)
    (pss_cons (ps_set (i := 8) sc_law.nd rfl (by first | exact Or.inl rfl | exact Or.inr rfl) (pe_call (G__law_name) (hr.mono (by decide)) rfl T.g__law_name T.f__law_name.kp T.bd__law_name .nil pass0 (pa_cons (pv 1) pa_nil)))
    (pss_cons (ps_set (i := 9) sc_law.nd rfl (by first | exact Or.inl rfl | exact Or.inr rfl) (pe_call (G__law_draw) (hr.mono (by decide)) rfl T.g__law_draw T.f__law_draw.kp T.bd__law_draw .nil pass0 (pa_cons (pv 1) (pa_cons (pe_op (r := rAddA K) op_addA (pe_callB (r := rLenA K) call_lenA (by rfl) T.b_len (by decide +kernel) (pa_cons (pv 8) pa_nil)) pe_int) pa_nil))))
    (pss_cons (ps_set (i := 10) sc_law.nd rfl (by first | exact Or.inl rfl | exact Or.inr rfl) (pe_lst (pa_cons pe_bl (pa_cons pe_bl (pa_cons pe_non (pa_cons pe_str (pa_cons pe_str (pa_cons pe_str (pa_cons (pe_op (r := rAddA K) op_addA (pe_op (r := rAddA K) op_addA (pe_slice (r := rSlX K) sl_any (pv 8) po_none (po_some (pv 9))) pe_str) (pe_slice (r := rSlX K) sl_any (pv 8) (po_some (pv 9)) po_none)) (pa_cons (pe_op (r := rAddA K) op_addA (pe_op (r := rAddA K) op_addA (pe_slice (r := rSlX K) sl_any (pv 8) po_none (po_some (pv 9))) pe_str) (pe_slice (r := rSlX K) sl_any (pv 8) (po_some (pv 9)) po_none)) (pa_cons (pe_op (r := rAddA K) op_addA (pv 8) pe_str) (pa_cons pe_str (pa_cons pe_dnewK (pa_cons (pe_disp (pps_cons pe_int pe_int pps_nil) rfl rfl (by intro h; cases h) (Nat.le_of_ble_eq_true rfl)) pa_nil))))))))))))))
    (pss_cons (ps_set (i := 11) sc_law.nd rfl (by first | exact Or.inl rfl | exact Or.inr rfl) (pe_ix (r := rIx K) ix_seq (pv 10) (pe_call (G__law_draw) (hr.mono (by decide)) rfl T.g__law_draw T.f__law_draw.kp T.bd__law_draw .nil pass0 (pa_cons (pv 1) (pa_cons pe_int pa_nil))) (fun _ _ => rfl)))
    (pss_cons (ps_set (i := 12) sc_law.nd rfl (by first | exact Or.inl rfl | exact Or.inr rfl) (pe_lst (pa_cons (pv 2) (pa_cons (pe_lst (pa_cons (pv 3) (pa_cons (pv 11) pa_nil))) (pa_cons (pv 8) pa_nil)))))
    (pss_cons (ps_if (PW.pt (pw_or (pt_not (pt_val (pe_call (G__law_refused) (hr.mono (by decide)) rfl T.g__law_refused T.f__law_refused.kp T.bd__law_refused .nil pass0 (pa_cons (pv 11) pa_nil)))) (pw_or (pt_not (pt_val (pe_call (G__law_refused) (hr.mono (by decide)) rfl T.g__law_refused T.f__law_refused.kp T.bd__law_refused .nil pass0 (pa_cons (pv 12) pa_nil)))) (pw_or1 (pt_not (pt_val (pe_call (G__law_refused) (hr.mono (by decide)) rfl T.g__law_refused T.f__law_refused.kp T.bd__law_refused .nil pass0 (pa_cons (pe_call (G__law_around) (hr.mono (by decide)) rfl T.g__law_around T.f__law_around.kp T.bd__law_around .nil pass0 (pa_cons (pe_tup (pa_cons (pv 8) (pa_cons (pv 11) (pa_cons (pv 8) pa_nil)))) (pa_cons (pe_call (G__law_draw) (hr.mono (by decide)) rfl T.g__law_draw T.f__law_draw.kp T.bd__law_draw .nil pass0 (pa_cons (pv 1) (pa_cons pe_int pa_nil))) pa_nil))) pa_nil)))))))) (pss_one (ps_ret pe_bl)) pss_nil)
    (pss_one (ps_ret (pe_and (pe_callG (G__law_right) ga (hr.mono (by decide)) rfl T.g__law_right T.f__law_right.kp T.bd__law_right .nil (passes_call (takes_of rfl rfl rfl rfl) (fun _ _ _ _ h => h)) (pa_cons (pv 8) pa_nil)) (pe_one (pe_call (G__law_same) (hr.mono (by decide)) rfl T.g__law_same T.f__law_same.kp T.bd__law_same .nil pass0 (pa_cons (pe_call (G_read_data) (hr.mono (by decide)) rfl T.g_read_data T.f_read_data.kp T.bd_read_data .nil (passes_call (takes_of rfl rfl rfl rfl) (fun _ _ _ _ h => h)) (pa_cons pe_str pa_nil)) (pa_cons (pe_tup (pa_cons pe_int (pa_cons pe_str (pa_cons (pe_tup (pa_cons (pe_un un_neg pe_int) (pa_cons (pe_tup pa_nil) pa_nil))) pa_nil)))) pa_nil)))))))))))))))))))))))), ?_⟩
  refine def_ok (N := ["script", "bag", "one", "two", "great", "low", "leaf", "room", "name", "at", "odd", "bad", "spoiled"]) rfl ?_ h
  exact (rs_seq (rs_set (re_call0 (ra_cons re_var ra_nil) (fun _ => .nil)))
    (rs_seq (rs_set (re_call0 (ra_cons re_var (ra_cons re_int (ra_cons (re_lmu (ra_cons re_int ra_nil)) ra_nil))) (fun _ => .nil)))
    (rs_seq (rs_set (re_call0 (ra_cons re_var (ra_cons re_int (ra_cons (re_lmu (ra_cons re_int ra_nil)) ra_nil))) (fun _ => .nil)))
    (rs_seq (rs_if (rt_or (rt_not (rt_B (re_call (ra_cons re_var ra_nil) (fun _ => .nil)))) (rt_or (rt_not (rt_B (re_call (ra_cons re_var ra_nil) (fun _ => .nil)))) (rt_not (rt_B (re_call (ra_cons (re_lst (ra_cons re_var (ra_cons re_var (ra_cons re_str (ra_cons (re_neg re_int) ra_nil))))) ra_nil) (fun _ => .nil)))))) (rs_ret re_bl) rs_next)
    (rs_seq (rs_set (re_op (re_op re_int re_int k_pow) re_int k_powX))
    (rs_seq (rs_set (re_call0 (ra_cons re_var (ra_cons (re_op re_int re_int k_pow) ra_nil)) (fun _ => .nil)))
    (rs_seq (rs_if (rt_or (rt_not (rt_B (re_call (ra_cons (re_tup (ra_cons (re_op (re_op re_var re_int k_sub) re_var k_sub) (ra_cons (re_op (re_op re_int re_var k_add) re_var k_sub) ra_nil))) ra_nil) (fun _ => .nil)))) (rt_or (rt_not (rt_B (re_call0 (ra_cons (re_op re_var re_var k_add) ra_nil) (fun _ => .nil)))) (rt_not (rt_B (re_call0 (ra_cons (re_lst (ra_cons re_int (ra_cons (re_op (re_op re_int re_var k_sub) re_var k_sub) ra_nil))) ra_nil) (fun _ => .nil)))))) (rs_ret re_bl) rs_next)
    (rs_seq (rs_set (re_call0 (ra_cons re_var ra_nil) (fun _ => .nil)))
    (rs_seq (rs_set (re_if (rt_B (re_isiT .list .tuple re_var)) re_int re_int))
    (rs_seq (rs_if (rt_or (rt_not (rt_B (re_call (ra_cons (re_call0 (ra_cons re_var (ra_cons re_var ra_nil)) (fun _ => .nil)) ra_nil) (fun _ => .nil)))) (rt_not (rt_B (re_call (ra_cons (re_call0 (ra_cons re_var (ra_cons (re_call0 (ra_cons re_var (ra_cons re_var ra_nil)) (fun _ => .nil)) ra_nil)) (fun _ => .nil)) ra_nil) (fun _ => .nil))))) (rs_ret re_bl) rs_next)
    (rs_seq (rs_if (rt_or (rt_not (rt_B (re_call0 (ra_cons (re_call0 (ra_cons re_var (ra_cons (re_op re_var re_int k_add) ra_nil)) (fun _ => .nil)) ra_nil) (fun _ => .nil)))) (rt_not (rt_B (re_call0 (ra_cons (re_call0 (ra_cons re_var (ra_cons (re_op (re_op re_var re_int k_add) (re_call0 (ra_cons re_var (ra_cons re_int ra_nil)) (fun _ => .nil)) k_add) ra_nil)) (fun _ => .nil)) ra_nil) (fun _ => .nil))))) (rs_ret re_bl) rs_next)
    (rs_seq (rs_set (re_call0 (ra_cons re_var ra_nil) (fun _ => .nil)))
    (rs_seq (rs_set (re_call0 (ra_cons re_var (ra_cons (re_op (re_cb (ra_cons re_var ra_nil) k_len) re_int k_add) ra_nil)) (fun _ => .nil)))
    (rs_seq (rs_set (re_lst (ra_cons re_bl (ra_cons re_bl (ra_cons re_non (ra_cons re_str (ra_cons re_str (ra_cons re_str (ra_cons (re_op (re_op (re_sl re_var ro_none (ro_part re_var)) re_str k_add) (re_sl re_var (ro_part re_var) ro_none) k_add) (ra_cons (re_op (re_op (re_sl re_var ro_none (ro_part re_var)) re_str k_add) (re_sl re_var (ro_part re_var) ro_none) k_add) (ra_cons (re_op re_var re_str k_add) (ra_cons re_str (ra_cons re_dnew (ra_cons re_disp1 ra_nil))))))))))))))
    (rs_seq (rs_set (re_op re_var (re_call0 (ra_cons re_var (ra_cons re_int ra_nil)) (fun _ => .nil)) k_ix))
    (rs_seq (rs_set (re_lst (ra_cons re_var (ra_cons (re_lst (ra_cons re_var (ra_cons re_var ra_nil))) (ra_cons re_var ra_nil)))))
    (rs_seq (rs_if (rt_or (rt_not (rt_B (re_call0 (ra_cons re_var ra_nil) (fun _ => .nil)))) (rt_or (rt_not (rt_B (re_call0 (ra_cons re_var ra_nil) (fun _ => .nil)))) (rt_not (rt_B (re_call0 (ra_cons (re_call0 (ra_cons (re_tup (ra_cons re_var (ra_cons re_var (ra_cons re_var ra_nil)))) (ra_cons (re_call0 (ra_cons re_var (ra_cons re_int ra_nil)) (fun _ => .nil)) ra_nil)) (fun _ => .nil)) ra_nil) (fun _ => .nil)))))) (rs_ret re_bl) rs_next)
    (rs_ret (re_and (re_call (ra_cons re_var ra_nil) (fun _ => .nil)) (re_call0 (ra_cons (re_call (ra_cons re_str ra_nil) (fun _ => .nil)) (ra_cons (re_tup (ra_cons re_int (ra_cons re_str (ra_cons (re_tup (ra_cons (re_neg re_int) (ra_cons (re_tup ra_nil) ra_nil))) ra_nil)))) ra_nil)) (fun _ => .nil)))))))))))))))))))))
end
end K03
namespace Fx
open PySem PySem.Spec PyProof.Rows L2 Co
@[simp ↓] theorem EnumZI_ap {ms : Env → Sta → Out (List PV)} {ε : Env} {S : Sta} : EnumZI ms ε S = ((ms ε S).bind fun xs S1 => match xs with
  | [x, y] => match seqIt S1 x, seqIt S1 y with
    | some (_, i1), some (_, i2) => .ok (enumIt (zipIt i1 i2)) S1
    | _, _ => .stuck
  | _ => .stuck) := id rfl
@[simp ↓] theorem FldE_ap {cs : List String} {f : Str} {me : Env → Sta → Out PV} {ε : Env} {S : Sta} : FldE cs f me ε S = ((me ε S).bind fun p S1 => match objOf S1 p with
  | some (c, ns, xs) => if c ∈ cs then lift (zlook f ns xs) S1 else .stuck
  | none => .stuck) := id rfl
@[simp ↓] theorem SetFS_ap {cs : List String} {f : Str} {mo me : Env → Sta → Out PV} {ε : Env} {S : Sta} : SetFS cs f mo me ε S = ((me ε S).flow ε fun p S1 => (mo ε S1).flow ε fun o S2 => match putO S2 cs f o p with
  | some S3 => .nx ε S3
  | none => .stuck) := id rfl
@[simp ↓] theorem MakeE_ap {c : String} {f : FC} {dps : List PV} {ms : Env → Sta → Out (List PV)} {ε : Env} {S : Sta} : MakeE c f dps ms ε S = ((ms ε S).bind fun xs S1 => mkO c f (xs ++ dps) S1) := id rfl
@[simp ↓] theorem XiE_ap {tab : String → Option Bool} {c : String} {n i : Nat} {ε : Env} {S : Sta} : XiE tab c n i ε S = (match ε[i]? with
  | some (some (.xv n')) => if n' = n then (lift (tab c) S).bind fun b S => .ok (.bl b) S else .stuck
  | _ => .stuck) := id rfl
@[simp ↓] theorem NewXE_ap {c : String} {names : List Str} {ms : Env → Sta → Out (List PV)} {ε : Env} {S : Sta} : NewXE c names ms ε S = ((ms ε S).bind fun xs S1 => if xs.length = names.length then .ok (.obj c names xs) S1 else .stuck) := id rfl
@[simp ↓] theorem NewX0E_ap {c : String} {ε : Env} {S : Sta} : NewX0E c ε S = (.ok (.obj c [] []) S) := id rfl
@[simp ↓] theorem XvE_ap {cs : List String} {f : Str} {me : Env → Sta → Out PV} {ε : Env} {S : Sta} : XvE cs f me ε S = ((me ε S).bind fun p S1 => match p with
  | .obj c ns xs => if c ∈ cs then lift (zlook f ns xs) S1 else .stuck
  | _ => .stuck) := id rfl
@[simp ↓] theorem IsvE_ap {tab : String → Option Bool} {me : Env → Sta → Out PV} {ε : Env} {S : Sta} : IsvE tab me ε S = ((me ε S).bind fun p S1 => match p with
  | .obj c _ _ => (lift (tab c) S1).bind fun b S1 => .ok (.bl b) S1
  | _ => .stuck) := id rfl
theorem map_injF {α β : Type} {f : α → β} (hf : ∀ a b, f a = f b → a = b) : ∀ {xs ys : List α}, xs.map f = ys.map f → xs = ys
  | [], [], _ => rfl
  | [], _ :: _, h => by cases h
  | _ :: _, [], h => by cases h
  | x :: xs, y :: ys, h => by
    rw [List.map_cons, List.map_cons] at h
    injection h with h1 h2
    rw [hf x y h1, map_injF hf h2]
@[simp] theorem ofStr_inj {a b : String} : (Str.ofString a = Str.ofString b) = (a = b) := by
  apply propext
  constructor
  · intro h
    rw [Str.ofString_eq_toList, Str.ofString_eq_toList] at h
    injection h with h
    injection h with h
    have h2 : a.toList = b.toList := map_injF (fun c d e => Char.ext (UInt32.toNat_inj.mp e)) h
    exact String.ext_iff.mpr h2
  · rintro rfl; rfl
section
variable {S T : Sta} {ε : Env} {c : String} {ns : List Str} {xs ys : List PV} {f n : Str} {p x : PV}
@[simp] theorem objOf_obj : objOf S (.obj c ns xs) = some (c, ns, xs) := id rfl
@[simp] theorem objOf_mu {n : Nat} : objOf S (.mu n) = (match S[n]? with
    | some (.obj c ns xs) => some (c, ns, xs)
    | _ => none) := id rfl
@[simp] theorem zlook_ap : zlook f (n :: ns) (x :: xs) = if f = n then some x else zlook f ns xs := by rw [zlook]
@[simp] theorem zput_ap : zput f p (n :: ns) (x :: xs) = if n = f then (n :: ns, p :: xs) else (n :: (zput f p ns xs).1, x :: (zput f p ns xs).2) := by rw [zput]
@[simp] theorem zput_nil : zput f p [] xs = ([f], [p]) := by rw [zput]; rintro a b c d h; cases h
@[simp] theorem putO_mu {cs : List String} {n : Nat} : putO S cs f (.mu n) p = (match S[n]? with
    | some (.obj c ns xs) => if c ∈ cs ∧ ns.length < 900 then some (S.set n (.obj c (zput f p ns xs).1 (zput f p ns xs).2)) else none
    | _ => none) := id rfl
@[simp] theorem isX_self {b : Bool} : isX c b c = some b := if_pos rfl
def mk3 (k : Nat) : Out PV → Out PV
  | .ok .non S2 => give k (.mu k) S2
  | .ex d ys S2 => giveX k d ys S2
  | _ => .stuck
@[simp ↓] theorem mkO_ap {g : FC} : mkO c g xs S = mk3 S.length (g (.mu S.length :: xs) (S ++ [.obj c [] []])) := id rfl
@[simp] theorem mk3_ok {k : Nat} : mk3 k (.ok .non S) = give k (.mu k) S := id rfl
@[simp] theorem mk3_ex {k : Nat} : mk3 k (.ex c xs S) = giveX k c xs S := id rfl
@[simp] theorem items_obj : items S (.obj c ns xs) = none := id rfl
@[simp] theorem lstOf_lst : lstOf S (.lst xs) = some xs := id rfl
@[simp] theorem fRep_ap {k : Int} : fRep S x (.int k) = (match lstOf S x with
    | some xs => if -100000 ≤ k ∧ k ≤ 100000 ∧ xs.length * k.toNat ≤ 100000 then some (.lst (rep k.toNat xs)) else none
    | none => none) := by
  unfold fRep
  cases lstOf S x <;> rfl
theorem app_get {α : Type} {xs ys : List α} {n : Nat} {a : α} (h : xs[n]? = some a) : (xs ++ ys)[n]? = some a := by
  rw [List.getElem?_append_left (List.getElem?_eq_some_iff.mp h).1]; exact h
theorem look_ext {x : PV} (h : (tyP S x).isSome = true) : look (S ++ T) x = look S x := by
  cases x <;> first | rfl | skip
  rename_i n
  rw [tyP_mu] at h
  rw [look_mu', look_mu']
  cases e : S[n]? with
  | none => rw [e] at h; cases h
  | some c => rw [app_get e]
theorem tyP_ext {x : PV} (h : (tyP S x).isSome = true) : tyP (S ++ T) x = tyP S x := by
  unfold tyP
  rw [look_ext h]
theorem items_some {x : PV} {k : Bool} (h : items S x = some (k, xs)) : items (S ++ T) x = some (k, xs) := by
  have h2 := items_ty h
  unfold items at h ⊢
  rw [look_ext h2]
  exact h
theorem items_ext {x : PV} (h : (tyP S x).isSome = true) : items (S ++ T) x = items S x := by
  unfold items
  rw [look_ext h]
theorem fIx_it {x : PV} {k : Bool} {i : Int} (h : items S x = some (k, xs)) : fIx S x (.int i) = atI xs i := by
  unfold fIx
  rw [items_look h]
  cases k <;> rfl
mutual
theorem clean_le {k : Nat} : ∀ p : PV, clean 0 p = true → clean k p = true
  | .non, _ => by simp only [clean]
  | .bl _, _ => by simp only [clean]
  | .int _, _ => by simp only [clean]
  | .str _, _ => by simp only [clean]
  | .tup xs, h => by simp only [clean] at h ⊢; exact cleans_le xs h
  | .lst xs, h => by simp only [clean] at h ⊢; exact cleans_le xs h
  | .kls xs, h => by simp only [clean] at h ⊢; exact cleans_le xs h
  | .obj _ _ xs, h => by simp only [clean] at h ⊢; exact cleans_le xs h
  | .mu n, h => by simp [clean] at h
  | .xv n, h => by simp [clean] at h
  | .dct, _ => by simp only [clean]
theorem cleans_le {k : Nat} : ∀ ps : List PV, cleans 0 ps = true → cleans k ps = true
  | [], _ => by simp only [cleans]
  | p :: ps, h => by
    simp only [cleans, Bool.and_eq_true] at h ⊢
    exact ⟨clean_le p h.1, cleans_le ps h.2⟩
end
theorem flatS_app : flatS (S ++ T) = (flatS S && flatS T) := by simp [flatS]
theorem give_obj (hT : flatS T = true) (hx : cleans 0 xs = true) : give T.length (.mu T.length) (T ++ [.obj c ns xs]) = .ok (.obj c ns xs) T := by
  unfold give leave
  have h1 : ¬ (T ++ [Cell.obj c ns xs]).length ≤ T.length := by simp
  have h2 : (T ++ [Cell.obj c ns xs])[T.length]? = some (.obj c ns xs) := by simp
  have h3 : cleans T.length xs = true := cleans_le xs hx
  rw [if_neg h1, List.take_left', frzCs_flat _ _ _ hT]
  · simp [frzs, frz, h2, h3]
  · rfl
theorem giveX_flat {U : Sta} {xs : List PV} (hS : flatS S = true) (hp : cleans 0 xs = true) : giveX S.length c xs (S ++ U) = .ex c xs S := by
  unfold giveX
  rw [leave_flat hS hp]
theorem isi_items {x : PV} (h : (tyP S x).isSome = true) : ∃ t, tyP S x = some t ∧ (isT t .list || isT t .tuple) = (items S x).isSome := by
  unfold tyP at h ⊢
  unfold items
  generalize look S x = l at h ⊢
  cases l <;> first | (cases h; done) | exact ⟨_, rfl, rfl⟩
theorem intsP_zero {lo : Int} : intsP lo 0 = [] := rfl
theorem intsP_succ {lo : Int} {n : Nat} : intsP lo (n + 1) = .int lo :: intsP (lo + 1) n := by
  unfold intsP
  rw [List.range_succ_eq_map, List.map_cons, List.map_map]
  congr 1
  · simp
  · refine List.map_congr_left fun i _ => ?_
    simp only [Function.comp]
    congr 1
    omega
/-- what may be asked for its kind, and whose items may -/
structure Plain (S : Sta) (x : PV) : Prop where
  t : (tyP S x).isSome = true
  i : ∀ k xs, items S x = some (k, xs) → xs.length ≤ 1000 ∧ ∀ p ∈ xs, (tyP S p).isSome = true
theorem Plain.ext {x : PV} (h : Plain S x) (T : Sta) : Plain (S ++ T) x := ⟨by rw [tyP_ext h.t]; exact h.t, fun k xs e => by
  rw [items_ext h.t] at e
  exact ⟨(h.i k xs e).1, fun p hp => by rw [tyP_ext ((h.i k xs e).2 p hp)]; exact (h.i k xs e).2 p hp⟩⟩
end
end Fx
namespace Fx
open PySem PySem.Spec PyProof.Rows L2 Co
section
variable {S S' T : Sta} {ε ε' : Env} {R : Env → Sta → Prop}
/-! ### statements that go on -/
def Nx (f : Flow) (R : Env → Sta → Prop) : Prop := ∃ ε S, f = .nx ε S ∧ R ε S
theorem nx_seq {A B : Env → Sta → Flow} (h : A ε S = .nx ε' S') (k : Nx (B ε' S') R) : Nx (SeqS A B ε S) R := by
  unfold SeqS
  rw [h]
  exact k
theorem nx_seqP {A B : Env → Sta → Flow} (P : Env → Sta → Prop) (h : Nx (A ε S) P) (k : ∀ ε' S', P ε' S' → Nx (B ε' S') R) : Nx (SeqS A B ε S) R := by
  obtain ⟨ε', S', e, p⟩ := h
  exact nx_seq e (k ε' S' p)
theorem nx_end {A : Env → Sta → Flow} (h : A ε S = .nx ε' S') (k : R ε' S') : Nx (A ε S) R := ⟨ε', S', h, k⟩
theorem nx_for {mi : Env → Sta → Out IT} {g : MG} {mb : Env → Sta → Flow} {S1 : Sta} {it : IT} (I : List PV → Env → Sta → Prop) (hi : mi ε S = .ok it S1) (h0 : I it.xs ε S1) (hp : ∀ xs ε S, I xs ε S → pinsOk S it.pins = true)
    (hs : ∀ x xs ε S, x ∈ it.xs → I (x :: xs) ε S → ∃ ε1 S1, g x ε S = .ok ε1 S1 ∧ Nx (mb ε1 S1) (I xs)) : Nx (ForS mi g mb ε S) (I []) := by
  have key : ∀ xs : List PV, (∀ x ∈ xs, x ∈ it.xs) → ∀ ε S, I xs ε S → ∃ ε' S', loop g mb it.pins xs ε S = .nx ε' S' ∧ I [] ε' S' := by
    intro xs
    induction xs with
    | nil => exact fun _ ε S h => ⟨ε, S, by simp [loop, hp _ _ _ h], h⟩
    | cons x xs ih =>
      intro hm ε S h
      obtain ⟨ε1, S1, h1, ε2, S2, h2, h3⟩ := hs x xs ε S (hm x (by simp)) h
      obtain ⟨ε', S', h4, h5⟩ := ih (fun y hy => hm y (List.mem_cons_of_mem _ hy)) ε2 S2 h3
      exact ⟨ε', S', by simp [loop, hp _ _ _ h, h1, h2, h4], h5⟩
  obtain ⟨ε', S', h4, h5⟩ := key it.xs (fun _ h => h) ε S1 h0
  exact ⟨ε', S', by rw [ForS_ap, hi]; exact h4, h5⟩
theorem nx_scope {m : Env → Sta → Flow} {R' : Env → Sta → Prop} (h : Nx (m ε S) R) (k : ∀ ε' S', R ε' S' → ∃ x, leaveE S.length ε' S' = some x ∧ R' x.1 x.2) : Nx (scopeS m ε S) R' := by
  obtain ⟨ε', S', e, r⟩ := h
  obtain ⟨x, hx, r'⟩ := k ε' S' r
  exact ⟨x.1, x.2, by rw [scopeS_ap, e, shutS_nx, hx], r'⟩
theorem Nx.imp {f : Flow} {R' : Env → Sta → Prop} (h : Nx f R) (k : ∀ ε S, R ε S → R' ε S) : Nx f R' := by
  obtain ⟨ε, S, e, r⟩ := h
  exact ⟨ε, S, e, k _ _ r⟩
theorem nx_if {mc : Env → Sta → Out Bool} {A B : Env → Sta → Flow} {b : Bool} (h : mc ε S = .ok b S') (k1 : b = true → Nx (A ε S') R) (k2 : b = false → Nx (B ε S') R) : Nx (IfS mc A B ε S) R := by
  cases b with
  | true => obtain ⟨e, T, h1, h2⟩ := k1 rfl; exact ⟨e, T, by rw [IfS_ap, h]; exact h1, h2⟩
  | false => obtain ⟨e, T, h1, h2⟩ := k2 rfl; exact ⟨e, T, by rw [IfS_ap, h]; exact h1, h2⟩
/-- a law's for statement whose turns are such -/
theorem done_forN {mi : Env → Sta → Out IT} {g : MG} {mb B : Env → Sta → Flow} {S1 : Sta} {it : IT} (I : List PV → Env → Sta → Prop) (hi : mi ε S = .ok it S1) (h0 : I it.xs ε S1) (hp : ∀ xs ε S, I xs ε S → pinsOk S it.pins = true)
    (hs : ∀ x xs ε S, x ∈ it.xs → I (x :: xs) ε S → ∃ ε1 S1, g x ε S = .ok ε1 S1 ∧ Nx (mb ε1 S1) (I xs)) (k : ∀ ε' S', I [] ε' S' → Done (B ε' S')) : Done (SeqS (ForS mi g mb) B ε S) := by
  obtain ⟨ε', S', e, r⟩ := nx_for I hi h0 hp hs
  exact done_seq e (k _ _ r)
/-! ### places -/
theorem atI_mem {α : Type} {xs : List α} {i : Int} (h0 : 0 ≤ i) (h1 : i < xs.length) : ∃ x, atI xs i = some x ∧ x ∈ xs ∧ xs[i.toNat]? = some x := by
  have hl : i.toNat < xs.length := by omega
  exact ⟨xs[i.toNat], atI_get h0 (List.getElem?_eq_getElem hl), List.getElem_mem hl, List.getElem?_eq_getElem hl⟩
theorem ixN_in {n : Nat} {i : Int} (h0 : 0 ≤ i) (h1 : i < n) : ixN n i = some i.toNat := by
  unfold ixN
  have a : ¬ i < 0 := by omega
  have b : (0 : Int) ≤ i ∧ i < n := ⟨h0, h1⟩
  simp [a, b]
/-! ### plain values, whatever the state -/
structure Vd (p : PV) (k : Nat) : Prop where
  d : ∃ d, Dv p d k
  c : clean 0 p = true
  t : ∀ S : Sta, (tyP S p).isSome = true
theorem vd_int {i : Int} {k : Nat} (h : i.natAbs < 10 ^ 40) : Vd (.int i) k := ⟨⟨_, dv_int h⟩, rfl, fun _ => rfl⟩
theorem vd_bl {b : Bool} {k : Nat} : Vd (.bl b) k := ⟨⟨_, dv_bl⟩, rfl, fun _ => rfl⟩
theorem vd_non {k : Nat} : Vd .non k := ⟨⟨_, dv_non⟩, rfl, fun _ => rfl⟩
theorem vd_flat {k : Nat} : ∀ {ps : List PV}, (∀ p ∈ ps, Vd p k) → cleans 0 ps = true
  | [], _ => rfl
  | p :: ps, h => by
    simp only [cleans, (h p (by simp)).c, vd_flat fun q hq => h q (List.mem_cons_of_mem _ hq), Bool.and_self]
theorem vd_dats {k : Nat} {ps : List PV} (h : ∀ p ∈ ps, Vd p k) : ∃ ds, toDs ps = some ds ∧ ds.length = ps.length ∧ (∀ x ∈ ds, modest x = true) ∧ (∀ x ∈ ds, x.depth ≤ 10) ∧ ∀ x ∈ ds, x.bulk ≤ k := toDs_all fun p hp => (h p hp).d
theorem plain_sq {x : PV} {k : Bool} {xs : List PV} (h : items S x = some (k, xs)) (hl : xs.length ≤ 1000) (ht : ∀ p ∈ xs, (tyP S p).isSome = true) : Plain S x := ⟨items_ty h, fun k' ys e => by
  rw [h] at e
  cases e
  exact ⟨hl, ht⟩⟩
theorem plain_no {x : PV} (h : (tyP S x).isSome = true) (h2 : items S x = none) : Plain S x := ⟨h, fun k ys e => by rw [h2] at e; cases e⟩
@[simp] theorem fAdd_mul {n : Nat} {ys : List PV} : fAdd S (.mu n) (.lst ys) = (match S[n]? with
    | some (.lst xs) => if xs.length + ys.length ≤ 100000 then some (.lst (xs ++ ys)) else none
    | _ => none) := by
  unfold fAdd look
  dsimp only
  cases S[n]? with
  | none => rfl
  | some c => cases c <;> rfl
/-- a comprehension with a condition whose parts change nothing -/
theorem lcLoop_filter {g : MG} {mc : Env → Sta → Out Bool} {me : Env → Sta → Out PV} {pins : List (Nat × List PV)} (b : PV → Bool) (f : PV → PV) (hp : pinsOk S pins = true) : ∀ (xs acc : List PV), (∀ x, x ∈ xs → ∃ ε1, g x ε S = .ok ε1 S ∧ mc ε1 S = .ok (b x) S ∧ (b x = true → me ε1 S = .ok (f x) S)) → acc.length + xs.length ≤ 100000 →
    lcLoop g mc me pins ε xs acc S = .ok (acc ++ (xs.filter b).map f) S
  | [], acc, _, _ => by simp [lcLoop, hp]
  | x :: xs, acc, h, hl => by
    obtain ⟨ε1, h1, h2, h3⟩ := h x (by simp)
    have hl' : acc.length < 100000 := by simp at hl; omega
    by_cases hb : b x = true
    · have ih := lcLoop_filter (mc := mc) (me := me) b f hp xs (acc ++ [f x]) (fun y hy => h y (List.mem_cons_of_mem _ hy)) (by simp at hl ⊢; omega)
      simp [lcLoop, hp, h1, h2, h3 hb, hb, hl', ih]
    · have ih := lcLoop_filter (mc := mc) (me := me) b f hp xs acc (fun y hy => h y (List.mem_cons_of_mem _ hy)) (by simp at hl ⊢; omega)
      simp [lcLoop, hp, h1, h2, hb, ih]
/-! ### letters -/
def lets : List Nat := ("abcdefghijklmnopqrstuvwxyz" : Str).cps.toList
theorem lets_len : lets.length = 26 := by decide +kernel
theorem lets_small : ∀ c ∈ lets, c < 1114112 := by decide +kernel
theorem chars_of {R : Nat → Prop} {xs ys : List PV} (h : All2 (fun _ y => ∃ c, y = PV.str ⟨#[c]⟩ ∧ R c) xs ys) : ∃ cs : List Nat, ys = (cs.map fun c => (⟨#[c]⟩ : Str)).map .str ∧ cs.length = xs.length ∧ ∀ c ∈ cs, R c := by
  induction h with
  | nil => exact ⟨[], rfl, rfl, fun c h => by cases h⟩
  | cons h1 _ ih =>
    obtain ⟨c, rfl, hc⟩ := h1
    obtain ⟨cs, rfl, h3, h4⟩ := ih
    exact ⟨c :: cs, rfl, by simp [h3], fun d hd => by rcases List.mem_cons.mp hd with rfl | hd; exact hc; exact h4 d hd⟩
theorem strsP_map : ∀ zs : List Str, strsP (zs.map .str) = some zs
  | [] => rfl
  | z :: zs => by rw [List.map_cons, strsP, strsP_map zs]; rfl
theorem sum_ones : ∀ cs : List Nat, ((cs.map fun c => (⟨#[c]⟩ : Str)).map (·.length)).sum = cs.length
  | [] => rfl
  | c :: cs => by
    rw [List.map_cons, List.map_cons, List.sum_cons, sum_ones cs, List.length_cons]
    show 1 + cs.length = _
    omega
/-- the items of an all2 of ints -/
theorem ints_of {R : Int → Prop} {xs ys : List PV} (h : All2 (fun _ y => ∃ i, y = PV.int i ∧ R i) xs ys) : ∃ is : List Int, ys = is.map .int ∧ is.length = xs.length ∧ ∀ i ∈ is, R i := by
  induction h with
  | nil => exact ⟨[], rfl, rfl, fun c h => by cases h⟩
  | cons h1 _ ih =>
    obtain ⟨c, rfl, hc⟩ := h1
    obtain ⟨cs, rfl, h3, h4⟩ := ih
    exact ⟨c :: cs, rfl, by simp [h3], fun d hd => by rcases List.mem_cons.mp hd with rfl | hd; exact hc; exact h4 d hd⟩
end
end Fx
namespace Fx
open PySem L2 Co NumText
/-! ### texts as lists of signs -/
def sT (l : List Nat) : Str := ⟨l.toArray⟩
@[simp] theorem sT_cps {l : List Nat} : (sT l).cps.toList = l := by simp [sT]
@[simp] theorem sT_len {l : List Nat} : (sT l).length = l.length := by show l.toArray.size = _; simp
theorem sT_of (z : Str) : z = sT z.cps.toList := by cases z; simp [sT]
@[simp] theorem sT_app {a b : List Nat} : sT a ++ sT b = sT (a ++ b) := by
  show (⟨a.toArray ++ b.toArray⟩ : Str) = ⟨(a ++ b).toArray⟩
  simp
theorem sT_inj {a b : List Nat} : sT a = sT b ↔ a = b := by
  constructor
  · intro h; have := congrArg (fun z : Str => z.cps.toList) h; simpa using this
  · rintro rfl; rfl
theorem sg_eq {c d : Nat} : ((⟨#[c]⟩ : Str) = ⟨#[d]⟩) = (c = d) := by simp
theorem sT_one {c : Nat} : (⟨#[c]⟩ : Str) = sT [c] := rfl
theorem ofS (s : String) : Str.ofString s = sT (s.toList.map Char.toNat) := by
  rw [Str.ofString_eq_toList]; rfl
/-! ### numbers as texts -/
def digs (n : Nat) : List Nat := (Nat.toDigits 10 n).map Char.toNat
def itext (i : Int) : List Nat := if i < 0 then 45 :: digs i.natAbs else digs i.natAbs
theorem toS_int (i : Int) : Str.ofString (toString i) = sT (itext i) := by
  rw [ofS, sT_inj]
  unfold itext digs
  cases i with
  | ofNat m =>
    have : ¬ (Int.ofNat m < 0) := by simp
    rw [if_neg this]
    show (Nat.repr m).toList.map Char.toNat = _
    simp [Nat.repr]
  | negSucc m =>
    rw [if_pos (Int.negSucc_lt_zero m)]
    show ("-" ++ Nat.repr (m + 1)).toList.map Char.toNat = _
    simp [Nat.repr, Int.natAbs_negSucc]
theorem digit_nat : ∀ d : Nat, d < 10 → (Nat.digitChar d).toNat = d + 48 := by decide
theorem digs_small {n : Nat} (h : n < 10) : digs n = [n + 48] := by
  unfold digs
  rw [Nat.toDigits_of_lt_base h]
  simp [digit_nat n h]
theorem digs_big {n d : Nat} (h : 0 < n) (hd : d < 10) : digs (n * 10 + d) = digs n ++ [d + 48] := by
  unfold digs
  rw [Nat.mul_comm, ← Nat.toDigits_append_toDigits (by decide) h hd, List.map_append, Nat.toDigits_of_lt_base hd]
  simp [digit_nat d hd]
theorem digs_all (n : Nat) : AllDigits (digs n) := by
  induction n using Nat.strongRecOn with
  | ind n ih =>
    by_cases h : n < 10
    · rw [digs_small h]
      intro c hc
      simp at hc
      omega
    · have e : n = (n / 10) * 10 + n % 10 := by omega
      have h1 : 0 < n / 10 := by omega
      rw [e, digs_big h1 (by omega)]
      intro c hc
      rcases List.mem_append.mp hc with hc | hc
      · exact ih (n / 10) (by omega) c hc
      · simp at hc; omega
theorem digs_ne (n : Nat) : digs n ≠ [] := by
  by_cases h : n < 10
  · rw [digs_small h]; simp
  · have e : n = (n / 10) * 10 + n % 10 := by omega
    rw [e, digs_big (by omega) (by omega)]; simp
theorem val_snoc {cs : List Nat} {c : Nat} : digitsVal (cs ++ [c]) = digitsVal cs * 10 + (c - 48) := by
  unfold digitsVal; rw [List.foldl_append]; rfl
theorem val_digs (n : Nat) : digitsVal (digs n) = n := by
  induction n using Nat.strongRecOn with
  | ind n ih =>
    by_cases h : n < 10
    · rw [digs_small h]
      show 0 * 10 + (n + 48 - 48) = n
      omega
    · have e : n = (n / 10) * 10 + n % 10 := by omega
      have h1 : 0 < n / 10 := by omega
      have i1 := ih (n / 10) (by omega)
      rw [e, digs_big h1 (by omega), val_snoc, i1]
      omega
theorem digs_head : ∀ n : Nat, 0 < n → ∃ c cs, digs n = c :: cs ∧ c ≠ 48 := fun n => by
  induction n using Nat.strongRecOn with
  | ind n ih =>
    intro hn
    by_cases h : n < 10
    · exact ⟨_, _, digs_small h, by omega⟩
    · have e : n = (n / 10) * 10 + n % 10 := by omega
      have h1 : 0 < n / 10 := by omega
      obtain ⟨c, cs, h2, h3⟩ := ih (n / 10) (by omega) h1
      rw [e, digs_big h1 (by omega), h2]
      exact ⟨c, _, rfl, h3⟩
theorem val_pos {c : Nat} {cs : List Nat} (h : AllDigits (c :: cs)) (h0 : c ≠ 48) : 0 < digitsVal (c :: cs) := by
  have key : ∀ (cs : List Nat) (a : Nat), 0 < a → 0 < cs.foldl (fun acc c => acc * 10 + (c - 48)) a := by
    intro cs
    induction cs with
    | nil => exact fun a h => h
    | cons d ds ih => exact fun a h => ih _ (by show 0 < a * 10 + (d - 48); omega)
  have := h.head
  exact key cs _ (by show 0 < 0 * 10 + (c - 48); omega)
theorem digs_val {cs : List Nat} : ∀ {c : Nat}, AllDigits (c :: cs) → c ≠ 48 → digs (digitsVal (c :: cs)) = c :: cs := by
  have key : ∀ (n : Nat) (c : Nat) (cs : List Nat), cs.length = n → AllDigits (c :: cs) → c ≠ 48 → digs (digitsVal (c :: cs)) = c :: cs := by
    intro n
    induction n with
    | zero =>
      intro c cs hl h h0
      cases cs with
      | nil =>
        have := h.head
        have e : digitsVal [c] = c - 48 := by show 0 * 10 + (c - 48) = _; omega
        rw [e, digs_small (by omega)]
        congr 1
        omega
      | cons => simp at hl
    | succ n ih =>
      intro c cs hl h h0
      have hne : cs ≠ [] := by intro z; rw [z] at hl; simp at hl
      obtain ⟨ds, d, rfl⟩ : ∃ ds d, cs = ds ++ [d] := ⟨cs.dropLast, cs.getLast hne, (List.dropLast_concat_getLast hne).symm⟩
      have h1 : AllDigits (c :: ds) := fun x hx => h x (by
        rcases List.mem_cons.mp hx with rfl | hx
        · simp
        · simp [hx])
      have hd := h d (by simp)
      have i1 := ih c ds (by simpa using hl) h1 h0
      rw [← List.cons_append, val_snoc, digs_big (val_pos h1 h0) (by omega), i1]
      congr 2
      omega
  exact fun {c} => key cs.length c cs rfl
theorem val_lt : ∀ (cs : List Nat), AllDigits cs → digitsVal cs < 10 ^ cs.length := by
  have key : ∀ (n : Nat) (cs : List Nat), cs.length = n → AllDigits cs → digitsVal cs < 10 ^ n := by
    intro n
    induction n with
    | zero => intro cs hl _; cases cs with
      | nil => decide
      | cons => simp at hl
    | succ n ih =>
      intro cs hl h
      have hne : cs ≠ [] := by intro z; rw [z] at hl; simp at hl
      obtain ⟨ds, d, rfl⟩ : ∃ ds d, cs = ds ++ [d] := ⟨cs.dropLast, cs.getLast hne, (List.dropLast_concat_getLast hne).symm⟩
      have hd := h d (by simp)
      have i1 := ih ds (by simpa using hl) (fun x hx => h x (by simp [hx]))
      rw [val_snoc, Nat.pow_succ]
      omega
  exact fun cs h => key cs.length cs rfl h
theorem digs_len {n k : Nat} (h : n < 10 ^ k) (hk : 0 < k) : (digs n).length ≤ k := by
  unfold digs
  rw [List.length_map]
  exact (Nat.length_toDigits_le_iff (by decide) hk).mpr h
theorem itext_len {i : Int} {k : Nat} (h : i.natAbs < 10 ^ k) (hk : 0 < k) : (itext i).length ≤ k + 1 := by
  have := digs_len h hk
  unfold itext
  split
  · simp; omega
  · omega
/-- a number's text is read back -/
theorem int_itext {i : Int} (h : (itext i).length ≤ 640) : PySem.intText? (sT (itext i)) = some i := by
  unfold itext at h ⊢
  split at h
  · rename_i hi
    rw [if_pos hi]
    rw [intText_neg (cs := digs i.natAbs) (by simp) (digs_all _) (digs_ne _) (by simp; simp at h; omega), val_digs]
    congr 1
    omega
  · rename_i hi
    rw [if_neg hi]
    rw [intText_digits (by simpa using digs_all _) (by simpa using digs_ne _) (by simp; omega)]
    simp only [sT_cps, val_digs]
    congr 1
    omega
theorem itext_pos {cs : List Nat} {c : Nat} (h : AllDigits (c :: cs)) (h0 : c ≠ 48) : itext ((digitsVal (c :: cs) : Nat) : Int) = c :: cs := by
  unfold itext
  rw [if_neg (by omega), Int.natAbs_natCast, digs_val h h0]
theorem itext_neg {cs : List Nat} {c : Nat} (h : AllDigits (c :: cs)) (h0 : c ≠ 48) : itext (-((digitsVal (c :: cs) : Nat) : Int)) = 45 :: c :: cs := by
  have := val_pos h h0
  unfold itext
  rw [if_pos (by omega), Int.natAbs_neg, Int.natAbs_natCast, digs_val h h0]
/-! ### rows for simp -/
section
variable {S : Sta} {ε : Env}
@[simp ↓] theorem Rng3I_ap {ms : Env → Sta → Out (List PV)} : Rng3I ms ε S = ((ms ε S).bind fun xs S1 => match xs with
  | [.int i, .int j, .int c] => if c ≠ 0 ∧ c.natAbs < 1073741824 ∧ Builtin.Range.small i j c = true then .ok ⟨(List.range (Builtin.Range.rangeSize i j c).toNat).map fun (k : Nat) => .int (i + (k : Int) * c), []⟩ S1 else .stuck
  | _ => .stuck) := id rfl
@[simp] theorem fStr_ap {i : Int} : fStr [.int i] S = if i.natAbs.log2 < 1920 then .ok (.str (toString i)) S else .stuck := id rfl
@[simp] theorem fIntX_str {a : Str} : fIntX [.str a] S = (match PySem.intText? a with
    | some n => if a.length ≤ 640 then .ok (.int n) S else .stuck
    | none => .stuck) := id rfl
@[simp] theorem fNotInS_sg {c : Nat} {z : Str} : fNotInS S (.str ⟨#[c]⟩) (.str z) = some (.bl (!decide (c ∈ z.cps.toList))) := id rfl
@[simp] theorem fInS_sg {c : Nat} {z : Str} : fInS S (.str ⟨#[c]⟩) (.str z) = some (.bl (decide (c ∈ z.cps.toList))) := id rfl
@[simp] theorem fRepS_sg {c : Nat} {k : Int} : fRepS S (.str ⟨#[c]⟩) (.int k) = if 2 ≤ k ∧ k ≤ 1000 then some (.str (manyS k.toNat c)) else none := id rfl
end
theorem manyS_eq {n c : Nat} : manyS n c = sT (List.replicate n c) := rfl
theorem cutS_eq {l : List Nat} {lo hi : Option Int} : cutS (sT l) lo hi = sT ((l.drop (HT.sIx l.length 0 lo)).take (HT.sIx l.length l.length hi - HT.sIx l.length 0 lo)) := by
  unfold cutS
  rw [sT_cps, sT_len]
  rfl
theorem cutS_ab {l : List Nat} {a b : Nat} (h : b ≤ l.length) (h2 : a ≤ b) : cutS (sT l) (some (a : Int)) (some (b : Int)) = sT ((l.drop a).take (b - a)) := by
  rw [cutS_eq, HT.sIx_nat, HT.sIx_nat, Nat.min_eq_left h, Nat.min_eq_left (Nat.le_trans h2 h)]
theorem cutS_b {l : List Nat} {b : Nat} : cutS (sT l) none (some (b : Int)) = sT (l.take b) := by
  rw [cutS_eq, HT.sIx_nat, HT.sIx_none, List.drop_zero, Nat.sub_zero, sT_inj]
  by_cases h : b ≤ l.length
  · rw [Nat.min_eq_left h]
  · rw [Nat.min_eq_right (by omega), List.take_length, List.take_of_length_le (by omega)]
theorem cutS_a {l : List Nat} {a : Nat} : cutS (sT l) (some (a : Int)) none = sT (l.drop a) := by
  rw [cutS_eq, HT.sIx_nat, HT.sIx_none, sT_inj]
  by_cases h : a ≤ l.length
  · rw [Nat.min_eq_left h, List.take_of_length_le (by rw [List.length_drop]; omega)]
  · rw [Nat.min_eq_right (by omega)]
    simp [List.drop_eq_nil_of_le (show l.length ≤ a by omega)]
/-! ### joining -/
def commas (a : List Nat) : List (List Nat) → List Nat
  | [] => []
  | [u] => u
  | u :: v :: us => u ++ (a ++ commas a (v :: us))
theorem fold_glue (a : List Nat) : ∀ (us : List (List Nat)) (acc : Array Nat), (us.map sT).foldl (fun acc p => acc ++ (sT a).cps ++ p.cps) acc = acc ++ (us.flatMap fun u => a ++ u).toArray
  | [], acc => by simp
  | u :: us, acc => by
    rw [List.map_cons, List.foldl_cons, fold_glue a us]
    apply Array.ext'
    simp [sT]
theorem commas_flat (a : List Nat) : ∀ (us : List (List Nat)) (u : List Nat), commas a (u :: us) = u ++ us.flatMap fun u => a ++ u
  | [], u => by simp [commas]
  | v :: us, u => by
    rw [commas, commas_flat a us v]
    simp
theorem join_eq (a : List Nat) (us : List (List Nat)) : Txt.join (sT a) (us.map sT) = sT (commas a us) := by
  show Builtin.Str.glued (sT a) (us.map sT) = _
  unfold Builtin.Str.glued
  cases us with
  | nil => rfl
  | cons u us =>
    simp only [List.map_cons, List.headD_cons, List.drop_succ_cons, List.drop_zero]
    rw [fold_glue, commas_flat]
    show (⟨_⟩ : Str) = ⟨_⟩
    congr 1
    apply Array.ext'
    simp [sT]
theorem commas_len (a : List Nat) : ∀ (us : List (List Nat)) (u : List Nat), (commas a (u :: us)).length + a.length = ((u :: us).map (·.length)).sum + (us.length + 1) * a.length
  | [], u => by simp [commas]
  | v :: us, u => by
    have ih := commas_len a us v
    rw [commas]
    simp only [List.length_append, List.map_cons, List.sum_cons, List.length_cons] at ih ⊢
    rw [Nat.succ_mul (us.length + 1)]
    omega
theorem len_sT (us : List (List Nat)) : (us.map sT).map (·.length) = us.map (·.length) := by
  rw [List.map_map]
  exact List.map_congr_left fun u _ => sT_len
theorem strsP_sT : ∀ us : List (List Nat), strsP (us.map fun u => PV.str (sT u)) = some (us.map sT)
  | [] => rfl
  | u :: us => by simp only [List.map_cons, strsP, strsP_sT us]; rfl
/-! ### a while statement, turn by turn -/
section
variable {mc : Env → Sta → Out Bool} {mb : Env → Sta → Flow} {n : Nat} {ε ε' : Env} {S S1 S' : Sta}
theorem it_nx (hc : mc ε S = .ok true S1) (hb : mb ε S1 = .nx ε' S') : iterW mc mb (n + 1) ε S = iterW mc mb n ε' S' := by simp [iterW, hc, hb]
theorem it_rt {p : PV} (hc : mc ε S = .ok true S1) (hb : mb ε S1 = .rt p S') : iterW mc mb (n + 1) ε S = .rt p S' := by simp [iterW, hc, hb]
theorem it_ex {c : String} {xs : List PV} (hc : mc ε S = .ok true S1) (hb : mb ε S1 = .ex c xs ε' S') : iterW mc mb (n + 1) ε S = .ex c xs ε' S' := by simp [iterW, hc, hb]
theorem it_bk (hc : mc ε S = .ok true S1) (hb : mb ε S1 = .bk ε' S') : iterW mc mb (n + 1) ε S = .nx ε' S' := by simp [iterW, hc, hb]
theorem it_stop (hc : mc ε S = .ok false S1) : iterW mc mb (n + 1) ε S = .nx ε S1 := by simp [iterW, hc]
end
/-! ### texts of bounded length -/
def StrB (B : Nat) (p : PV) : Prop := ∃ z : Str, p = .str z ∧ z.length ≤ B
theorem strs_all {B : Nat} : ∀ {ps : List PV}, (∀ p ∈ ps, StrB B p) → ∃ zs : List Str, strsP ps = some zs ∧ zs.length = ps.length ∧ (zs.map (·.length)).sum ≤ ps.length * B
  | [], _ => ⟨[], rfl, rfl, by simp⟩
  | p :: ps, h => by
    obtain ⟨z, rfl, hz⟩ := h p (by simp)
    obtain ⟨zs, e, h1, h2⟩ := strs_all (B := B) fun q hq => h q (List.mem_cons_of_mem _ hq)
    refine ⟨z :: zs, by simp only [strsP, e]; rfl, by simp [h1], ?_⟩
    rw [List.map_cons, List.sum_cons, List.length_cons, Nat.succ_mul]
    omega
theorem join_len (a : Str) (zs : List Str) : (Txt.join a zs).length ≤ (zs.map (·.length)).sum + zs.length * a.length := by
  have e : zs = (zs.map fun z => z.cps.toList).map sT := by
    rw [List.map_map]
    conv => lhs; rw [← List.map_id zs]
    exact List.map_congr_left fun z _ => sT_of z
  rw [sT_of a, e, join_eq, sT_len, len_sT, List.length_map, sT_len]
  generalize (zs.map fun z => z.cps.toList) = us
  cases us with
  | nil => simp [commas]
  | cons u us =>
    have := commas_len a.cps.toList us u
    rw [List.length_cons]
    omega
theorem all2_strs {B : Nat} {xs ys : List PV} (h : All2 (fun _ y => StrB B y) xs ys) : (∀ p ∈ ys, StrB B p) ∧ ys.length = xs.length := by
  induction h with
  | nil => exact ⟨fun _ h => (by cases h), rfl⟩
  | cons h1 h2 ih =>
    refine ⟨fun p hp => ?_, by simp [ih.2]⟩
    rcases List.mem_cons.mp hp with rfl | hp
    · exact h1
    · exact ih.1 p hp
theorem str_app_len (a b : Str) : (a ++ b).length = a.length + b.length := by
  show (a.cps ++ b.cps).size = _
  rw [Array.size_append]; rfl
theorem cutS_len (z : Str) (l u : Option Int) : (cutS z l u).length ≤ z.length := by
  rw [sT_of z, cutS_eq, sT_len, sT_len, List.length_take, List.length_drop]
  omega
theorem toS_len {i : Int} {k : Nat} (h : i.natAbs < 10 ^ k) (hk : 0 < k) : (Str.ofString i.repr).length ≤ k + 1 := by
  have := toS_int i
  rw [show Str.ofString i.repr = sT (itext i) from this, sT_len]
  exact itext_len h hk
theorem log_of {i : Int} {k : Nat} (h : i.natAbs < 2 ^ k) (hk : k ≤ 1920) (h0 : 0 < k) : i.natAbs.log2 < 1920 := by
  by_cases h1 : i.natAbs = 0
  · rw [h1]; decide
  · have := (Nat.log2_lt h1).mpr h
    omega
/-! ### a scope left, its slots holding no cell of its own -/
mutual
theorem frz_clean (k : Nat) (S : Sta) : ∀ p : PV, clean k p = true → frz k S p = some p
  | .non, _ => by simp only [frz]
  | .bl _, _ => by simp only [frz]
  | .int _, _ => by simp only [frz]
  | .str _, _ => by simp only [frz]
  | .tup xs, h => by simp only [clean] at h; simp only [frz, frzs_clean k S xs h, Option.map_some]
  | .lst xs, h => by simp only [clean] at h; simp only [frz, frzs_clean k S xs h, Option.map_some]
  | .kls xs, h => by simp only [clean] at h; simp only [frz, frzs_clean k S xs h, Option.map_some]
  | .obj _ _ xs, h => by simp only [clean] at h; simp only [frz, frzs_clean k S xs h, Option.map_some]
  | .mu n, h => by simp only [clean, decide_eq_true_eq] at h; simp only [frz, h, if_true]
  | .xv n, h => by simp only [clean, decide_eq_true_eq] at h; simp only [frz, h, if_true]
  | .dct, _ => by simp only [frz]
theorem frzs_clean (k : Nat) (S : Sta) : ∀ ps : List PV, cleans k ps = true → frzs k S ps = some ps
  | [], _ => by simp only [frzs]
  | p :: ps, h => by
    simp only [cleans, Bool.and_eq_true] at h
    simp only [frzs, frz_clean k S p h.1, frzs_clean k S ps h.2]
end
def envC (k : Nat) (ε : Env) : Bool := ε.all fun o => match o with
  | some p => clean k p
  | none => true
theorem leaveE_clean {S T : Sta} {ε : Env} (hS : flatS S = true) (hε : envC S.length ε = true) : leaveE S.length ε (S ++ T) = some (ε, S) := by
  rw [leaveE_flat hS]
  have e : ε.map (frzO S.length (S ++ T)) = ε := by
    conv => rhs; rw [← List.map_id ε]
    refine List.map_congr_left fun o ho => ?_
    have h := List.all_eq_true.mp hε o ho
    cases o with
    | none => rfl
    | some p => exact frz_clean _ _ p h
  rw [e]
  split <;> rfl
theorem lp_nx {g : MG} {mb : Env → Sta → Flow} {pins : List (Nat × List PV)} {x : PV} {xs : List PV} {ε ε1 ε2 : Env} {S S1 S2 : Sta} (hp : pinsOk S pins = true) (hg : g x ε S = .ok ε1 S1) (hb : mb ε1 S1 = .nx ε2 S2) : loop g mb pins (x :: xs) ε S = loop g mb pins xs ε2 S2 := by simp [loop, hp, hg, hb]
theorem seq_nx {A B : Env → Sta → Flow} {ε ε' : Env} {S S' : Sta} (h : A ε S = .nx ε' S') : SeqS A B ε S = B ε' S' := by
  unfold SeqS
  rw [h]; rfl
theorem for_nx {mi : Env → Sta → Out IT} {g : MG} {mb : Env → Sta → Flow} {ε ε' : Env} {S S1 S' : Sta} {it : IT} (hi : mi ε S = .ok it S1) (h : loop g mb it.pins it.xs ε S1 = .nx ε' S') : ForS mi g mb ε S = .nx ε' S' := by
  rw [ForS_ap, hi]; exact h
theorem set_nx {i : Nat} {me : Env → Sta → Out PV} {ε : Env} {S S' : Sta} {p : PV} (h : me ε S = .ok p S') : SetS i me ε S = .nx (ε.set i (some p)) S' := by
  rw [SetS_ap, h]; rfl
theorem small_step {b c : Int} (hb : 0 ≤ b) (hb' : b ≤ 4611686018427387904) (hc : 1 ≤ c) (hc' : c ≤ 1000000000) : Builtin.Range.small 0 b c = true := by
  have hn : 0 ≤ Builtin.Range.rangeSize 0 b c ∧ Builtin.Range.rangeSize 0 b c ≤ b := by
    unfold Builtin.Range.rangeSize
    rw [if_pos (by omega)]
    split
    · have h1 := Int.ediv_nonneg (a := b - 0 - 1) (b := c) (by omega) (by omega)
      have h2 : (b - 0 - 1) / c ≤ b - 0 - 1 := Int.ediv_le_self _ (by omega)
      omega
    · omega
  unfold Builtin.Range.small
  generalize Builtin.Range.rangeSize 0 b c = n at hn
  have e63 : (2 : Int) ^ 63 = 9223372036854775808 := by decide
  have hc0 : c > 0 := by omega
  simp only [hc0, if_true, Builtin.Range.rangeFitsLong, Bool.and_eq_true, Bool.or_eq_true, decide_eq_true_eq, beq_iff_eq, e63]
  exact ⟨⟨⟨⟨by omega, by omega⟩, by omega⟩, by omega⟩, .inr (by omega)⟩
end Fx
namespace K03
open PySem L2 Co Fx NumText
/-! ### is_whole, is_sequence -/
def loP : PV → Int → Bool
  | .int l, i => decide (l ≤ i)
  | _, _ => true
def hiP : PV → Int → Bool
  | .int h, i => decide (i ≤ h)
  | _, _ => true
def bndP : PV → Bool
  | .non => true
  | .int _ => true
  | _ => false
@[simp] theorem bndP_1 : bndP .non = true := id rfl
@[simp] theorem bndP_2 {i : Int} : bndP (.int i) = true := id rfl
@[simp] theorem loP_1 {i : Int} : loP .non i = true := id rfl
@[simp] theorem loP_2 {l i : Int} : loP (.int l) i = decide (l ≤ i) := id rfl
@[simp] theorem hiP_1 {i : Int} : hiP .non i = true := id rfl
@[simp] theorem hiP_2 {l i : Int} : hiP (.int l) i = decide (i ≤ l) := id rfl
def wholeP : PV → PV → PV → Bool
  | .int i, lo, hi => loP lo i && hiP hi i
  | _, _, _ => false
@[simp] theorem wholeP_int {i : Int} {lo hi : PV} : wholeP (.int i) lo hi = (loP lo i && hiP hi i) := id rfl
@[simp] theorem wholeP_bl {i : Bool} {lo hi : PV} : wholeP (.bl i) lo hi = false := id rfl
@[simp] theorem wholeP_str {i : Str} {lo hi : PV} : wholeP (.str i) lo hi = false := id rfl
@[simp] theorem wholeP_tup {i : List PV} {lo hi : PV} : wholeP (.tup i) lo hi = false := id rfl
@[simp] theorem wholeP_lst {i : List PV} {lo hi : PV} : wholeP (.lst i) lo hi = false := id rfl
@[simp] theorem wholeP_non {lo hi : PV} : wholeP .non lo hi = false := id rfl
theorem v_is_whole {x lo hi : PV} {S : Sta} (hx : (tyP S x).isSome = true) (h1 : bndP lo = true) (h2 : bndP hi = true) : m_is_whole [x, lo, hi] S = .ok (.bl (wholeP x lo hi)) S := by
  cases x with
  | int i =>
    cases lo <;> first | (cases h1; done) | skip
    all_goals cases hi <;> first | (cases h2; done) | skip
    all_goals simp [m_is_whole]
  | mu n =>
    simp only [tyP_mu] at hx
    split at hx
    · rename_i xs e; simp [m_is_whole, e, wholeP]
    · cases hx
  | obj => cases hx
  | xv => cases hx
  | non => simp [m_is_whole]
  | dct => simp [m_is_whole, wholeP]
  | bl => simp [m_is_whole]
  | str => simp [m_is_whole]
  | tup => simp [m_is_whole]
  | lst => simp [m_is_whole]
  | kls => simp [m_is_whole, wholeP]
def lenP (S : Sta) (x : PV) : Option Nat := (items S x).map fun q => q.2.length
def seqP (S : Sta) (x lo hi : PV) : Bool := match items S x with
  | some (_, xs) => wholeP (.int (xs.length : Int)) lo hi
  | none => false
theorem v_is_sequence {x lo hi : PV} {S : Sta} (hx : (tyP S x).isSome = true) (h1 : bndP lo = true) (h2 : bndP hi = true) : m_is_sequence [x, lo, hi] S = .ok (.bl (seqP S x lo hi)) S := by
  cases x with
  | mu n =>
    simp only [tyP_mu] at hx
    split at hx
    · rename_i xs e; simp [m_is_sequence, e, seqP, v_is_whole, h1, h2]
    · cases hx
  | obj => cases hx
  | xv => cases hx
  | non => simp [m_is_sequence, seqP, items]
  | dct => simp [m_is_sequence, seqP, items]
  | bl => simp [m_is_sequence, seqP, items]
  | str => simp [m_is_sequence, seqP, items]
  | int => simp [m_is_sequence, seqP, items]
  | tup => simp [m_is_sequence, seqP, v_is_whole, h1, h2]
  | lst => simp [m_is_sequence, seqP, v_is_whole, h1, h2]
  | kls => simp [m_is_sequence, seqP, v_is_whole, h1, h2]
/-! ### the bag -/
theorem v_draw {b : BS} {lim : Int} {T : Sta} (h : Bi b) (hcn : b.c < 1000000000) (h1 : 1 ≤ lim) (h2 : lim ≤ 10 ^ 30) : m__law_draw [.mu 0, .int lim] (bagC b :: T) = .ok (.int (dv b lim)) (bagC (db b lim) :: T) := by
  obtain ⟨p, ns, i, g, c, s⟩ := b
  obtain ⟨h0i, h0g, h0c, h0s, hs⟩ := h
  dsimp only at h0i h0g h0c hcn h0s hs
  have hl := lim_log h1 h2
  have c64 : -18446744073709551616 < c + 1 ∧ c + 1 < 18446744073709551616 := ⟨by omega, by omega⟩
  unfold bagC
  by_cases hg : 0 < g
  · simp [m__law_draw, envOf, hg, hl, ixN, drw, dv, db]
  · by_cases hi : i < (ns.length : Int)
    · obtain ⟨z, hz⟩ : ∃ z, ns[i.toNat]? = some z := ⟨_, List.getElem?_eq_getElem (by omega)⟩
      have hix : atI (ns.map PV.int) i = some (.int z) := atI_get h0i (by rw [List.getElem?_map, hz]; rfl)
      by_cases hb : 10 ^ 18 ≤ absI z
      · have hb' : 1000000000000000000 ≤ if z < 0 then -z else z := hb
        simp [m__law_draw, envOf, hg, hi, hl, hix, ixN, drw, dv, db, hz, absI, hb']
      · have hb' : ¬ 1000000000000000000 ≤ if z < 0 then -z else z := hb
        simp [m__law_draw, envOf, hg, hi, hl, hix, ixN, drw, dv, db, hz, absI, hb', mix1, mix2, log65536, log7, c64]
    · simp [m__law_draw, envOf, hg, hi, hl, ixN, drw, dv, db, mix1, mix2, log65536, log7, c64]
/-- a draw: some number in the range, some bag -/
theorem v_drawE {b : BS} {n : Nat} {lim : Int} (T : Sta) (h : BOk b (n + 1)) (h1 : 1 ≤ lim) (h2 : lim ≤ 10 ^ 30) : ∃ r b', m__law_draw [.mu 0, .int lim] (bagC b :: T) = .ok (.int r) (bagC b' :: T) ∧ 0 ≤ r ∧ r < lim ∧ BOk b' n :=
  ⟨_, _, v_draw h.i (by have := h.c; omega) h1 h2, (draw_range h1).1, (draw_range h1).2, bok_db h h1⟩
theorem v_bag {ns : List Int} (h : ns.length ≤ 63) : ∃ b, m__law_bag [.kls (ns.map .int)] [] = .ok (.mu 0) [bagC b] ∧ BOk b 900000000 := by
  refine ⟨⟨0, ns, 0, 0, 0, 20021⟩, ?_, ⟨(by decide : (0 : Int) ≤ 0), (by decide : (0 : Int) ≤ 0), (by decide : (0 : Int) ≤ 0), (by decide : (0 : Int) ≤ 20021), (by decide : (20021 : Int) < 2147483647)⟩, (by decide : (0 : Int) + (900000000 : Nat) ≤ 1000000000)⟩
  have hc : cutP (ns.map PV.int) none (some 63) = ns.map .int := by
    unfold cutP
    have : HT.sIx (ns.map PV.int).length 0 none = 0 := rfl
    rw [this, List.drop_zero, Nat.sub_zero, List.take_of_length_le]
    rw [List.length_map]
    show ns.length ≤ HT.sIx ns.length ns.length (some 63)
    simp [HT.sIx]
    omega
  have hl : lcLoop (NameG 1) YesT (CbE fInt (ConsA (VarE 1) NilA)) [] [some (.kls (ns.map .int)), none] (ns.map .int) [] [] = .ok ([] ++ (ns.map PV.int).map fun x => x) [] := by
    refine lcLoop_map (fun x => x) rfl _ _ (fun x hx => ?_) (by simp; omega)
    obtain ⟨z, hz, rfl⟩ := List.mem_map.mp hx
    exact ⟨_, rfl, rfl, rfl⟩
  simp [m__law_bag, fSl, hc, hl, newL, bagC]
def lets : List Nat := (Str.ofString "abcdefghijklmnopqrstuvwxyz").cps.toList
def figs : List Nat := (Str.ofString "0123456789").cps.toList
@[simp] theorem sg_open {c : Nat} : ((⟨#[c]⟩ : Str) = Str.ofString "[") = (c = 91) := sg_eq
@[simp] theorem sg_close {c : Nat} : ((⟨#[c]⟩ : Str) = Str.ofString "]") = (c = 93) := sg_eq
@[simp] theorem sg_comma {c : Nat} : ((⟨#[c]⟩ : Str) = Str.ofString ",") = (c = 44) := sg_eq
@[simp] theorem sg_minus {c : Nat} : ((⟨#[c]⟩ : Str) = Str.ofString "-") = (c = 45) := sg_eq
@[simp] theorem sg_zero {c : Nat} : ((⟨#[c]⟩ : Str) = Str.ofString "0") = (c = 48) := sg_eq
theorem lets_no {c : Nat} (h : c ∈ lets) : c ∉ figs ∧ c ≠ 91 ∧ c ≠ 93 ∧ c ≠ 44 ∧ c ≠ 45 ∧ c ≠ 48 := by
  have : ∀ c ∈ lets, c ∉ figs ∧ c ≠ 91 ∧ c ≠ 93 ∧ c ≠ 44 ∧ c ≠ 45 ∧ c ≠ 48 := by decide +kernel
  exact this c h
theorem figs_no {c : Nat} (h : c ∈ figs) : c ∉ lets ∧ c ≠ 91 ∧ c ≠ 93 ∧ c ≠ 44 ∧ c ≠ 45 ∧ 48 ≤ c ∧ c ≤ 57 := by
  have : ∀ c ∈ figs, c ∉ lets ∧ c ≠ 91 ∧ c ≠ 93 ∧ c ≠ 44 ∧ c ≠ 45 ∧ 48 ≤ c ∧ c ≤ 57 := by decide +kernel
  exact this c h
theorem figs_of {c : Nat} (h1 : 48 ≤ c) (h2 : c ≤ 57) : c ∈ figs := by
  have : ∀ k : Nat, k < 10 → 48 + k ∈ figs := by decide +kernel
  have := this (c - 48) (by omega)
  rwa [show 48 + (c - 48) = c by omega] at this
theorem fig0 : (48 : Nat) ∈ figs := by decide +kernel
theorem no91 : (91 : Nat) ∉ lets ∧ (91 : Nat) ∉ figs := by decide +kernel
theorem no93 : (93 : Nat) ∉ lets ∧ (93 : Nat) ∉ figs := by decide +kernel
theorem no44 : (44 : Nat) ∉ lets ∧ (44 : Nat) ∉ figs := by decide +kernel
theorem no45 : (45 : Nat) ∉ lets ∧ (45 : Nat) ∉ figs := by decide +kernel
theorem figs_e : (Str.ofString "0123456789").cps.toList = figs := rfl
theorem lets_e : (Str.ofString "abcdefghijklmnopqrstuvwxyz").cps.toList = lets := rfl
/-! ### signs, runs -/
theorem v_sign_at {l : List Nat} {n : Nat} {S : Sta} (hl : l.length ≤ 100000) : m__sign_at [.str (sT l), .int n] S = (match l[n]? with
    | some c => .ok (.str ⟨#[c]⟩) S
    | none => .ex "BadText" [.int n] S) := by
  cases e : l[n]? with
  | none =>
    have h : l.length ≤ n := by simpa using e
    have h' : (l.length : Int) ≤ n := by omega
    simp [m__sign_at, hl, h]
  | some c =>
    have h : n < l.length := (List.getElem?_eq_some_iff.mp e).1
    have h' : ¬ l.length ≤ n := by omega
    have hx : atI l (n : Int) = some c := atI_get (by omega) (by simpa using e)
    simp [m__sign_at, hl, h', hx]
def cnt (B : Nat → Bool) : Nat → List Nat → Nat
  | 0, _ => 0
  | _ + 1, [] => 0
  | m + 1, c :: cs => if B c = true then 1 + cnt B m cs else 0
theorem run_loop {l sg : List Nat} {at' most : Nat} {S : Sta} (hl : l.length ≤ 100000) : ∀ (m e F : Nat), m < F → at' ≤ e → e ≤ l.length → most = m + (e - at') →
    iterW W__run_end_1c W__run_end_1 F [some (.str (sT l)), some (.int at'), some (.str (sT sg)), some (.int most), some (.int e)] S = .nx [some (.str (sT l)), some (.int at'), some (.str (sT sg)), some (.int most), some (.int ((e + cnt (fun c => decide (c ∈ sg)) m (l.drop e) : Nat) : Int))] S
  | 0, e, F + 1, _, h1, h2, h3 => by
    have h3' : ¬ ((e : Int) - at' < most) := by omega
    by_cases h4 : e < l.length
    · simp [iterW, W__run_end_1c, hl, h3', h4, cnt]
    · simp [iterW, W__run_end_1c, hl, h4, cnt]
  | m + 1, e, F + 1, hF, h1, h2, h3 => by
    have h3' : ((e : Int) - at' < most) := by omega
    by_cases h4 : e < l.length
    · have hx : atI l (e : Int) = some l[e] := atI_get (by omega) (by simpa using List.getElem?_eq_getElem h4)
      rw [List.drop_eq_getElem_cons h4]
      by_cases h5 : l[e] ∈ sg
      · have ih := run_loop (S := S) (sg := sg) (at' := at') (most := most) hl m (e + 1) F (by omega) (by omega) (by omega) (by omega)
        have ee : ((e + (1 + cnt (fun c => decide (c ∈ sg)) m (l.drop (e + 1))) : Nat) : Int) = ((e + 1 + cnt (fun c => decide (c ∈ sg)) m (l.drop (e + 1)) : Nat) : Int) := by omega
        simp only [cnt, h5, decide_true, if_true, ee]
        rw [← ih]
        have e1 : ((e + 1 : Nat) : Int) = (e : Int) + 1 := by omega
        simp [iterW, W__run_end_1c, W__run_end_1, hl, h3', h4, hx, h5, e1]
      · simp [iterW, W__run_end_1c, hl, h3', h4, hx, h5, cnt]
    · have h6 : l.drop e = [] := List.drop_eq_nil_of_le (by omega)
      simp [iterW, W__run_end_1c, hl, h4, h6, cnt]
theorem v_run_end {l sg : List Nat} {n most : Nat} {S : Sta} (hl : l.length ≤ 100000) (h1 : n ≤ l.length) (h2 : most ≤ 1000) : m__run_end [.str (sT l), .int n, .str (sT sg), .int most] S = .ok (.int ((n + cnt (fun c => decide (c ∈ sg)) most (l.drop n) : Nat) : Int)) S := by
  have h := run_loop (S := S) (sg := sg) (at' := n) (most := most) hl most n 1000000 (by omega) (Nat.le_refl _) h1 (by omega)
  simp [m__run_end, h]
theorem cnt_le (B : Nat → Bool) : ∀ (m : Nat) (s : List Nat), cnt B m s ≤ m ∧ cnt B m s ≤ s.length
  | 0, _ => by simp [cnt]
  | _ + 1, [] => by simp [cnt]
  | m + 1, c :: cs => by
    have := cnt_le B m cs
    unfold cnt
    split <;> simp <;> omega
theorem cnt_all (B : Nat → Bool) : ∀ (m : Nat) (s : List Nat), ∀ c ∈ s.take (cnt B m s), B c = true
  | 0, _, c, h => by simp [cnt] at h
  | _ + 1, [], c, h => by simp [cnt] at h
  | m + 1, d :: cs, c, h => by
    unfold cnt at h
    split at h
    · rename_i hd
      rw [Nat.add_comm, List.take_succ_cons] at h
      rcases List.mem_cons.mp h with rfl | h
      · exact hd
      · exact cnt_all B m cs c h
    · simp at h
theorem cnt_end (B : Nat → Bool) : ∀ (m : Nat) (s : List Nat), cnt B m s = m ∨ ∀ c cs, s.drop (cnt B m s) = c :: cs → B c = false
  | 0, _ => .inl rfl
  | _ + 1, [] => .inr (by simp)
  | m + 1, d :: cs => by
    unfold cnt
    split
    · rename_i hd
      rcases cnt_end B m cs with h | h
      · exact .inl (by omega)
      · refine .inr fun c ds e => h c ds ?_
        rw [Nat.add_comm, List.drop_succ_cons] at e
        exact e
    · rename_i hd
      refine .inr fun c ds e => ?_
      simp at e
      rw [← e.1]
      simpa using hd
end K03
namespace K03
open PySem L2 Co Fx NumText
/-! ### the text of data -/
mutual
def txt : PV → List Nat
  | .str z => z.cps.toList
  | .int i => itext i
  | .tup xs => 91 :: (commas [44] (txts xs) ++ [93])
  | .lst xs => 91 :: (commas [44] (txts xs) ++ [93])
  | _ => []
def txts : List PV → List (List Nat)
  | [] => []
  | p :: ps => txt p :: txts ps
end
def nameB (z : Str) : Bool := decide (1 ≤ z.length ∧ z.length ≤ 12) && z.cps.toList.all fun c => decide (c ∈ lets)
def BIG : Int := (9999999999999999999999999999999999999999999999999999999999999999999999999999999999999999999999999999999999999999999999999999999999999999999999999999999999999999999999999999999999999999999999999999999999999999999999999999999999999999999999999999999999999999999999999999999999999999999999999999999999999999999999999999999999999999999999999999999999999999999999999999999999999999999999999999999999999999)
mutual
def gd : PV → Nat → Bool
  | .str z, _ => nameB z
  | .int i, _ => decide (-BIG ≤ i) && decide (i ≤ BIG)
  | .tup xs, k => decide (k < 40) && gds xs (k + 1)
  | .lst xs, k => decide (k < 40) && gds xs (k + 1)
  | _, _ => false
def gds : List PV → Nat → Bool
  | [], _ => true
  | p :: ps, k => gd p k && gds ps k
end
theorem txts_map : ∀ xs : List PV, txts xs = xs.map txt
  | [] => rfl
  | p :: ps => by rw [txts, txts_map ps]; rfl
theorem gds_mem {k : Nat} : ∀ {xs : List PV}, gds xs k = true → ∀ x ∈ xs, gd x k = true
  | [], _, x, h => by cases h
  | p :: ps, h, x, hx => by
    simp only [gds, Bool.and_eq_true] at h
    rcases List.mem_cons.mp hx with rfl | hx
    · exact h.1
    · exact gds_mem h.2 x hx
theorem sum_le {us : List (List Nat)} : ∀ {u : List Nat}, u ∈ us → u.length ≤ (us.map (·.length)).sum := by
  induction us with
  | nil => intro u h; cases h
  | cons v us ih =>
    intro u h
    simp only [List.map_cons, List.sum_cons]
    rcases List.mem_cons.mp h with rfl | h
    · omega
    · have := ih h; omega
theorem commas_sum (us : List (List Nat)) : (us.map (·.length)).sum + us.length ≤ (commas [44] us).length + 1 := by
  cases us with
  | nil => simp
  | cons u us =>
    have := commas_len [44] us u
    simp only [List.length_cons, List.length_nil, Nat.zero_add, Nat.mul_one] at this ⊢
    omega
def isLet : PV → PV
  | .str q => .bl (decide (q.cps.toList.headD 0 ∈ lets))
  | _ => .non
theorem v_is_name {S : Sta} {z : Str} (h : z.length ≤ 100000) : m_is_name [.str z] S = .ok (.bl (nameB z)) S := by
  unfold nameB
  by_cases h1 : 1 ≤ z.length
  · have h1' : (1 : Int) ≤ z.length := by omega
    by_cases h2 : z.length ≤ 12
    · have h2' : (z.length : Int) ≤ 12 := by omega
      have hl : lcLoop (NameG 1) YesT (OpE fInS (VarE 1) (Fx.CE (.str "abcdefghijklmnopqrstuvwxyz"))) [] [some (.str z), none] (z.cps.toList.map fun c => .str ⟨#[c]⟩) [] S = .ok ([] ++ (z.cps.toList.map fun c => PV.str ⟨#[c]⟩).map isLet) S := by
        refine lcLoop_map _ rfl _ _ (fun p hp => ?_) ?_
        · obtain ⟨c, _, rfl⟩ := List.mem_map.mp hp
          exact ⟨[some (.str z), some (.str ⟨#[c]⟩)], rfl, rfl, by simp [lets, isLet]⟩
        · simp
          have : z.cps.size = z.length := rfl
          omega
      have e2 : (z.cps.toList.map fun c => PV.str ⟨#[c]⟩).map isLet = z.cps.toList.map fun c => PV.bl (decide (c ∈ lets)) := by
        rw [List.map_map]
        refine List.map_congr_left fun c _ => ?_
        rfl
      rw [e2] at hl
      simp only [List.nil_append] at hl
      simp [m_is_name, h, h1', h2', hl, bools_map, h1, h2, -List.map_map]
    · have h2' : ¬ (z.length : Int) ≤ 12 := by omega
      simp [m_is_name, h, h1', h2', h1, h2]
  · have h1' : ¬ (1 : Int) ≤ z.length := by omega
    simp [m_is_name, h, h1', h1]
mutual
def wf : PV → Bool
  | .non => true
  | .bl _ => true
  | .int _ => true
  | .str _ => true
  | .dct => true
  | .tup xs => wfs xs
  | .lst xs => wfs xs
  | _ => false
def wfs : List PV → Bool
  | [] => true
  | p :: ps => wf p && wfs ps
end
def R0 (o : Out PV) (b : Bool) (z : List Nat) (S : Sta) : Prop := if b = true then o = .ok (.str (sT z)) S else o = .ex "BadData" [] S
/-- the elements' texts, up to the first bad one -/
theorem lc_all {ε : Fx.Env} {me : Fx.Env → Sta → Out PV} {i k : Nat} {S : Sta} : ∀ (xs acc : List PV), (∀ x ∈ xs, R0 (me (ε.set i (some x)) S) (gd x k) (txt x) S) → acc.length + xs.length ≤ 100000 →
    lcLoop (NameG i) YesT me [] ε xs acc S = if gds xs k = true then .ok (acc ++ xs.map fun x => .str (sT (txt x))) S else .ex "BadData" [] S
  | [], acc, _, _ => by simp [lcLoop, gds, pinsOk]
  | x :: xs, acc, h, hl => by
    have h1 := h x (by simp)
    simp only [List.length_cons] at hl
    have ha : acc.length < 100000 := by omega
    unfold R0 at h1
    by_cases hg : gd x k = true
    · rw [if_pos hg] at h1
      have ih := lc_all (ε := ε) (me := me) (i := i) (k := k) (S := S) xs (acc ++ [.str (sT (txt x))]) (fun y hy => h y (List.mem_cons_of_mem _ hy)) (by simp; omega)
      simp [lcLoop, pinsOk, h1, ha, ih, gds, hg]
    · rw [if_neg hg] at h1
      simp [lcLoop, pinsOk, h1, ha, gds, hg]
theorem big_e : (.int (9999999999999999999999999999999999999999999999999999999999999999999999999999999999999999999999999999999999999999999999999999999999999999999999999999999999999999999999999999999999999999999999999999999999999999999999999999999999999999999999999999999999999999999999999999999999999999999999999999999999999999999999999999999999999999999999999999999999999999999999999999999999999999999999999999999999999999) : PV) = .int BIG := rfl
theorem v_text_tup {F k : Nat} {xs : List PV} {S : Sta} {p : PV} (hp : p = .tup xs ∨ p = .lst xs) (hx : ∀ x ∈ xs, k < 40 → R0 (m__text_of F [x, .int ((k + 1 : Nat) + 1 : Int)] S) (gd x (k + 1)) (txt x) S) (hl : (commas [44] (txts xs)).length ≤ 99000) :
    R0 (b__text_of (m__text_of F) [p, .int ((k : Int) + 1)] S) (decide (k < 40) && gds xs (k + 1)) (91 :: (commas [44] (txts xs) ++ [93])) S := by
  rw [txts_map] at hl ⊢
  have hs := commas_sum (xs.map txt)
  have hl2 : (xs.map txt).length = xs.length := List.length_map ..
  have q1 : m_is_name [.tup xs] S = .ok (.bl false) S := by simp [m_is_name]
  have q2 : m_is_name [.lst xs] S = .ok (.bl false) S := by simp [m_is_name]
  by_cases h40 : k < 40
  · have key : ∀ p : PV, lcLoop (NameG 2) YesT (CallE (m__text_of F) [] (ConsA (VarE 2) (ConsA (OpE fAdd (VarE 1) (Fx.CE (.int 1))) NilA))) [] [some p, some (.int ((k : Int) + 1)), none] xs [] S = if gds xs (k + 1) = true then .ok ([] ++ xs.map fun x => .str (sT (txt x))) S else .ex "BadData" [] S := fun p => by
      refine lc_all xs [] (fun x hm => ?_) (by simp; omega)
      have e := hx x hm h40
      have e1 : (((k + 1 : Nat) : Int) + 1) = (k : Int) + 1 + 1 := by omega
      rw [e1] at e
      unfold R0 at e ⊢
      by_cases hg : gd x (k + 1) = true
      · rw [if_pos hg] at e ⊢; simp [e]
      · rw [if_neg hg] at e ⊢; simp [e]
    have k1 := key (.tup xs)
    have k2 := key (.lst xs)
    rw [List.nil_append] at k1 k2
    have hj := join_eq [44] (xs.map txt)
    have h44 : Str.ofString "," = sT [44] := rfl
    have h91 : Str.ofString "[" = sT [91] := rfl
    have h93 : Str.ofString "]" = sT [93] := rfl
    have hst : strsP (xs.map fun x => PV.str (sT (txt x))) = some ((xs.map txt).map sT) := by
      rw [← strsP_sT, List.map_map]; rfl
    have hsum : (((xs.map txt).map sT).map (·.length)).sum + ((xs.map txt).map sT).length ≤ 100000 := by
      rw [len_sT, List.length_map]
      omega
    have hb' : ¬ (40 < (k : Int) + 1) := by omega
    have hl3 : 1 + (commas [44] (xs.map txt)).length ≤ 100000 := by omega
    have hl4 : (commas [44] (xs.map txt)).length + 1 + 1 ≤ 100000 := by omega
    generalize (xs.map txt).map sT = zs at hst hsum hj
    generalize commas [44] (xs.map txt) = cm at hj hl3 hl4 ⊢
    generalize (xs.map fun x => PV.str (sT (txt x))) = ys at k1 k2 hst
    clear hx key
    unfold R0
    by_cases hg : gds xs (k + 1) = true
    · rw [if_pos hg] at k1 k2
      rw [if_pos (by simp [h40, hg])]
      rcases hp with rfl | rfl
      · simp [h44, h91, h93, b__text_of, v_is_whole, v_is_sequence, seqP, q1, hb', k1, hst, hj, hsum, hl3, hl4]
      · simp [h44, h91, h93, b__text_of, v_is_whole, v_is_sequence, seqP, q2, hb', k2, hst, hj, hsum, hl3, hl4]
    · rw [if_neg hg] at k1 k2
      rw [if_neg (by simp [hg])]
      rcases hp with rfl | rfl
      · simp [h44, h91, h93, b__text_of, v_is_whole, v_is_sequence, seqP, q1, hb', k1]
      · simp [h44, h91, h93, b__text_of, v_is_whole, v_is_sequence, seqP, q2, hb', k2]
  · have hb' : 40 < (k : Int) + 1 := by omega
    unfold R0
    rw [if_neg (by simp [h40])]
    rcases hp with rfl | rfl
    · simp [b__text_of, v_is_whole, v_is_sequence, seqP, q1, hb']
    · simp [b__text_of, v_is_whole, v_is_sequence, seqP, q2, hb']
theorem v_text_str {F k : Nat} {z : Str} {S : Sta} (h : nameB z = true) (hl : z.length ≤ 99000) : b__text_of (m__text_of F) [.str z, .int ((k : Int) + 1)] S = .ok (.str z) S := by
  have n := v_is_name (S := S) (z := z) (by omega)
  rw [h] at n
  simp [b__text_of, v_is_whole, n]
theorem BIG_lt : BIG < 10 ^ 400 := by decide +kernel
theorem BIG_eq : (10 : Int) ^ 400 - 1 = BIG := by decide +kernel
theorem log_big : ∀ i : Int, -BIG ≤ i → i ≤ BIG → i.natAbs.log2 < 1920 := fun i h1 h2 => by
  have h3 := BIG_lt
  have e : ((10 : Int) ^ 400) = ((10 ^ 400 : Nat) : Int) := by norm_cast
  rw [e] at h3
  generalize hN : (10 ^ 400 : Nat) = N at h3
  have h4 : i.natAbs < N := by omega
  by_cases h0 : i.natAbs = 0
  · rw [h0]; decide
  · rw [Nat.log2_lt h0]
    refine Nat.lt_trans h4 ?_
    rw [← hN]
    decide +kernel
theorem v_text_int {F k : Nat} {i : Int} {S : Sta} (h1 : -BIG ≤ i) (h2 : i ≤ BIG) : b__text_of (m__text_of F) [.int i, .int ((k : Int) + 1)] S = .ok (.str (sT (itext i))) S := by
  have hl := log_big i h1 h2
  have ht : Str.ofString i.repr = sT (itext i) := toS_int i
  unfold BIG at h1 h2
  simp [b__text_of, v_is_whole, h1, h2, hl, ht]
theorem v_text_bad {F k : Nat} {p : PV} {S : Sta} (h : p = .non ∨ (∃ b, p = .bl b) ∨ p = .dct) : b__text_of (m__text_of F) [p, .int ((k : Int) + 1)] S = .ex "BadData" [] S := by
  rcases h with rfl | ⟨b, rfl⟩ | rfl
  · simp [b__text_of, v_is_whole, m_is_name, v_is_sequence, seqP, items]
  · simp [b__text_of, v_is_whole, m_is_name, v_is_sequence, seqP, items]
  · have e : m_is_whole [.dct, .int (-BIG), .int BIG] S = .ok (.bl false) S := by simp [m_is_whole]
    unfold BIG at e
    simp [b__text_of, e, m_is_name, v_is_sequence, seqP, items]
theorem v_text_str0 {F k : Nat} {z : Str} {S : Sta} (h : nameB z = false) (hl : z.length ≤ 99000) : b__text_of (m__text_of F) [.str z, .int ((k : Int) + 1)] S = .ex "BadData" [] S := by
  have n := v_is_name (S := S) (z := z) (by omega)
  rw [h] at n
  simp [b__text_of, v_is_whole, n, v_is_sequence, seqP, items]
theorem v_text_int0 {F k : Nat} {i : Int} {S : Sta} (h : ¬ (-BIG ≤ i ∧ i ≤ BIG)) : b__text_of (m__text_of F) [.int i, .int ((k : Int) + 1)] S = .ex "BadData" [] S := by
  have w : m_is_whole [.int i, .int (-BIG), .int BIG] S = .ok (.bl false) S := by
    rw [v_is_whole]
    · unfold wholeP
      by_cases h1 : -BIG ≤ i
      · have h2 : ¬ i ≤ BIG := fun z => h ⟨h1, z⟩
        simp [h1, h2]
      · simp [h1]
    · rfl
    · rfl
    · rfl
  unfold BIG at w
  simp [b__text_of, w, m_is_name, v_is_sequence, seqP, items]
end K03
namespace K03
open PySem L2 Co Fx NumText
mutual
theorem v_text_of : ∀ (p : PV) (k F : Nat) (S : Sta), wf p = true → k ≤ 40 → 41 - k ≤ F → (txt p).length ≤ 99000 → R0 (m__text_of F [p, .int ((k : Int) + 1)] S) (gd p k) (txt p) S
  | p, k, 0, S, _, h2, h3, _ => by omega
  | .str z, k, F + 1, S, _, h2, h3, h4 => by
    rw [m__text_of_s]
    have hz : z.length ≤ 99000 := by simp only [txt, Array.length_toList] at h4; exact h4
    unfold R0
    by_cases h : nameB z = true
    · rw [if_pos (by simp only [gd]; exact h), v_text_str h hz, txt, ← sT_of]
    · have h' : nameB z = false := by simpa using h
      rw [if_neg (by simp only [gd]; exact h), v_text_str0 h' hz]
  | .int i, k, F + 1, S, _, h2, h3, h4 => by
    rw [m__text_of_s]
    unfold R0
    by_cases h : -BIG ≤ i ∧ i ≤ BIG
    · rw [if_pos (by simp only [gd, h.1, h.2, decide_true, Bool.and_self]), v_text_int h.1 h.2, txt]
    · rw [if_neg (by simpa only [gd, Bool.and_eq_true, decide_eq_true_eq] using h), v_text_int0 h]
  | .tup xs, k, F + 1, S, hw, h2, h3, h4 => by
    simp only [wf] at hw
    simp only [txt, List.length_cons, List.length_append, List.length_nil] at h4
    have hs := commas_sum (txts xs)
    have h := v_text_tup (F := F) (k := k) (S := S) (xs := xs) (p := .tup xs) (.inl rfl) (fun x hx hk => v_text_ofs xs (k + 1) F S hw (by omega) (by omega) (fun x hx => by
      have := sum_le (us := txts xs) (u := txt x) (by rw [txts_map]; exact List.mem_map_of_mem hx)
      omega) x hx) (by omega)
    rw [m__text_of_s, gd, txt]
    exact h
  | .lst xs, k, F + 1, S, hw, h2, h3, h4 => by
    simp only [wf] at hw
    simp only [txt, List.length_cons, List.length_append, List.length_nil] at h4
    have hs := commas_sum (txts xs)
    have h := v_text_tup (F := F) (k := k) (S := S) (xs := xs) (p := .lst xs) (.inr rfl) (fun x hx hk => v_text_ofs xs (k + 1) F S hw (by omega) (by omega) (fun x hx => by
      have := sum_le (us := txts xs) (u := txt x) (by rw [txts_map]; exact List.mem_map_of_mem hx)
      omega) x hx) (by omega)
    rw [m__text_of_s, gd, txt]
    exact h
  | .non, _, _ + 1, _, _, _, _, _ => by rw [m__text_of_s]; unfold R0; rw [if_neg (by simp [gd]), v_text_bad (.inl rfl)]
  | .bl b, _, _ + 1, _, _, _, _, _ => by rw [m__text_of_s]; unfold R0; rw [if_neg (by simp [gd]), v_text_bad (.inr (.inl ⟨b, rfl⟩))]
  | .dct, _, _ + 1, _, _, _, _, _ => by rw [m__text_of_s]; unfold R0; rw [if_neg (by simp [gd]), v_text_bad (.inr (.inr rfl))]
  | .kls _, _, _ + 1, _, h, _, _, _ => by simp [wf] at h
  | .obj _ _ _, _, _ + 1, _, h, _, _, _ => by simp [wf] at h
  | .mu _, _, _ + 1, _, h, _, _, _ => by simp [wf] at h
  | .xv _, _, _ + 1, _, h, _, _, _ => by simp [wf] at h
theorem v_text_ofs : ∀ (xs : List PV) (k F : Nat) (S : Sta), wfs xs = true → k ≤ 40 → 41 - k ≤ F → (∀ x ∈ xs, (txt x).length ≤ 99000) → ∀ x ∈ xs, R0 (m__text_of F [x, .int ((k : Int) + 1)] S) (gd x k) (txt x) S
  | [], k, F, S, _, _, _, _, x, hx => by cases hx
  | p :: ps, k, F, S, h1, h2, h3, h4, x, hx => by
    simp only [wfs, Bool.and_eq_true] at h1
    rcases List.mem_cons.mp hx with e | hx'
    · rw [e]; exact v_text_of p k F S h1.1 h2 h3 (h4 p (by simp))
    · exact v_text_ofs ps k F S h1.2 h2 h3 (fun y hy => h4 y (List.mem_cons_of_mem _ hy)) x hx'
end
theorem v_data_text {p : PV} {S : Sta} (hw : wf p = true) (hl : (txt p).length ≤ 99000) : R0 (m_data_text [p] S) (gd p 0) (txt p) S := by
  have h := v_text_of p 0 90 S hw (by omega) (by omega) hl
  have e : ((0 : Nat) : Int) + 1 = 1 := rfl
  rw [e] at h
  unfold R0 at h ⊢
  by_cases hg : gd p 0 = true
  · rw [if_pos hg] at h ⊢; simp [m_data_text, h]
  · rw [if_neg hg] at h ⊢; simp [m_data_text, h]
theorem v_refused {p : PV} {S : Sta} (hS : flatS S = true) (hw : wf p = true) (hl : (txt p).length ≤ 99000) (hg : gd p 0 = false) : m__law_refused [p] S = .ok (.bl true) S := by
  have h := v_data_text (S := S) hw hl
  unfold R0 at h
  rw [if_neg (by simp [hg])] at h
  simp [m__law_refused, h]
mutual
theorem gd_wf : ∀ (p : PV) (k : Nat), gd p k = true → wf p = true
  | .str _, _, _ => by simp [wf]
  | .int _, _, _ => by simp [wf]
  | .tup xs, k, h => by
    simp only [gd, Bool.and_eq_true] at h
    simpa only [wf] using gds_wf xs (k + 1) h.2
  | .lst xs, k, h => by
    simp only [gd, Bool.and_eq_true] at h
    simpa only [wf] using gds_wf xs (k + 1) h.2
  | .non, _, h => by simp [gd] at h
  | .bl _, _, h => by simp [gd] at h
  | .dct, _, h => by simp [gd] at h
  | .kls _, _, h => by simp [gd] at h
  | .obj _ _ _, _, h => by simp [gd] at h
  | .mu _, _, h => by simp [gd] at h
  | .xv _, _, h => by simp [gd] at h
theorem gds_wf : ∀ (ps : List PV) (k : Nat), gds ps k = true → wfs ps = true
  | [], _, _ => by simp [wfs]
  | p :: ps, k, h => by
    simp only [gds, Bool.and_eq_true] at h
    simp [wfs, gd_wf p k h.1, gds_wf ps k h.2]
end
end K03
namespace K03
open PySem L2 Co Fx NumText
def Stop (rest : List Nat) : Prop := ∀ c cs, rest = c :: cs → c ∉ lets ∧ c ∉ figs
theorem cnt_app {B : Nat → Bool} {rest : List Nat} (hr : ∀ c cs, rest = c :: cs → B c = false) : ∀ (us : List Nat) (m : Nat), (∀ c ∈ us, B c = true) → us.length ≤ m → cnt B m (us ++ rest) = us.length
  | [], 0, _, _ => rfl
  | [], m + 1, _, _ => by
    cases rest with
    | nil => rfl
    | cons c cs => simp [cnt, hr c cs rfl]
  | u :: us, 0, _, h => by simp at h
  | u :: us, m + 1, h, hm => by
    have := cnt_app hr us m (fun c hc => h c (List.mem_cons_of_mem _ hc)) (by simpa using hm)
    simp [cnt, h u (by simp), this]; omega
theorem drop_len {l s : List Nat} {n : Nat} {c : Nat} (h : l.drop n = c :: s) : n < l.length ∧ l[n]? = some c ∧ l.drop (n + 1) = s := by
  have hn : n < l.length := by
    rcases Nat.lt_or_ge n l.length with h1 | h1
    · exact h1
    · rw [List.drop_eq_nil_of_le h1] at h; cases h
  rw [List.drop_eq_getElem_cons hn] at h
  injection h with h1 h2
  exact ⟨hn, by rw [← h1]; exact List.getElem?_eq_getElem hn, h2⟩
theorem drop_app {l us rest : List Nat} {n : Nat} (h : l.drop n = us ++ rest) : l.drop (n + us.length) = rest := by
  rw [← List.drop_drop, h, List.drop_left]
theorem drop_le {l us rest : List Nat} {n : Nat} (h : l.drop n = us ++ rest) (hu : us ≠ []) : n + us.length ≤ l.length := by
  have := congrArg List.length h
  rw [List.length_drop, List.length_append] at this
  have : us.length ≠ 0 := fun z => hu (List.length_eq_zero_iff.mp z)
  omega
theorem at_of {l : List Nat} {n c : Nat} (h : l[n]? = some c) : atI l (n : Int) = some c := atI_get (by omega) (by simpa using h)
theorem cut_of {l us rest : List Nat} {n : Nat} (h : l.drop n = us ++ rest) (hu : us ≠ []) : cutS (sT l) (some (n : Int)) (some ((n + us.length : Nat) : Int)) = sT us := by
  rw [cutS_ab (drop_le h hu) (by omega), h, sT_inj, show n + us.length - n = us.length by omega, List.take_left]
theorem abs_big {i : Int} (h1 : -BIG ≤ i) (h2 : i ≤ BIG) : i.natAbs < 10 ^ 400 := by
  have h3 := BIG_lt
  have e : ((10 : Int) ^ 400) = ((10 ^ 400 : Nat) : Int) := by norm_cast
  rw [e] at h3
  generalize (10 ^ 400 : Nat) = N at h3 ⊢
  omega
theorem figs_digs {n : Nat} : ∀ c ∈ digs n, c ∈ figs := fun c hc => by
  have := digs_all n c hc
  exact figs_of this.1 this.2
theorem stop_figs {rest : List Nat} (h : Stop rest) : ∀ c cs, rest = c :: cs → decide (c ∈ figs) = false := fun c cs e => by simpa using (h c cs e).2
theorem stop_lets {rest : List Nat} (h : Stop rest) : ∀ c cs, rest = c :: cs → decide (c ∈ lets) = false := fun c cs e => by simpa using (h c cs e).1
theorem r_int {l rest : List Nat} {n : Nat} {i : Int} {S : Sta} (hl : l.length ≤ 90000) (h : l.drop n = itext i ++ rest) (hs : Stop rest) (h1 : -BIG ≤ i) (h2 : i ≤ BIG) :
    m__read_integer [.str (sT l), .int n] S = .ok (.tup [.int i, .int ((n + (itext i).length : Nat) : Int)]) S := by
  have hb := abs_big h1 h2
  have hlen := itext_len hb (by decide)
  have hit := int_itext (i := i) (by omega)
  have hl' : l.length ≤ 100000 := by omega
  have f1 : ((Str.ofString "0123456789")) = sT figs := rfl
  by_cases h0 : i = 0
  · subst h0
    have e : itext 0 = [48] := by decide +kernel
    rw [e] at h ⊢
    obtain ⟨hn, hg, hd⟩ := drop_len h
    have hx := at_of hg
    simp [m__read_integer, hl', hx]
  · have hdl := digs_len hb (by decide)
    obtain ⟨c, cs, ed, c0⟩ := digs_head i.natAbs (by omega)
    have hne : itext i ≠ [] := by
      unfold itext; split
      · simp
      · exact digs_ne _
    have hcut := cut_of h hne
    have hall : ∀ c ∈ digs i.natAbs, decide (c ∈ figs) = true := fun c hc => decide_eq_true (figs_digs c hc)
    have hcf : c ∈ figs := figs_digs c (by rw [ed]; simp)
    by_cases hneg : i < 0
    · have e : itext i = 45 :: digs i.natAbs := by unfold itext; rw [if_pos hneg]
      have h' : l.drop n = 45 :: (digs i.natAbs ++ rest) := by rw [h, e]; rfl
      obtain ⟨hn, hg, hd⟩ := drop_len h'
      have hx := at_of hg
      have hd' : l.drop (n + 1) = c :: (cs ++ rest) := by rw [hd, ed]; rfl
      obtain ⟨hn2, hg2, hd2⟩ := drop_len hd'
      have hx2 := at_of hg2
      have q := v_sign_at (n := n + 1) (S := S) hl'
      rw [hg2] at q
      have hr : m__run_end [.str (sT l), .int ((n + 1 : Nat) : Int), .str (sT figs), .int 400] S = _ := v_run_end (S := S) (sg := figs) (n := n + 1) (most := 400) hl' (by omega) (by omega)
      rw [hd, cnt_app (stop_figs hs) _ _ hall hdl] at hr
      have el : (itext i).length = (digs i.natAbs).length + 1 := by rw [e]; rfl
      have ez : ((n + 1 + (digs i.natAbs).length : Nat) : Int) = ((n + (itext i).length : Nat) : Int) := by omega
      rw [ez] at hr
      have hll' : (itext i).length ≤ 640 := by omega
      push_cast at hr hcut q hx2
      simp [m__read_integer, hl', hx, q, hx2, f1, hcf, c0, hr, fSl, hcut, hit, hll']
    · have e : itext i = digs i.natAbs := by unfold itext; rw [if_neg hneg]
      have h' : l.drop n = c :: (cs ++ rest) := by rw [h, e, ed]; rfl
      obtain ⟨hn, hg, hd⟩ := drop_len h'
      have hx := at_of hg
      have q := v_sign_at (n := n) (S := S) hl'
      rw [hg] at q
      have c45 : c ≠ 45 := (figs_no hcf).2.2.2.2.1
      have hr : m__run_end [.str (sT l), .int ((n : Nat) : Int), .str (sT figs), .int 400] S = _ := v_run_end (S := S) (sg := figs) (n := n) (most := 400) hl' (by omega) (by omega)
      rw [h, e, cnt_app (stop_figs hs) _ _ hall hdl, ← e] at hr
      have hll' : (itext i).length ≤ 640 := by omega
      push_cast at hr hcut
      simp [m__read_integer, hl', hx, q, f1, hcf, c0, c45, hr, fSl, hcut, hit, hll']
end K03
namespace K03
open PySem L2 Co Fx NumText
mutual
def firm : PV → PV
  | .tup xs => .tup (firms xs)
  | .lst xs => .tup (firms xs)
  | p => p
def firms : List PV → List PV
  | [] => []
  | p :: ps => firm p :: firms ps
end
mutual
theorem firm_clean : ∀ (p : PV) (k : Nat), gd p k = true → clean 0 (firm p) = true ∧ clean 0 p = true
  | .str _, _, _ => by simp [firm, clean]
  | .int _, _, _ => by simp [firm, clean]
  | .tup xs, k, h => by
    simp only [gd, Bool.and_eq_true] at h
    simpa only [firm, clean] using firms_clean xs (k + 1) h.2
  | .lst xs, k, h => by
    simp only [gd, Bool.and_eq_true] at h
    simpa only [firm, clean] using firms_clean xs (k + 1) h.2
  | .non, _, h => by simp [gd] at h
  | .bl _, _, h => by simp [gd] at h
  | .dct, _, h => by simp [gd] at h
  | .kls _, _, h => by simp [gd] at h
  | .obj _ _ _, _, h => by simp [gd] at h
  | .mu _, _, h => by simp [gd] at h
  | .xv _, _, h => by simp [gd] at h
theorem firms_clean : ∀ (ps : List PV) (k : Nat), gds ps k = true → cleans 0 (firms ps) = true ∧ cleans 0 ps = true
  | [], _, _ => by simp [firms, cleans]
  | p :: ps, k, h => by
    simp only [gds, Bool.and_eq_true] at h
    have h1 := firm_clean p k h.1
    have h2 := firms_clean ps k h.2
    simp [firms, cleans, h1, h2]
end
theorem txt_ne {p : PV} {k : Nat} (h : gd p k = true) : txt p ≠ [] := by
  cases p with
  | str z =>
    simp only [gd, nameB, Bool.and_eq_true, decide_eq_true_eq] at h
    simp only [txt]
    intro e
    have : z.cps.toList.length = 0 := by rw [e]; rfl
    have hz : z.length = z.cps.toList.length := by simp; rfl
    omega
  | int i =>
    simp only [txt]
    unfold itext; split
    · simp
    · exact digs_ne _
  | tup xs => simp [txt]
  | lst xs => simp [txt]
  | _ => simp [gd] at h
theorem stop_comma {r : List Nat} : Stop (44 :: r) := fun c cs e => by
  injection e with e1 _
  rw [← e1]
  exact no44
theorem stop_close {r : List Nat} : Stop (93 :: r) := fun c cs e => by
  injection e with e1 _
  rw [← e1]
  exact no93
theorem stop_nil : Stop [] := fun c cs e => by cases e
/-- what reading an item gives -/
def Rd' (l : List Nat) (n : Nat) (S : Sta) (p : PV) (o : Out PV) : Prop := o = .ok (.tup [firm p, .int ((n + (txt p).length : Nat) : Int)]) S
theorem int_head {i : Int} : ∃ c cs, itext i = c :: cs ∧ c ≠ 91 ∧ c ∉ lets := by
  unfold itext
  split
  · exact ⟨45, _, rfl, by decide, no45.1⟩
  · cases e : digs i.natAbs with
    | nil => exact absurd e (digs_ne _)
    | cons c cs =>
      have := figs_no (figs_digs (n := i.natAbs) c (by rw [e]; simp))
      exact ⟨c, cs, rfl, this.2.1, this.1⟩
theorem r_item {l rest : List Nat} {k n F : Nat} {S : Sta} {p : PV} (hl : l.length ≤ 90000) (hg : gd p k = true) (h : l.drop n = txt p ++ rest) (hs : Stop rest)
    (hT : ∀ xs, p = .tup xs ∨ p = .lst xs → k < 40 → m__read_tuple F [.str (sT l), .int ((n + 1 : Nat) : Int), .int ((k : Int) + 1)] S = .ok (.tup [.tup (firms xs), .int ((n + (txt p).length : Nat) : Int)]) S) :
    Rd' l n S p (m__read_item (F + 1) [.str (sT l), .int n, .int ((k : Int) + 1)] S) := by
  rw [m__read_item_s]
  unfold Rd'
  have hl' : l.length ≤ 100000 := by omega
  have q := v_sign_at (n := n) (S := S) hl'
  have f1 : ((Str.ofString "abcdefghijklmnopqrstuvwxyz")) = sT lets := rfl
  have seq : ∀ xs, (p = .tup xs ∨ p = .lst xs) → b__read_item (m__read_item F) (m__read_tuple F) [.str (sT l), .int n, .int ((k : Int) + 1)] S = .ok (.tup [.tup (firms xs), .int ((n + (txt p).length : Nat) : Int)]) S := fun xs hp => by
    have h40 : k < 40 := by
      rcases hp with rfl | rfl <;> simp only [gd, Bool.and_eq_true, decide_eq_true_eq] at hg <;> exact hg.1
    have hb : ¬ (40 < (k : Int) + 1) := by omega
    have t := hT xs hp h40
    have hx : ∃ r, l.drop n = 91 :: r := by rcases hp with rfl | rfl <;> exact ⟨_, by rw [h, txt]; rfl⟩
    obtain ⟨r, hx⟩ := hx
    obtain ⟨hn, hg1, _⟩ := drop_len hx
    rw [hg1] at q
    push_cast at t
    generalize (txt p).length = L at t ⊢
    simp [b__read_item, q, hb, t]
  cases p with
  | str z =>
    simp only [gd] at hg
    have hz0 : z = sT (txt (.str z)) := by rw [txt, ← sT_of]
    have hne := txt_ne (p := .str z) (k := k) (by simp only [gd]; exact hg)
    have hcut := cut_of h hne
    simp only [nameB, Bool.and_eq_true, decide_eq_true_eq, List.all_eq_true] at hg
    obtain ⟨⟨z1, z2⟩, z3⟩ := hg
    have e : txt (.str z) = z.cps.toList := rfl
    have el : (txt (.str z)).length = z.length := by rw [e]; simp; rfl
    have hall : ∀ c ∈ txt (.str z), decide (c ∈ lets) = true := fun c hc => decide_eq_true (z3 c (by rw [← e]; exact hc))
    have hr : m__run_end [.str (sT l), .int n, .str (sT lets), .int 12] S = _ := v_run_end (S := S) (sg := lets) (n := n) (most := 12) hl' (by have := drop_le h hne; omega) (by omega)
    rw [h, cnt_app (stop_lets hs) _ _ hall (by omega)] at hr
    rw [← hz0] at hcut
    cases ec : txt (.str z) with
    | nil => exact absurd ec hne
    | cons c cs =>
      have hc : c ∈ lets := of_decide_eq_true (hall c (by rw [ec]; simp))
      have h91 : c ≠ 91 := (lets_no hc).2.1
      have hx : l.drop n = c :: (cs ++ rest) := by rw [h, ec]; rfl
      obtain ⟨hn, hg1, _⟩ := drop_len hx
      rw [hg1] at q
      rw [← ec]
      push_cast at hr hcut
      generalize (txt (.str z)).length = L at hr hcut ⊢
      simp [b__read_item, q, h91, f1, hc, hr, fSl, hcut, hl', firm]
  | int i =>
    simp only [gd, Bool.and_eq_true, decide_eq_true_eq] at hg
    rw [txt] at h ⊢
    have t := r_int (S := S) hl h hs hg.1 hg.2
    obtain ⟨c, cs, ec, h91, hc⟩ := int_head (i := i)
    have hx : l.drop n = c :: (cs ++ rest) := by rw [h, ec]; rfl
    obtain ⟨hn, hg1, _⟩ := drop_len hx
    rw [hg1] at q
    push_cast at t
    generalize (itext i).length = L at t ⊢
    simp [b__read_item, q, h91, f1, hc, t, firm]
  | tup xs => rw [firm]; exact seq xs (.inl rfl)
  | lst xs => rw [firm]; exact seq xs (.inr rfl)
  | _ => simp [gd] at hg
end K03
namespace K03
open PySem L2 Co Fx NumText
theorem txts_cons2 {p : PV} {ps : List PV} (h : ps ≠ []) : commas [44] (txts (p :: ps)) = txt p ++ 44 :: commas [44] (txts ps) := by
  cases ps with
  | nil => exact absurd rfl h
  | cons q qs => simp only [txts, commas]; rfl
theorem get_last {S : Sta} {c : Cell} : (S ++ [c])[S.length]? = some c := by simp
theorem set_last {S : Sta} {c d : Cell} : (S ++ [c]).set S.length d = S ++ [d] := by simp
theorem txt_head {p : PV} {k : Nat} (h : gd p k = true) : ∃ c cs, txt p = c :: cs ∧ c ≠ 93 := by
  cases p with
  | str z =>
    cases e : txt (.str z) with
    | nil => exact absurd e (txt_ne h)
    | cons c cs =>
      simp only [gd, nameB, Bool.and_eq_true, List.all_eq_true, decide_eq_true_eq] at h
      have hc : c ∈ lets := h.2 c (by
        have e' : z.cps.toList = c :: cs := e
        rw [e']; simp)
      exact ⟨c, cs, rfl, (lets_no hc).2.2.1⟩
  | int i =>
    simp only [txt]
    unfold itext
    split
    · exact ⟨45, _, rfl, by decide⟩
    · cases e : digs i.natAbs with
      | nil => exact absurd e (digs_ne _)
      | cons c cs =>
        have := figs_no (figs_digs (n := i.natAbs) c (by rw [e]; simp))
        exact ⟨c, cs, rfl, this.2.2.1⟩
  | tup xs => exact ⟨91, _, rfl, by decide⟩
  | lst xs => exact ⟨91, _, rfl, by decide⟩
  | _ => simp [gd] at h
theorem tup_loop {l : List Nat} {k F : Nat} {S : Sta} {r : FC} (hl : l.length ≤ 90000) (hS : flatS S = true)
    (hI : ∀ (x : PV) (n : Nat) (rest : List Nat) (S : Sta), gd x (k + 1) = true → l.drop n = txt x ++ rest → Stop rest → flatS S = true → Rd' l n S x (m__read_item F [.str (sT l), .int n, .int ((k : Int) + 1 + 1)] S)) :
    ∀ (xs : List PV) (n Fu : Nat) (acc : List PV) (u4 u5 : Option PV) (rest : List Nat), xs ≠ [] → xs.length < Fu → gds xs (k + 1) = true → cleans 0 acc = true → acc.length + xs.length ≤ 95000 → l.drop n = commas [44] (txts xs) ++ 93 :: rest →
      iterW (W__read_tuple_1c (m__read_item F) r) (W__read_tuple_1 (m__read_item F) r) Fu [some (.str (sT l)), some (.int n), some (.int ((k : Int) + 1)), some (.mu S.length), u4, u5] (S ++ [.lst acc]) =
        .rt (.tup [.tup (acc ++ firms xs), .int ((n + (commas [44] (txts xs)).length + 1 : Nat) : Int)]) (S ++ [.lst (acc ++ firms xs)])
  | [], _, _, _, _, _, _, h, _, _, _, _, _ => absurd rfl h
  | x :: ys, n, 0, _, _, _, _, _, h, _, _, _, _ => by simp at h
  | x :: ys, n, Fu + 1, acc, u4, u5, rest, _, hF, hg, ha, hlen, hd => by
    have hl' : l.length ≤ 100000 := by omega
    have hS2 : flatS (S ++ [.lst acc]) = true := by rw [flatS_app, hS]; simp [flatS, flatC, ha]
    simp only [gds, Bool.and_eq_true] at hg
    obtain ⟨g1, g2⟩ := hg
    have hxl : acc.length < 100000 := by simp only [List.length_cons] at hlen; omega
    have hc := (firm_clean x (k + 1) g1).1
    have q := v_sign_at (n := n + (txt x).length) (S := S ++ [.lst (acc ++ [firm x])]) hl'
    by_cases hy : ys = []
    · subst hy
      have hd' : l.drop n = txt x ++ 93 :: rest := hd
      have e := hI x n _ _ g1 hd' stop_close hS2
      unfold Rd' at e
      obtain ⟨_, hg3, _⟩ := drop_len (drop_app hd')
      rw [hg3] at q
      have ec : commas [44] (txts [x]) = txt x := rfl
      have ef : firms [x] = [firm x] := rfl
      rw [ec, ef]
      push_cast at e q ⊢
      refine it_rt (S1 := S ++ [.lst acc]) (by simp [W__read_tuple_1c]) ?_
      generalize (n : Int) + ((txt x).length : Int) = a at e q ⊢
      simp [W__read_tuple_1, e, hxl, q]
    · have hd' : l.drop n = txt x ++ 44 :: (commas [44] (txts ys) ++ 93 :: rest) := by rw [hd, txts_cons2 hy]; simp
      have e := hI x n _ _ g1 hd' stop_comma hS2
      unfold Rd' at e
      obtain ⟨_, hg3, hd3⟩ := drop_len (drop_app hd')
      rw [hg3] at q
      have ih := tup_loop (r := r) hl hS hI ys (n + (txt x).length + 1) Fu (acc ++ [firm x]) (some (firm x)) (some (.str ⟨#[44]⟩)) rest hy (by simpa using hF) g2 (by rw [flat_app, ha]; simp [cleans, hc]) (by simp only [List.length_cons] at hlen; simp; omega) hd3
      have hb : W__read_tuple_1 (m__read_item F) r [some (.str (sT l)), some (.int n), some (.int ((k : Int) + 1)), some (.mu S.length), u4, u5] (S ++ [.lst acc]) = .nx [some (.str (sT l)), some (.int ((n + (txt x).length + 1 : Nat) : Int)), some (.int ((k : Int) + 1)), some (.mu S.length), some (firm x), some (.str ⟨#[44]⟩)] (S ++ [.lst (acc ++ [firm x])]) := by
        push_cast at e q ⊢
        generalize (n : Int) + ((txt x).length : Int) = a at e q ⊢
        simp [W__read_tuple_1, e, hxl, q]
      rw [it_nx (by simp [W__read_tuple_1c]) hb, ih]
      have e1 : acc ++ [firm x] ++ firms ys = acc ++ firms (x :: ys) := by simp [firms]
      rw [e1, txts_cons2 hy, List.length_append, List.length_cons]
      have e2 : n + (txt x).length + 1 + (commas [44] (txts ys)).length + 1 = n + ((txt x).length + ((commas [44] (txts ys)).length + 1)) + 1 := by omega
      rw [e2]
theorem r_tuple {l rest : List Nat} {k n F : Nat} {S : Sta} {xs : List PV} (hl : l.length ≤ 90000) (hS : flatS S = true) (hg : gds xs (k + 1) = true) (hd : l.drop n = commas [44] (txts xs) ++ 93 :: rest)
    (hI : ∀ (x : PV) (n : Nat) (rest : List Nat) (S : Sta), gd x (k + 1) = true → l.drop n = txt x ++ rest → Stop rest → flatS S = true → Rd' l n S x (m__read_item F [.str (sT l), .int n, .int ((k : Int) + 1 + 1)] S)) :
    m__read_tuple (F + 1) [.str (sT l), .int n, .int ((k : Int) + 1)] S = .ok (.tup [.tup (firms xs), .int ((n + (commas [44] (txts xs)).length + 1 : Nat) : Int)]) S := by
  rw [m__read_tuple_s]
  have hl' : l.length ≤ 100000 := by omega
  have q := v_sign_at (n := n) (S := S) hl'
  by_cases hx : xs = []
  · subst hx
    have hd' : l.drop n = 93 :: rest := hd
    obtain ⟨_, hg1, _⟩ := drop_len hd'
    rw [hg1] at q
    have ec : (commas [44] (txts [])).length = 0 := rfl
    rw [ec]
    simp [b__read_tuple, q, firms]
  · have h1 : ∃ c s, l.drop n = c :: s ∧ c ≠ 93 := by
      cases xs with
      | nil => exact absurd rfl hx
      | cons x ys =>
        have hg' := hg
        simp only [gds, Bool.and_eq_true] at hg'
        obtain ⟨c, cs, e, hc⟩ := txt_head hg'.1
        by_cases hy : ys = []
        · subst hy
          have ec : commas [44] (txts [x]) = txt x := rfl
          exact ⟨c, cs ++ 93 :: rest, by rw [hd, ec, e]; rfl, hc⟩
        · exact ⟨c, cs ++ (44 :: commas [44] (txts ys) ++ 93 :: rest), by rw [hd, txts_cons2 hy, e]; simp, hc⟩
    obtain ⟨c, s, hs, h93⟩ := h1
    obtain ⟨hn, hg1, _⟩ := drop_len hs
    rw [hg1] at q
    have hlen : xs.length ≤ 90001 := by
      have h2 := congrArg List.length hd
      rw [List.length_drop, List.length_append] at h2
      have h3 := commas_sum (txts xs)
      have h4 : (txts xs).length = xs.length := by rw [txts_map, List.length_map]
      omega
    have e := tup_loop (r := m__read_tuple F) hl hS hI xs n 1000000 [] none none rest hx (by omega) hg rfl (by simp; omega) hd
    have gx : give S.length (.tup [.tup (firms xs), .int ((n + (commas [44] (txts xs)).length + 1 : Nat) : Int)]) (S ++ [.lst (firms xs)]) = .ok (.tup [.tup (firms xs), .int ((n + (commas [44] (txts xs)).length + 1 : Nat) : Int)]) S := give_flat hS (by simp [clean, cleans, (firms_clean xs _ hg).1])
    rw [List.nil_append] at e
    push_cast at e gx ⊢
    generalize (n : Int) + ((commas [44] (txts xs)).length : Int) = a at e gx ⊢
    simp [b__read_tuple, q, h93, newL, e, gx]
theorem r_all {l : List Nat} (hl : l.length ≤ 90000) : ∀ (j k : Nat), k + j = 40 → ∀ F, 2 * j + 1 ≤ F → ∀ (x : PV) (n : Nat) (rest : List Nat) (S : Sta), gd x k = true → l.drop n = txt x ++ rest → Stop rest → flatS S = true → Rd' l n S x (m__read_item F [.str (sT l), .int n, .int ((k : Int) + 1)] S)
  | 0, k, hk, F, hF, x, n, rest, S, hg, hd, hs, hS => by
    obtain ⟨F, rfl⟩ : ∃ f, F = f + 1 := ⟨F - 1, by omega⟩
    exact r_item hl hg hd hs fun xs _ h => by omega
  | j + 1, k, hk, F, hF, x, n, rest, S, hg, hd, hs, hS => by
    obtain ⟨F, rfl⟩ : ∃ f, F = f + 1 + 1 := ⟨F - 2, by omega⟩
    refine r_item hl hg hd hs fun xs hp h => ?_
    have hgs : gds xs (k + 1) = true := by
      rcases hp with rfl | rfl <;> simp only [gd, Bool.and_eq_true, decide_eq_true_eq] at hg <;> exact hg.2
    have et : txt x = 91 :: (commas [44] (txts xs) ++ [93]) := by rcases hp with rfl | rfl <;> rfl
    have hd1 : l.drop n = 91 :: (commas [44] (txts xs) ++ 93 :: rest) := by rw [hd, et]; simp
    obtain ⟨_, _, hd2⟩ := drop_len hd1
    have h := r_tuple (S := S) (F := F) hl hS hgs hd2 fun y n rest S hg hd hs hS => by
      have := r_all hl j (k + 1) (by omega) F (by omega) y n rest S hg hd hs hS
      push_cast at this
      exact this
    rw [h, et]
    have e2 : n + 1 + (commas [44] (txts xs)).length + 1 = n + (91 :: (commas [44] (txts xs) ++ [93])).length := by simp; omega
    rw [e2]
theorem v_read_data {p : PV} {S : Sta} (hg : gd p 0 = true) (hl : (txt p).length ≤ 90000) (hS : flatS S = true) : m_read_data [.str (sT (txt p))] S = .ok (firm p) S := by
  have hl' : (txt p).length ≤ 100000 := by omega
  have h := r_all (l := txt p) hl 40 0 rfl 90 (by omega) p 0 [] S hg (by simp) stop_nil hS
  unfold Rd' at h
  rw [show ((0 : Nat) : Int) + 1 = 1 from rfl, show ((0 : Nat) : Int) = 0 from rfl, Nat.zero_add] at h
  simp [m_read_data, h, hl']
end K03
namespace K03
open PySem L2 Co Fx NumText
theorem len_txts (xs : List PV) : (txts xs).length = xs.length := by rw [txts_map, List.length_map]
theorem seq_len {xs : List PV} {N : Nat} (h : (91 :: (commas [44] (txts xs) ++ [93])).length ≤ N) : xs.length + 1 ≤ N ∧ (commas [44] (txts xs)).length + 2 ≤ N ∧ ∀ x ∈ xs, (txt x).length + 1 ≤ N := by
  have h3 := commas_sum (txts xs)
  rw [len_txts] at h3
  simp only [List.length_cons, List.length_append, List.length_nil] at h
  refine ⟨by omega, by omega, fun x hx => ?_⟩
  have := sum_le (us := txts xs) (u := txt x) (by rw [txts_map]; exact List.mem_map_of_mem hx)
  omega
theorem lt_seq {F : Nat} {xs : List PV} {S : Sta} {p : PV} (hp : p = .tup xs ∨ p = .lst xs) (hx : ∀ x ∈ xs, m__law_text F [x] S = .ok (.str (sT (txt x))) S) (hl : (91 :: (commas [44] (txts xs) ++ [93])).length ≤ 99000) :
    b__law_text (m__law_text F) [p] S = .ok (.str (sT (91 :: (commas [44] (txts xs) ++ [93])))) S := by
  obtain ⟨l1, l2, _⟩ := seq_len hl
  have hs := commas_sum (txts xs)
  rw [txts_map] at hl l2 hs ⊢
  have key : ∀ p : PV, lcLoop (NameG 1) YesT (CallE (calmF (m__law_text F)) [] (ConsA (VarE 1) NilA)) [] [some p, none] xs [] S = .ok ([] ++ xs.map fun x => .str (sT (txt x))) S := fun p => by
    refine lcLoop_map _ rfl _ _ (fun x hm => ⟨_, rfl, rfl, ?_⟩) (by simp; omega)
    have e := hx x hm
    simp [e]
  have k1 := key (.tup xs)
  have k2 := key (.lst xs)
  rw [List.nil_append] at k1 k2
  have hj := join_eq [44] (xs.map txt)
  have h44 : Str.ofString "," = sT [44] := rfl
  have h91 : Str.ofString "[" = sT [91] := rfl
  have h93 : Str.ofString "]" = sT [93] := rfl
  have hst : strsP (xs.map fun x => PV.str (sT (txt x))) = some ((xs.map txt).map sT) := by
    rw [← strsP_sT, List.map_map]; rfl
  have hsum : (((xs.map txt).map sT).map (·.length)).sum + ((xs.map txt).map sT).length ≤ 100000 := by
    rw [len_sT, List.length_map]
    omega
  have hl3 : 1 + (commas [44] (xs.map txt)).length ≤ 100000 := by omega
  have hl4 : (commas [44] (xs.map txt)).length + 1 + 1 ≤ 100000 := by omega
  generalize (xs.map txt).map sT = zs at hst hsum hj
  generalize commas [44] (xs.map txt) = cm at hj hl3 hl4 ⊢
  generalize (xs.map fun x => PV.str (sT (txt x))) = ys at k1 k2 hst
  clear hx key
  rcases hp with rfl | rfl
  · simp [h44, h91, h93, b__law_text, k1, hst, hj, hsum, hl3, hl4]
  · simp [h44, h91, h93, b__law_text, k2, hst, hj, hsum, hl3, hl4]
mutual
theorem v_law_text : ∀ (p : PV) (k F : Nat) (S : Sta), gd p k = true → k ≤ 40 → 41 - k ≤ F → (txt p).length ≤ 99000 → m__law_text F [p] S = .ok (.str (sT (txt p))) S
  | p, k, 0, S, _, h2, h3, _ => by omega
  | .str z, k, F + 1, S, _, _, _, _ => by
    rw [m__law_text_s, txt, ← sT_of]
    simp [b__law_text]
  | .int i, k, F + 1, S, h, _, _, _ => by
    simp only [gd, Bool.and_eq_true, decide_eq_true_eq] at h
    have hl := log_big i h.1 h.2
    have ht : Str.ofString i.repr = sT (itext i) := toS_int i
    rw [m__law_text_s, txt]
    simp [b__law_text, hl, ht]
  | .tup xs, k, F + 1, S, h, h2, h3, h4 => by
    simp only [gd, Bool.and_eq_true, decide_eq_true_eq] at h
    rw [txt] at h4
    obtain ⟨_, _, h5⟩ := seq_len h4
    rw [m__law_text_s, txt]
    exact lt_seq (.inl rfl) (v_law_texts xs (k + 1) F S h.2 (by omega) (by omega) fun x hx => by have := h5 x hx; omega) h4
  | .lst xs, k, F + 1, S, h, h2, h3, h4 => by
    simp only [gd, Bool.and_eq_true, decide_eq_true_eq] at h
    rw [txt] at h4
    obtain ⟨_, _, h5⟩ := seq_len h4
    rw [m__law_text_s, txt]
    exact lt_seq (.inr rfl) (v_law_texts xs (k + 1) F S h.2 (by omega) (by omega) fun x hx => by have := h5 x hx; omega) h4
  | .non, _, _ + 1, _, h, _, _, _ => by simp [gd] at h
  | .bl _, _, _ + 1, _, h, _, _, _ => by simp [gd] at h
  | .dct, _, _ + 1, _, h, _, _, _ => by simp [gd] at h
  | .kls _, _, _ + 1, _, h, _, _, _ => by simp [gd] at h
  | .obj _ _ _, _, _ + 1, _, h, _, _, _ => by simp [gd] at h
  | .mu _, _, _ + 1, _, h, _, _, _ => by simp [gd] at h
  | .xv _, _, _ + 1, _, h, _, _, _ => by simp [gd] at h
theorem v_law_texts : ∀ (xs : List PV) (k F : Nat) (S : Sta), gds xs k = true → k ≤ 40 → 41 - k ≤ F → (∀ x ∈ xs, (txt x).length ≤ 99000) → ∀ x ∈ xs, m__law_text F [x] S = .ok (.str (sT (txt x))) S
  | [], k, F, S, _, _, _, _, x, hx => by cases hx
  | p :: ps, k, F, S, h1, h2, h3, h4, x, hx => by
    simp only [gds, Bool.and_eq_true] at h1
    rcases List.mem_cons.mp hx with e | hx'
    · rw [e]; exact v_law_text p k F S h1.1 h2 h3 (h4 p (by simp))
    · exact v_law_texts ps k F S h1.2 h2 h3 (fun y hy => h4 y (List.mem_cons_of_mem _ hy)) x hx'
end
/-! ### made firm -/
theorem firms_map : ∀ xs : List PV, firms xs = xs.map firm
  | [] => rfl
  | p :: ps => by rw [firms, firms_map ps]; rfl
theorem fm_seq {F : Nat} {xs : List PV} {S : Sta} {p : PV} (hp : p = .tup xs ∨ p = .lst xs) (hx : ∀ x ∈ xs, m__law_firm F [x] S = .ok (firm x) S) (hl : xs.length ≤ 99000) : b__law_firm (m__law_firm F) [p] S = .ok (.tup (firms xs)) S := by
  have key : ∀ p : PV, lcLoop (NameG 1) YesT (CallE (calmF (m__law_firm F)) [] (ConsA (VarE 1) NilA)) [] [some p, none] xs [] S = .ok ([] ++ xs.map firm) S := fun p => by
    refine lcLoop_map _ rfl _ _ (fun x hm => ⟨_, rfl, rfl, ?_⟩) (by simp; omega)
    have e := hx x hm
    simp [e]
  have k1 := key (.tup xs)
  have k2 := key (.lst xs)
  rw [List.nil_append, ← firms_map] at k1 k2
  rcases hp with rfl | rfl
  · simp [b__law_firm, k1]
  · simp [b__law_firm, k2]
mutual
theorem v_law_firm : ∀ (p : PV) (k F : Nat) (S : Sta), gd p k = true → k ≤ 40 → 41 - k ≤ F → (txt p).length ≤ 99000 → m__law_firm F [p] S = .ok (firm p) S
  | p, k, 0, S, _, h2, h3, _ => by omega
  | .str z, k, F + 1, S, _, _, _, _ => by rw [m__law_firm_s]; simp [b__law_firm, firm]
  | .int i, k, F + 1, S, h, _, _, _ => by rw [m__law_firm_s]; simp [b__law_firm, firm]
  | .tup xs, k, F + 1, S, h, h2, h3, h4 => by
    simp only [gd, Bool.and_eq_true, decide_eq_true_eq] at h
    rw [txt] at h4
    obtain ⟨h6, _, h5⟩ := seq_len h4
    rw [m__law_firm_s, firm]
    exact fm_seq (.inl rfl) (v_law_firms xs (k + 1) F S h.2 (by omega) (by omega) fun x hx => by have := h5 x hx; omega) (by omega)
  | .lst xs, k, F + 1, S, h, h2, h3, h4 => by
    simp only [gd, Bool.and_eq_true, decide_eq_true_eq] at h
    rw [txt] at h4
    obtain ⟨h6, _, h5⟩ := seq_len h4
    rw [m__law_firm_s, firm]
    exact fm_seq (.inr rfl) (v_law_firms xs (k + 1) F S h.2 (by omega) (by omega) fun x hx => by have := h5 x hx; omega) (by omega)
  | .non, _, _ + 1, _, h, _, _, _ => by simp [gd] at h
  | .bl _, _, _ + 1, _, h, _, _, _ => by simp [gd] at h
  | .dct, _, _ + 1, _, h, _, _, _ => by simp [gd] at h
  | .kls _, _, _ + 1, _, h, _, _, _ => by simp [gd] at h
  | .obj _ _ _, _, _ + 1, _, h, _, _, _ => by simp [gd] at h
  | .mu _, _, _ + 1, _, h, _, _, _ => by simp [gd] at h
  | .xv _, _, _ + 1, _, h, _, _, _ => by simp [gd] at h
theorem v_law_firms : ∀ (xs : List PV) (k F : Nat) (S : Sta), gds xs k = true → k ≤ 40 → 41 - k ≤ F → (∀ x ∈ xs, (txt x).length ≤ 99000) → ∀ x ∈ xs, m__law_firm F [x] S = .ok (firm x) S
  | [], k, F, S, _, _, _, _, x, hx => by cases hx
  | p :: ps, k, F, S, h1, h2, h3, h4, x, hx => by
    simp only [gds, Bool.and_eq_true] at h1
    rcases List.mem_cons.mp hx with e | hx'
    · rw [e]; exact v_law_firm p k F S h1.1 h2 h3 (h4 p (by simp))
    · exact v_law_firms ps k F S h1.2 h2 h3 (fun y hy => h4 y (List.mem_cons_of_mem _ hy)) x hx'
end
/-! ### the same -/
theorem firms_len (xs : List PV) : (firms xs).length = xs.length := by rw [firms_map, List.length_map]
theorem sm_seq {F : Nat} {xs : List PV} {S : Sta} (hx : ∀ x ∈ xs, m__law_same F [firm x, firm x] S = .ok (.bl true) S) (hl : xs.length ≤ 99000) : b__law_same (m__law_same F) [.tup (firms xs), .tup (firms xs)] S = .ok (.bl true) S := by
  have key : lcLoop (NameG 2) YesT (CallE (calmF (m__law_same F)) [] (ConsA (OpE fIx (VarE 0) (VarE 2)) (ConsA (OpE fIx (VarE 1) (VarE 2)) NilA))) [] [some (.tup (firms xs)), some (.tup (firms xs)), none] (intsP 0 xs.length) [] S = .ok ([] ++ (intsP 0 xs.length).map fun _ => PV.bl true) S := by
    refine lcLoop_map _ rfl _ _ (fun x hm => ⟨_, rfl, rfl, ?_⟩) (by unfold intsP; simp; omega)
    unfold intsP at hm
    obtain ⟨i, hi, rfl⟩ := List.mem_map.mp hm
    have hi' : i < xs.length := List.mem_range.mp hi
    have hx' := hx xs[i] (List.getElem_mem hi')
    have ha : atI (firms xs) (0 + (i : Int)) = some (firm xs[i]) := atI_get (by omega) (by
      have e0 : (0 + (i : Int)).toNat = i := by omega
      rw [e0, firms_map, List.getElem?_map, List.getElem?_eq_getElem hi']; rfl)
    simp only [Int.zero_add] at ha
    simp [ha, hx']
  rw [List.nil_append] at key
  have hb := bools_map (intsP 0 xs.length) (fun _ => true)
  have hall : ((intsP 0 xs.length).map fun _ => true).all id = true := by simp
  have hr : (xs.length : Int) < 4611686018427387904 := by omega
  generalize (intsP 0 xs.length).map (fun _ => PV.bl true) = ys at key hb
  generalize (intsP 0 xs.length).map (fun _ => true) = bs at hb hall
  simp [b__law_same, firms_len, hr, key, hb, hall]
theorem dec_true {p : Prop} [Decidable p] (h : p) : decide p = true := decide_eq_true h
mutual
theorem v_law_same : ∀ (p : PV) (k F : Nat) (S : Sta), gd p k = true → k ≤ 40 → 41 - k ≤ F → (txt p).length ≤ 99000 → m__law_same F [firm p, firm p] S = .ok (.bl true) S
  | p, k, 0, S, _, h2, h3, _ => by omega
  | .str z, k, F + 1, S, _, _, _, _ => by rw [m__law_same_s]; simp [b__law_same, firm]
  | .int i, k, F + 1, S, h, _, _, _ => by rw [m__law_same_s]; simp [b__law_same, firm]
  | .tup xs, k, F + 1, S, h, h2, h3, h4 => by
    simp only [gd, Bool.and_eq_true, decide_eq_true_eq] at h
    rw [txt] at h4
    obtain ⟨h6, _, h5⟩ := seq_len h4
    rw [m__law_same_s, firm]
    exact sm_seq (v_law_sames xs (k + 1) F S h.2 (by omega) (by omega) fun x hx => by have := h5 x hx; omega) (by omega)
  | .lst xs, k, F + 1, S, h, h2, h3, h4 => by
    simp only [gd, Bool.and_eq_true, decide_eq_true_eq] at h
    rw [txt] at h4
    obtain ⟨h6, _, h5⟩ := seq_len h4
    rw [m__law_same_s, firm]
    exact sm_seq (v_law_sames xs (k + 1) F S h.2 (by omega) (by omega) fun x hx => by have := h5 x hx; omega) (by omega)
  | .non, _, _ + 1, _, h, _, _, _ => by simp [gd] at h
  | .bl _, _, _ + 1, _, h, _, _, _ => by simp [gd] at h
  | .dct, _, _ + 1, _, h, _, _, _ => by simp [gd] at h
  | .kls _, _, _ + 1, _, h, _, _, _ => by simp [gd] at h
  | .obj _ _ _, _, _ + 1, _, h, _, _, _ => by simp [gd] at h
  | .mu _, _, _ + 1, _, h, _, _, _ => by simp [gd] at h
  | .xv _, _, _ + 1, _, h, _, _, _ => by simp [gd] at h
theorem v_law_sames : ∀ (xs : List PV) (k F : Nat) (S : Sta), gds xs k = true → k ≤ 40 → 41 - k ≤ F → (∀ x ∈ xs, (txt x).length ≤ 99000) → ∀ x ∈ xs, m__law_same F [firm x, firm x] S = .ok (.bl true) S
  | [], k, F, S, _, _, _, _, x, hx => by cases hx
  | p :: ps, k, F, S, h1, h2, h3, h4, x, hx => by
    simp only [gds, Bool.and_eq_true] at h1
    rcases List.mem_cons.mp hx with e | hx'
    · rw [e]; exact v_law_same p k F S h1.1 h2 h3 (h4 p (by simp))
    · exact v_law_sames ps k F S h1.2 h2 h3 (fun y hy => h4 y (List.mem_cons_of_mem _ hy)) x hx'
end
end K03
namespace K03
open PySem L2 Co Fx NumText
/-! ### repr -/
def Sh (p : PV) (k : Nat) (d : D) : Prop := toD p = some d ∧ d.showable = true ∧ d.depth + k ≤ 41 ∧ d.shown.length ≤ 12 * (txt p).length
def Shs (xs : List PV) (k : Nat) (ds : List D) : Prop := toDs xs = some ds ∧ PyData.showableAll ds = true ∧ PyData.depthAll ds + k ≤ 41 ∧ ((PyData.shownAll ds).map (·.length)).sum ≤ 12 * ((txts xs).map (·.length)).sum ∧ ds.length = xs.length
theorem sh_list {xs : List PV} {k : Nat} {ds : List D} (h : Shs xs (k + 1) ds) : Sh (.lst xs) k (.list ds) := by
  obtain ⟨h1, h2, h3, h4, h5⟩ := h
  have g1 := listText_len_le (PyData.shownAll ds)
  have g2 := PyData.shownAll_length ds
  have g3 := commas_sum (txts xs)
  rw [len_txts] at g3
  refine ⟨by simp only [toD, h1, Option.map_some], by simpa only [PyData.showable] using h2, by simp only [PyData.depth]; omega, ?_⟩
  simp only [PyData.shown, txt, List.length_cons, List.length_append, List.length_nil]
  omega
theorem sh_tup {xs : List PV} {k : Nat} {ds : List D} (h : Shs xs (k + 1) ds) : Sh (.tup xs) k (.tuple ds) := by
  obtain ⟨h1, h2, h3, h4, h5⟩ := h
  have g1 := tupleText_len_le (PyData.shownAll ds)
  have g2 := PyData.shownAll_length ds
  have g3 := commas_sum (txts xs)
  rw [len_txts] at g3
  refine ⟨by simp only [toD, h1, Option.map_some], by simpa only [PyData.showable] using h2, by simp only [PyData.depth]; omega, ?_⟩
  simp only [PyData.shown, txt, List.length_cons, List.length_append, List.length_nil]
  omega
theorem lets_small : ∀ c ∈ lets, c < 16 ^ 8 := by decide +kernel
mutual
theorem sh_all : ∀ (p : PV) (k : Nat), gd p k = true → k ≤ 40 → ∃ d, Sh p k d
  | .str z, k, h, hk => by
    refine ⟨.str z, by simp only [toD], by simp only [PyData.showable], by simp only [PyData.depth]; omega, ?_⟩
    simp only [gd, nameB, Bool.and_eq_true, decide_eq_true_eq, List.all_eq_true] at h
    have e := StrLaws.reprText_len z fun c hc => lets_small c (h.2 c hc)
    have ez : (txt (.str z)).length = z.length := by simp only [txt]; simp; rfl
    simp only [PyData.shown]
    omega
  | .int i, k, h, hk => by
    simp only [gd, Bool.and_eq_true, decide_eq_true_eq] at h
    refine ⟨.int i, by simp only [toD], by simp only [PyData.showable, decide_eq_true_eq]; exact log_big i h.1 h.2, by simp only [PyData.depth]; omega, ?_⟩
    have e : (PyData.int i).shown = sT (itext i) := by rw [PyData.shown.eq_3]; exact toS_int i
    rw [e, sT_len, txt]
    omega
  | .tup xs, k, h, hk => by
    simp only [gd, Bool.and_eq_true, decide_eq_true_eq] at h
    obtain ⟨ds, hd⟩ := shs_all xs (k + 1) h.2 (by omega)
    exact ⟨_, sh_tup hd⟩
  | .lst xs, k, h, hk => by
    simp only [gd, Bool.and_eq_true, decide_eq_true_eq] at h
    obtain ⟨ds, hd⟩ := shs_all xs (k + 1) h.2 (by omega)
    exact ⟨_, sh_list hd⟩
  | .non, _, h, _ => by simp [gd] at h
  | .bl _, _, h, _ => by simp [gd] at h
  | .dct, _, h, _ => by simp [gd] at h
  | .kls _, _, h, _ => by simp [gd] at h
  | .obj _ _ _, _, h, _ => by simp [gd] at h
  | .mu _, _, h, _ => by simp [gd] at h
  | .xv _, _, h, _ => by simp [gd] at h
theorem shs_all : ∀ (ps : List PV) (k : Nat), gds ps k = true → k ≤ 40 → ∃ ds, Shs ps k ds
  | [], k, _, hk => ⟨[], by simp only [toDs], by simp only [PyData.showableAll], by simp only [PyData.depthAll]; omega, by simp [PyData.shownAll], rfl⟩
  | p :: ps, k, h, hk => by
    simp only [gds, Bool.and_eq_true] at h
    obtain ⟨d, a1, a2, a3, a4⟩ := sh_all p k h.1 hk
    obtain ⟨ds, b1, b2, b3, b4, b5⟩ := shs_all ps k h.2 hk
    refine ⟨d :: ds, by simp only [toDs, a1, b1], by simp only [PyData.showableAll, a2, b2, Bool.and_self], by simp only [PyData.depthAll]; omega, ?_, by simp [b5]⟩
    simp only [PyData.shownAll, txts, List.map_cons, List.sum_cons]
    omega
end
theorem v_repr {p : PV} (h : gd p 0 = true) (hl : (txt p).length ≤ 50000) : ∃ z, ∀ S, fRepr [p] S = .ok (.str z) S := by
  obtain ⟨d, a1, a2, a3, a4⟩ := sh_all p 0 h (by omega)
  refine ⟨d.shown, fun S => ?_⟩
  have h1 : d.depth ≤ 60 := by omega
  have h2 : d.shown.length ≤ 1000000 := by omega
  rw [fRepr_ap, dat_toD S p d a1]
  simp only [a2, h1, h2, and_self, if_true]
theorem v_law_right {p : PV} {S : Sta} (hg : gd p 0 = true) (hl : (txt p).length ≤ 50000) (hS : flatS S = true) : m__law_right [p] S = .ok (.bl true) S := by
  obtain ⟨z, hz⟩ := v_repr hg hl
  have hz' := hz S
  have h1 := v_data_text (S := S) (p := p) (gd_wf p 0 hg) (by omega)
  unfold R0 at h1
  rw [if_pos hg] at h1
  have h2 := v_law_text p 0 90 S hg (by omega) (by omega) (by omega)
  have h3 := v_read_data (S := S) hg (by omega) hS
  have h4 := v_law_firm p 0 90 S hg (by omega) (by omega) (by omega)
  have h5 := v_law_same p 0 90 S hg (by omega) (by omega) (by omega)
  generalize sT (txt p) = t at h1 h2 h3
  generalize firm p = q at h3 h4 h5
  have hz2 : calm (fRepr [p] S) = .ok (.str z) S := by rw [hz']; rfl
  simp [m__law_right, -fRepr_ap, hz', h1, h2, h3, h4, h5]
end K03
namespace K03
open PySem L2 Co Fx NumText
theorem give_mu {S : Sta} {xs : List PV} (hS : flatS S = true) (hx : cleans 0 xs = true) : give S.length (.mu S.length) (S ++ [.lst xs]) = .ok (.lst xs) S := by
  have h1 : leave S.length [.mu S.length] (S ++ [.lst xs]) = some ([.lst xs], S) := by
    unfold leave
    split
    · rename_i h
      rw [List.length_append, List.length_singleton] at h
      omega
    · have e : (S ++ [Cell.lst xs])[S.length]? = some (.lst xs) := by simp
      simp only [frzs, frz, Nat.lt_irrefl, if_false, e, cleans_le xs hx, if_true]
      rw [List.take_left', frzCs_flat _ _ _ hS] <;> rfl
  unfold give
  rw [h1]
theorem az : (Str.ofString "abcdefghijklmnopqrstuvwxyz").cps.toList = lets := rfl
theorem lets_len : lets.length = 26 := by decide +kernel
theorem az_len : (Str.ofString "abcdefghijklmnopqrstuvwxyz").length = 26 := by decide +kernel
theorem intsP_len {lo : Int} {n : Nat} : (intsP lo n).length = n := by simp [intsP]
theorem let_at {r : Int} (h0 : 0 ≤ r) (h1 : r < 26) : ∃ c : Nat, atI lets r = some c ∧ c ∈ lets := by
  have hl : r.toNat < lets.length := by rw [lets_len]; omega
  exact ⟨lets[r.toNat], atI_get h0 (List.getElem?_eq_getElem hl), List.getElem_mem hl⟩
def Lt (p : PV) : Prop := ∃ c, c ∈ lets ∧ p = .str ⟨#[c]⟩
theorem lts {xs ys : List PV} (h : All2 (fun _ y => Lt y) xs ys) : ∃ cs : List Nat, cs.length = xs.length ∧ (∀ c ∈ cs, c ∈ lets) ∧ strsP ys = some ((cs.map fun c => [c]).map sT) := by
  induction h with
  | nil => exact ⟨[], rfl, (fun _ h => by cases h), rfl⟩
  | @cons x y xs ys h1 h2 ih =>
    obtain ⟨cs, a1, a2, a3⟩ := ih
    obtain ⟨c, hc, rfl⟩ := h1
    refine ⟨c :: cs, by simp [a1], fun d hd => ?_, ?_⟩
    · rcases List.mem_cons.mp hd with rfl | hd
      · exact hc
      · exact a2 d hd
    · have : strsP (PV.str ⟨#[c]⟩ :: ys) = (strsP ys).map (⟨#[c]⟩ :: ·) := by
        simp only [strsP, a3]
        try rfl
      rw [this, a3]
      rfl
theorem commas_sing : ∀ cs : List Nat, commas [] (cs.map fun c => [c]) = cs
  | [] => rfl
  | [c] => rfl
  | c :: d :: cs => by
    have := commas_sing (d :: cs)
    simp only [List.map_cons, commas] at this ⊢
    simpa using this
theorem v_name {b : BS} {n : Nat} {T : Sta} (h : BOk b (n + 13)) : ∃ cs b', m__law_name [.mu 0] (bagC b :: T) = .ok (.str (sT cs)) (bagC b' :: T) ∧ BOk b' n ∧ 1 ≤ cs.length ∧ cs.length ≤ 12 ∧ (∀ c ∈ cs, c ∈ lets) := by
  obtain ⟨r, b1, e1, r0, r1, k1⟩ := v_drawE (n := n + 12) (lim := 12) T (h.less (by omega)) (by decide) (by decide)
  have step : ∀ (x : PV) (b : BS) (n : Nat), x ∈ intsP 0 (1 + r).toNat → BOk b (n + 1) → ∃ ε1, NameG 1 x [some (.mu 0), none] (bagC b :: T) = .ok ε1 (bagC b :: T) ∧ YesT ε1 (bagC b :: T) = .ok true (bagC b :: T) ∧ ∃ y b1, OpE fIx (Fx.CE (.str "abcdefghijklmnopqrstuvwxyz")) (CallE m__law_draw [] (ConsA (VarE 0) (ConsA (Fx.CE (.int 26)) NilA))) ε1 (bagC b :: T) = .ok y (bagC b1 :: T) ∧ BOk b1 n ∧ Lt y := fun x b n _ hb => by
    obtain ⟨r, b1, e1, r1, r2, k1⟩ := v_drawE (n := n) (lim := 26) T hb (by decide) (by decide)
    obtain ⟨c, hc, hm⟩ := let_at r1 r2
    refine ⟨_, rfl, rfl, .str ⟨#[c]⟩, b1, ?_, k1, ⟨c, hm, rfl⟩⟩
    simp [e1, az, az_len, hc]
  obtain ⟨ys, b2, e2, k2, a⟩ := lcLoop_bag (g := NameG 1) (mc := YesT) (ε := [some (.mu 0), none]) (pins := []) (T := T) (k := 1) (fun _ y => Lt y) (fun _ => rfl) (intsP 0 (1 + r).toNat) [] n b1 step (by rw [intsP_len]; simp; omega) (k1.less (by rw [intsP_len]; omega))
  obtain ⟨cs, c1, c2, c3⟩ := lts a
  rw [intsP_len] at c1
  refine ⟨cs, b2, ?_, k2, by omega, by omega, c2⟩
  have hj := join_eq [] (cs.map fun c => [c])
  rw [commas_sing] at hj
  have h0 : Str.ofString "" = sT [] := rfl
  have hs : ((((cs.map fun c => [c]).map sT).map (·.length)).sum + 0 * ((cs.map fun c => [c]).map sT).length) ≤ 100000 := by
    rw [len_sT]
    have : ((cs.map fun c => [c]).map (·.length)).sum = cs.length := by
      rw [List.map_map]
      clear c1 c2 c3 hj e2 a
      induction cs with
      | nil => rfl
      | cons c cs ih => simp only [List.map_cons, List.sum_cons, List.length_cons, ih]; simp; omega
    omega
  have hr : 1 + r < 4611686018427387904 := by omega
  have hr' : -4611686018427387904 ≤ 1 + r := by omega
  rw [List.nil_append] at e2
  generalize (cs.map fun c => [c]).map sT = zs at c3 hj hs
  simp at hs
  simp [m__law_name, e1, hr, hr', e2, c3, h0, hs, hj]
def Leaf (p : PV) : Prop := (txt p).length ≤ 31 ∧ ((p = .tup [] ∨ p = .lst []) ∨ (∀ k, gd p k = true))
theorem name_ok {cs : List Nat} (h0 : 1 ≤ cs.length) (h1 : cs.length ≤ 12) (h : ∀ c ∈ cs, c ∈ lets) : nameB (sT cs) = true := by
  unfold nameB
  rw [sT_len, sT_cps]
  simp only [Bool.and_eq_true, decide_eq_true_eq, List.all_eq_true]
  exact ⟨⟨h0, h1⟩, h⟩
theorem leaf_name {cs : List Nat} (h0 : 1 ≤ cs.length) (h1 : cs.length ≤ 12) (h : ∀ c ∈ cs, c ∈ lets) : Leaf (.str (sT cs)) :=
  ⟨by rw [txt, sT_cps]; omega, .inr fun k => by simp only [gd]; exact name_ok h0 h1 h⟩
theorem big_small : (10 : Int) ^ 30 ≤ BIG := by decide +kernel
theorem leaf_int {i : Int} (h : i.natAbs < 10 ^ 30) : Leaf (.int i) := by
  have hb := big_small
  refine ⟨by rw [txt]; exact itext_len h (by decide), .inr fun k => ?_⟩
  simp only [gd, Bool.and_eq_true, decide_eq_true_eq]
  omega
theorem v_leaf {b : BS} {n : Nat} {T : Sta} (h : BOk b (n + 14)) : ∃ p b', m__law_leaf [.mu 0] (bagC b :: T) = .ok p (bagC b' :: T) ∧ BOk b' n ∧ Leaf p := by
  obtain ⟨way, b1, e1, w0, w1, k1⟩ := v_drawE (n := n + 13) (lim := 4) T (h.less (by omega)) (by decide) (by decide)
  by_cases h0 : way = 0
  · subst h0
    obtain ⟨cs, b2, e2, k2, c1, c2, c3⟩ := v_name (T := T) k1
    exact ⟨_, b2, by simp [m__law_leaf, e1, e2], k2, leaf_name c1 c2 c3⟩
  · by_cases h1 : way = 1
    · subst h1
      obtain ⟨r, b2, e2, r0, r1, k2⟩ := v_drawE (n := n) (lim := 1000000000000000000000000000000) T (k1.less (by omega)) (by decide) (by decide)
      exact ⟨.int (r - 100000000000000000000000000000), b2, by simp [m__law_leaf, e1, e2], k2, leaf_int (by omega)⟩
    · by_cases h2 : way = 2
      · subst h2
        obtain ⟨r, b2, e2, r0, r1, k2⟩ := v_drawE (n := n) (lim := 21) T (k1.less (by omega)) (by decide) (by decide)
        exact ⟨.int (r - 10), b2, by simp [m__law_leaf, e1, e2], k2, leaf_int (by omega)⟩
      · obtain ⟨r, b2, e2, r0, r1, k2⟩ := v_drawE (n := n) (lim := 2) T (k1.less (by omega)) (by decide) (by decide)
        have : r = 0 ∨ r = 1 := by omega
        rcases this with rfl | rfl
        · have ha : atI [PV.tup [], PV.lst []] 0 = some (.tup []) := atI_get (by decide) rfl
          exact ⟨.tup [], b2, by simp [m__law_leaf, e1, h0, h1, h2, e2, ha], k2, by decide, .inl (.inl rfl)⟩
        · have ha : atI [PV.tup [], PV.lst []] 1 = some (.lst []) := atI_get (by decide) rfl
          exact ⟨.lst [], b2, by simp [m__law_leaf, e1, h0, h1, h2, e2, ha], k2, by decide, .inl (.inr rfl)⟩
end K03
namespace K03
open PySem L2 Co Fx NumText
/-- states with a budget in a cell (behind the bag) -/
structure Bud (T : Int → Sta) (j L : Nat) : Prop where
  get : ∀ w, (T w)[j]? = some (.lst [.int w])
  set : ∀ w w', (T w).set j (.lst [.int w']) = T w'
  len : ∀ w, (T w).length = L
  flat : ∀ w, flatS (T w) = true
theorem Bud.app {T : Int → Sta} {j L : Nat} (h : Bud T j L) {xs : List PV} (hx : cleans 0 xs = true) : Bud (fun w => T w ++ [.lst xs]) j (L + 1) := by
  have hj : ∀ w, j < (T w).length := fun w => (List.getElem?_eq_some_iff.mp (h.get w)).1
  refine ⟨fun w => ?_, fun w w' => ?_, fun w => ?_, fun w => ?_⟩
  · rw [List.getElem?_append_left (hj w)]; exact h.get w
  · rw [List.set_append_left _ _ (hj w), h.set w w']
  · rw [List.length_append, h.len w]; rfl
  · rw [flatS_app, h.flat w]; simp [flatS, flatC, hx]
def G (d : Nat) (p : PV) : Prop := ∀ k, k + d < 40 → gd p k = true
theorem leaf_G {p : PV} {d : Nat} (h : Leaf p) : G d p := fun k hk => by
  rcases h.2 with (rfl | rfl) | h
  · simp [gd, gds]; omega
  · simp [gd, gds]; omega
  · exact h k
theorem G_clean {p : PV} {d : Nat} (h : G d p) (hd : d < 40) : clean 0 p = true := (firm_clean p 0 (h 0 (by omega))).2
theorem gds_all {k : Nat} : ∀ {xs : List PV}, (∀ x ∈ xs, gd x k = true) → gds xs k = true
  | [], _ => rfl
  | x :: xs, h => by simp [gds, h x (by simp), gds_all fun y hy => h y (List.mem_cons_of_mem _ hy)]
theorem cleans_all : ∀ {xs : List PV}, (∀ x ∈ xs, clean 0 x = true) → cleans 0 xs = true
  | [], _ => rfl
  | x :: xs, h => by simp [cleans, h x (by simp), cleans_all fun y hy => h y (List.mem_cons_of_mem _ hy)]
theorem G_seq {d : Nat} {ys : List PV} {p : PV} (hp : p = .tup ys ∨ p = .lst ys) (h : ∀ y ∈ ys, G d y) : G (d + 1) p := fun k hk => by
  have h1 : gds ys (k + 1) = true := gds_all fun y hy => h y hy (k + 1) (by omega)
  rcases hp with rfl | rfl <;> simp [gd, h1] <;> omega
def ND : Nat → Nat
  | 0 => 20
  | d + 1 => 20 + 4 * ND d
theorem ND0 (d : Nat) : 20 ≤ ND d := by
  cases d with
  | zero => exact Nat.le_refl _
  | succ d => simp only [ND]; omega
def szs (ys : List PV) : Nat := ((txts ys).map (·.length)).sum
theorem commas_le (us : List (List Nat)) : (commas [44] us).length ≤ (us.map (·.length)).sum + us.length := by
  cases us with
  | nil => simp [commas]
  | cons u us =>
    have := commas_len [44] us u
    simp only [List.length_cons, List.length_nil, Nat.zero_add, Nat.mul_one] at this ⊢
    omega
/-- what a drawn thing is like -/
structure Dr (d : Nat) (w w' : Int) (p : PV) : Prop where
  g : G d p
  le : w' ≤ w
  lo : ∀ B : Int, B ≤ w → B ≤ -4 * (d : Int) → B ≤ w'
  sz : ((txt p).length : Int) ≤ 34 * (1 + (w - w'))
def Dat (d F : Nat) : Prop := ∀ (w : Int) (n : Nat) (b : BS) (T : Int → Sta) (j L : Nat), Bud T j L → BOk b (n + ND d) → ∃ p b' w', m__law_data F [.mu 0, .int d, .mu (j + 1)] (bagC b :: T w) = .ok p (bagC b' :: T w') ∧ BOk b' n ∧ Dr d w w' p
theorem data_loop {d F : Nat} {T : Int → Sta} {j L : Nat} (hd : d < 30) (hB : Bud T j L) (ih : Dat d F) : ∀ (ps : List PV) (acc : List PV) (w : Int) (n : Nat) (b : BS) (u : Option PV), acc.length + ps.length ≤ 4 → cleans 0 acc = true → BOk b (n + ND d * ps.length) →
    ∃ u' ys b' w', loop (NameG 4) (L__law_data_1 (m__law_data F)) [] ps [some (.mu 0), some (.int ((d + 1 : Nat) : Int)), some (.mu (j + 1)), some (.mu (L + 1)), u] (bagC b :: (T w ++ [.lst acc])) =
        .nx [some (.mu 0), some (.int ((d + 1 : Nat) : Int)), some (.mu (j + 1)), some (.mu (L + 1)), u'] (bagC b' :: (T w' ++ [.lst (acc ++ ys)])) ∧ BOk b' n ∧ ys.length = ps.length ∧ (∀ y ∈ ys, G d y) ∧ w' ≤ w ∧ (∀ B : Int, B ≤ w → B ≤ -4 * (d : Int) → B - ps.length ≤ w') ∧ (szs ys : Int) ≤ 34 * (w - w')
  | [], acc, w, n, b, u, _, _, hb => ⟨u, [], b, w, by simp [loop, pinsOk], by simpa using hb, rfl, (fun _ h => by cases h), Int.le_refl _, fun B h _ => by simpa using h, by simp [szs, txts]⟩
  | x :: ps, acc, w, n, b, u, hl, ha, hb => by
    have hB2 := hB.app ha
    obtain ⟨T2, hT2⟩ : ∃ T2 : Int → Sta, T2 = fun w => T w ++ [.lst acc] := ⟨_, rfl⟩
    rw [← hT2] at hB2
    obtain ⟨p, b1, w1, e1, k1, D⟩ := ih (w - 1) (n + ND d * ps.length) b T2 j (L + 1) hB2 (hb.less (by rw [List.length_cons, Nat.mul_succ]; omega))
    have hpc := G_clean D.g (by omega)
    obtain ⟨u', ys, b', w', e2, k2, y1, y2, y3, y4, y5⟩ := data_loop hd hB ih ps (acc ++ [p]) w1 n b1 (some x) (by simp only [List.length_cons] at hl; simp; omega) (by rw [flat_app, ha]; simp [cleans, hpc]) k1
    have h1 := D.le
    have h3 := D.sz
    refine ⟨u', p :: ys, b', w', ?_, k2, by simp [y1], fun y hy => ?_, by omega, fun B q1 q2 => ?_, ?_⟩
    · have e3 : acc ++ p :: ys = acc ++ [p] ++ ys := by simp
      rw [e3, ← e2]
      have hS0 : (bagC b :: (T w ++ [.lst acc])) = bagC b :: T2 w := by rw [hT2]
      have hS1 : (bagC b1 :: (T w1 ++ [.lst (acc ++ [p])])) = bagC b1 :: (T w1 ++ [.lst (acc ++ [p])]) := rfl
      have hget : (T2 w)[j]? = some (.lst [.int w]) := hB2.get w
      have hset : (T2 w).set j (.lst [.int (w - 1)]) = T2 (w - 1) := hB2.set w (w - 1)
      have hgp : ∀ w1, (T2 w1)[L]? = some (.lst acc) := fun w1 => by
        rw [hT2]; dsimp only
        rw [List.getElem?_append_right (by rw [hB.len]; exact Nat.le_refl _), hB.len, Nat.sub_self]; rfl
      have hsp : (T2 w1).set L (.lst (acc ++ [p])) = T w1 ++ [.lst (acc ++ [p])] := by
        rw [hT2]; dsimp only
        rw [List.set_append_right _ _ (by rw [hB.len]; exact Nat.le_refl _), hB.len, Nat.sub_self]; rfl
      have hln : (T2 w).length = L + 1 := hB2.len w
      have hln1 : (T w1).length = L := hB.len w1
      have hal : acc.length < 100000 := by omega
      refine lp_nx (S1 := bagC b :: T2 w) (ε1 := [some (.mu 0), some (.int ((d + 1 : Nat) : Int)), some (.mu (j + 1)), some (.mu (L + 1)), some x]) rfl (by rw [hS0]; rfl) ?_
      have ed : (((d + 1 : Nat) : Int) - 1) = d := by omega
      generalize ((d + 1 : Nat) : Int) = dd at ed ⊢
      generalize hT3 : (T w1 ++ [.lst (acc ++ [p])]) = T3 at hsp ⊢
      have hln3 : T3.length = L + 1 := by rw [← hT3, List.length_append, hln1]; rfl
      have hix : ixN 1 0 = some 0 := by decide
      simp [L__law_data_1, hget, hset, ed, e1, hgp, hsp, hal, hln, hln3, hix]
    · rcases List.mem_cons.mp hy with rfl | hy
      · exact D.g
      · exact y2 y hy
    · have := D.lo
      simp only [List.length_cons]
      have q3 := y4 (B - 1) (this (B - 1) (by omega) (by omega)) (by omega)
      push_cast
      omega
    · have e : szs (p :: ys) = (txt p).length + szs ys := by simp [szs, txts]
      rw [e]
      push_cast
      omega
end K03
namespace K03
open PySem L2 Co Fx NumText
theorem dr_leaf {p : PV} {d : Nat} {w : Int} (h : Leaf p) : Dr d w w p := ⟨leaf_G h, Int.le_refl _, fun B q _ => q, by have := h.1; omega⟩
theorem dr_seq {d : Nat} {w w' : Int} {ys : List PV} {p : PV} (hp : p = .tup ys ∨ p = .lst ys) (hw : 0 < w) (hg : ∀ y ∈ ys, G d y) (h1 : w' ≤ w) (h2 : ∀ B : Int, B ≤ w → B ≤ -4 * (d : Int) → B - ys.length ≤ w') (h3 : (szs ys : Int) ≤ 34 * (w - w')) (hl : ys.length ≤ 4) : Dr (d + 1) w w' p := by
  refine ⟨G_seq hp hg, h1, fun B q1 q2 => ?_, ?_⟩
  · have := h2 (-4 * (d : Int)) (by omega) (by omega)
    push_cast at q2
    omega
  · have hc := commas_le (txts ys)
    rw [len_txts] at hc
    have e : txt p = 91 :: (commas [44] (txts ys) ++ [93]) := by rcases hp with rfl | rfl <;> rfl
    have e2 : (txt p).length = (commas [44] (txts ys)).length + 2 := by rw [e]; simp
    have e3 : szs ys = ((txts ys).map (·.length)).sum := rfl
    rw [e2]
    push_cast
    omega
theorem flat_bag {b : BS} : flatC (bagC b) = true := by
  simp [bagC, flatC, cleans, clean, flat_ints]
theorem v_data : ∀ (d F : Nat), d < F → d < 30 → Dat d F
  | d, 0, h, _ => absurd h (Nat.not_lt_zero d)
  | d, F + 1, hF, hd => fun w n b T j L hB hb => by
    have hN := ND0 d
    rw [m__law_data_s]
    have hlen := hB.len w
    have hget : (T w)[j]? = some (.lst [.int w]) := hB.get w
    by_cases h0 : d = 0
    · subst h0
      obtain ⟨p, b1, e1, k1, hp⟩ := v_leaf (n := n) (T := T w) (hb.less (by omega))
      exact ⟨p, b1, w, by simp [b__law_data, e1], k1, dr_leaf hp⟩
    · have h0' : ¬ ((d : Int) = 0) := by omega
      by_cases hw : w ≤ 0
      · obtain ⟨p, b1, e1, k1, hp⟩ := v_leaf (n := n) (T := T w) (hb.less (by omega))
        exact ⟨p, b1, w, by simp [b__law_data, h0, h0', hget, hw, e1], k1, dr_leaf hp⟩
      · obtain ⟨r, b1, e1, r0, r1, k1⟩ := v_drawE (n := n + ND d - 1) (lim := 3) (T w) (hb.less (by omega)) (by decide) (by decide)
        by_cases hr0 : r = 0
        · subst hr0
          obtain ⟨p, b2, e2, k2, hp⟩ := v_leaf (n := n) (T := T w) (k1.less (by omega))
          exact ⟨p, b2, w, by simp [b__law_data, h0, h0', hget, hw, e1, e2], k2, dr_leaf hp⟩
        · obtain ⟨d, rfl⟩ : ∃ e, d = e + 1 := ⟨d - 1, by omega⟩
          simp only [ND] at hb k1 hN
          obtain ⟨m, b2, e2, m0, m1, k2⟩ := v_drawE (n := n + 4 * ND d + 2) (lim := 5) (T w ++ [.lst []]) (k1.less (by omega)) (by decide) (by decide)
          have hm : ND d * (intsP 0 m.toNat).length ≤ 4 * ND d := by
            rw [intsP_len, Nat.mul_comm]
            exact Nat.mul_le_mul_right _ (by omega)
          obtain ⟨u', ys, b3, w', e3, k3, y1, y2, y3, y4, y5⟩ := data_loop (F := F) (T := T) (by omega) hB (v_data d F (by omega) (by omega)) (intsP 0 m.toNat) [] w (n + 2) b2 none (by rw [intsP_len]; simp; omega) rfl (k2.less (by omega))
          rw [List.nil_append] at e3
          obtain ⟨c, b4, e4, c0, c1, k4⟩ := v_drawE (n := n) (lim := 2) (T w' ++ [.lst ys]) (k3.less (by omega)) (by decide) (by decide)
          rw [intsP_len] at y1
          have hyl : ys.length ≤ 4 := by omega
          have hyc : cleans 0 ys = true := cleans_all fun y hy => G_clean (y2 y hy) (by omega)
          have y4' : ∀ B : Int, B ≤ w → B ≤ -4 * (d : Int) → B - ys.length ≤ w' := fun B q1 q2 => by
            have := y4 B q1 q2
            rw [intsP_len] at this
            rw [y1]; exact this
          have hfl : flatS (bagC b4 :: T w') = true := by
            show (flatC (bagC b4) && flatS (T w')) = true
            rw [flat_bag, hB.flat]; rfl
          have hln' : (bagC b4 :: T w').length = L + 1 := by rw [List.length_cons, hB.len]
          have hq : m < 4611686018427387904 := by omega
          have hq' : -4611686018427387904 ≤ m := by omega
          have hdd : ¬ (((d + 1 : Nat) : Int) = 0) := by omega
          have hlw := hB.len w
          have hlw' := hB.len w'
          by_cases hc : c = 0
          · have gv : give (L + 1) (.mu (L + 1)) (bagC b4 :: (T w' ++ [.lst ys])) = .ok (.lst ys) (bagC b4 :: T w') := by
              have := give_mu (S := bagC b4 :: T w') hfl hyc
              rw [hln'] at this
              exact this
            refine ⟨.lst ys, b4, w', ?_, k4, dr_seq (.inr rfl) (by omega) y2 y3 y4' y5 hyl⟩
            subst hc
            generalize ((d + 1 : Nat) : Int) = dd at *
            simp [b__law_data, hdd, hget, hw, e1, hr0, newL, hlen, e2, hq, hq', e3, e4, gv]
          · have gv : give (L + 1) (.tup ys) (bagC b4 :: (T w' ++ [.lst ys])) = .ok (.tup ys) (bagC b4 :: T w') := by
              have := give_flat (S := bagC b4 :: T w') (T := [.lst ys]) (p := .tup ys) hfl (by simp only [clean]; exact hyc)
              rw [hln'] at this
              exact this
            have hgy : (T w' ++ [Cell.lst ys])[L]? = some (.lst ys) := by
              rw [List.getElem?_append_right (by rw [hB.len]; exact Nat.le_refl _), hB.len, Nat.sub_self]; rfl
            refine ⟨.tup ys, b4, w', ?_, k4, dr_seq (.inl rfl) (by omega) y2 y3 y4' y5 hyl⟩
            generalize ((d + 1 : Nat) : Int) = dd at *
            simp [b__law_data, hdd, hget, hw, e1, hr0, newL, hlen, e2, hq, hq', e3, e4, hc, gv, hgy]
end K03
namespace K03
open PySem L2 Co Fx NumText
def aro : Nat → PV → PV
  | 0, p => p
  | m + 1, p => if m % 2 = 0 then .lst [aro m p] else .tup [aro m p]
theorem aro_e {m : Nat} {p : PV} : aro (m + 1) p = if m % 2 = 0 then .lst [aro m p] else .tup [aro m p] := rfl
theorem aro_s {m : Nat} {p : PV} : aro (m + 1) p = .lst [aro m p] ∨ aro (m + 1) p = .tup [aro m p] := by
  rw [aro_e]
  by_cases h : m % 2 = 0
  · rw [if_pos h]; exact .inl rfl
  · rw [if_neg h]; exact .inr rfl
theorem aro_gd {p : PV} : ∀ (m k : Nat), k + m ≤ 40 → gd p (k + m) = true → gd (aro m p) k = true
  | 0, k, _, h => h
  | m + 1, k, hk, h => by
    have ih := aro_gd (p := p) m (k + 1) (by omega) (by rw [show k + 1 + m = k + (m + 1) by omega]; exact h)
    have hk' : k < 40 := by omega
    rcases aro_s (m := m) (p := p) with e | e <;> rw [e] <;> simp [gd, gds, ih, hk']
theorem aro_bad {p : PV} : ∀ (m k : Nat), k ≤ 40 → (gd p (k + m) = false ∨ 40 < k + m) → gd (aro m p) k = false
  | 0, k, hk, h => by
    rcases h with h | h
    · exact h
    · omega
  | m + 1, k, hk, h => by
    by_cases hk' : k < 40
    · have ih := aro_bad (p := p) m (k + 1) (by omega) (by rw [show k + 1 + m = k + (m + 1) by omega]; exact h)
      rcases aro_s (m := m) (p := p) with e | e <;> rw [e] <;> simp [gd, gds, ih]
    · rcases aro_s (m := m) (p := p) with e | e <;> rw [e] <;> simp [gd, hk']
theorem aro_wf {p : PV} (h : wf p = true) : ∀ m : Nat, wf (aro m p) = true
  | 0 => h
  | m + 1 => by
    have ih := aro_wf h m
    rcases aro_s (m := m) (p := p) with e | e <;> rw [e] <;> simp [wf, wfs, ih]
theorem aro_len {p : PV} : ∀ m : Nat, (txt (aro m p)).length = (txt p).length + 2 * m
  | 0 => rfl
  | m + 1 => by
    have ih := aro_len (p := p) m
    rcases aro_s (m := m) (p := p) with e | e <;> rw [e] <;> simp [txt, txts, commas, ih] <;> omega
theorem around_loop {p : PV} {S : Sta} {a1 : Option PV} : ∀ (n i : Nat) (u : Option PV), ∃ u', loop (NameG 2) L__law_around_1 [] (intsP i n) [some (aro i p), a1, u] S = .nx [some (aro (i + n) p), a1, u'] S
  | 0, i, u => ⟨u, by simp [intsP_zero, loop, pinsOk]⟩
  | n + 1, i, u => by
    obtain ⟨u', ih⟩ := around_loop (p := p) (S := S) (a1 := a1) n (i + 1) (some (.int i))
    refine ⟨u', ?_⟩
    rw [intsP_succ, show i + (n + 1) = i + 1 + n by omega, ← ih, show ((i + 1 : Nat) : Int) = (i : Int) + 1 by omega]
    refine lp_nx rfl rfl ?_
    have lg : Nat.log2 2 < 9000 := by decide
    by_cases h : i % 2 = 0
    · have h' : (i : Int) % 2 = 0 := by omega
      have e : aro (i + 1) p = .lst [aro i p] := by rw [aro_e, if_pos h]
      rw [e]
      simp [L__law_around_1, h']
    · have h' : ¬ (i : Int) % 2 = 0 := by omega
      have e : aro (i + 1) p = .tup [aro i p] := by rw [aro_e, if_neg h]
      rw [e]
      simp [L__law_around_1, h']
theorem v_around {p : PV} {m : Nat} {S : Sta} (hm : m ≤ 1000) : m__law_around [p, .int m] S = .ok (aro m p) S := by
  obtain ⟨u', h⟩ := around_loop (p := p) (S := S) (a1 := some (.int m)) m 0 none
  rw [Nat.zero_add] at h
  have h0 : aro 0 p = p := rfl
  rw [h0, show ((0 : Nat) : Int) = 0 from rfl] at h
  have hq : (m : Int) < 4611686018427387904 := by omega
  simp [m__law_around, hq, h]
/-! ### bad things -/
structure Bad (p : PV) : Prop where
  wf : wf p = true
  len : (txt p).length ≤ 100
  gd : ∀ k, gd p k = false
theorem bad_plain {p : PV} (h : p = .bl true ∨ p = .bl false ∨ p = .non ∨ p = .dct) : Bad p := by
  rcases h with rfl | rfl | rfl | rfl <;> exact ⟨rfl, by decide, fun k => rfl⟩
theorem bad_str {z : Str} (h : nameB z = false) (hl : z.length ≤ 100) : Bad (.str z) :=
  ⟨by simp [K03.wf], by
    have : (txt (.str z)).length = z.length := by rw [txt]; simp; rfl
    omega, fun k => by simp only [K03.gd]; exact h⟩
theorem name_no {l : List Nat} {c : Nat} (h : c ∈ l) (hc : c ∉ lets) : nameB (sT l) = false := by
  have : nameB (sT l) ≠ true := fun z => by
    simp only [nameB, sT_cps, Bool.and_eq_true, List.all_eq_true, decide_eq_true_eq] at z
    exact hc (z.2 c h)
  simpa using this
theorem name_long {l : List Nat} (h : 12 < l.length) : nameB (sT l) = false := by
  have : nameB (sT l) ≠ true := fun z => by
    simp only [nameB, sT_len, Bool.and_eq_true, decide_eq_true_eq] at z
    omega
  simpa using this
theorem bad_in {pre : List Nat} {post : List Nat} {c : Nat} (hc : c ∉ lets) (hl : pre.length + post.length ≤ 50) : Bad (.str (sT pre ++ sT [c] ++ sT post)) := by
  rw [sT_app, sT_app]
  exact bad_str (name_no (c := c) (by simp) hc) (by rw [sT_len]; simp; omega)
theorem bad_seq {ys : List PV} {y : PV} {p : PV} (hp : p = .tup ys ∨ p = .lst ys) (hy : y ∈ ys) {k : Nat} (h : K03.gd y (k + 1) = false) : K03.gd p k = false := by
  have h1 : gds ys (k + 1) = false := by
    have : gds ys (k + 1) ≠ true := fun z => by
      rw [gds_mem z y hy] at h; cases h
    simpa using this
  rcases hp with rfl | rfl <;> simp [K03.gd, h1]
end K03
namespace K03
open PySem L2 Co Fx NumText
theorem bud0 : Bud (fun w => [.lst [.int w]]) 0 1 := ⟨fun _ => rfl, fun _ _ => rfl, fun _ => rfl, fun _ => rfl⟩
theorem bud1 {u : Int} : Bud (fun w => [.lst [.int u], .lst [.int w]]) 1 2 := ⟨fun _ => rfl, fun _ _ => rfl, fun _ => rfl, fun _ => rfl⟩
theorem flat3 {b : BS} {u v : Int} : flatS [bagC b, .lst [.int u], .lst [.int v]] = true := by
  show (flatC (bagC b) && _) = true
  rw [flat_bag]; rfl
theorem pow_e {ε : Fx.Env} {S : Sta} : OpE fPowX (OpE fPow (Fx.CE (.int 10)) (Fx.CE (.int 50))) (Fx.CE (.int 8)) ε S = .ok (.int (BIG + 1)) S := by
  have h : (Out.ok (.int ((10 ^ 50) ^ 8)) S : Out PV) = .ok (.int (BIG + 1)) S := by
    congr 2
  rw [← h]
  have hb : ((Builtin.Int.intBits 100000000000000000000000000000000000000000000000000 : Nat) : Int) * 8 ≤ 134217728 := by decide +kernel
  simp [hb]
theorem right_G {d : Nat} {p : PV} {S : Sta} (h : G d p) (hd : d < 40) (hl : (txt p).length ≤ 50000) (hS : flatS S = true) : m__law_right [p] S = .ok (.bl true) S := v_law_right (h 0 (by omega)) hl hS
theorem seq_txt {p : PV} {ys : List PV} (hp : p = .tup ys ∨ p = .lst ys) : (txt p).length ≤ szs ys + ys.length + 2 := by
  have hc := commas_le (txts ys)
  rw [len_txts] at hc
  have e : txt p = 91 :: (commas [44] (txts ys) ++ [93]) := by rcases hp with rfl | rfl <;> rfl
  have e2 : (txt p).length = (commas [44] (txts ys)).length + 2 := by rw [e]; simp
  have e3 : szs ys = ((txts ys).map (·.length)).sum := rfl
  omega
theorem szs_nil : szs [] = 0 := rfl
theorem szs_cons {p : PV} {ps : List PV} : szs (p :: ps) = (txt p).length + szs ps := by simp [szs, txts]
theorem leaf_cases {p : PV} (h : Leaf p) : (p = .tup [] ∨ p = .lst []) ∨ (((∃ z, p = .str z) ∨ ∃ i, p = .int i) ∧ ∀ k, gd p k = true) := by
  rcases h.2 with h1 | h1
  · exact .inl h1
  · refine .inr ⟨?_, h1⟩
    have h40 := h1 40
    cases p with
    | str z => exact .inl ⟨z, rfl⟩
    | int i => exact .inr ⟨i, rfl⟩
    | tup xs => simp [gd] at h40
    | lst xs => simp [gd] at h40
    | _ => simp [gd] at h40
/-- the room about a leaf -/
theorem leaf_room {p : PV} (h : Leaf p) (ε : Fx.Env) (S : Sta) (hε : ε[6]? = some (some p)) : ∃ room : Nat, IfE (TestE (IsiTE .list .tuple (VarE 6))) (Fx.CE (.int 39)) (Fx.CE (.int 40)) ε S = .ok (.int room) S ∧ (room = 39 ∨ room = 40) ∧
    (∀ m, m ≤ room → gd (aro m p) 0 = true) ∧ (∀ m, room < m → gd (aro m p) 0 = false) ∧ wf p = true := by
  rcases leaf_cases h with hs | ⟨hp, hg⟩
  · refine ⟨39, ?_, .inl rfl, fun m hm => aro_gd m 0 (by omega) ?_, fun m hm => aro_bad m 0 (by omega) ?_, ?_⟩
    · rcases hs with rfl | rfl <;> simp [hε]
    · rcases hs with rfl | rfl <;> simp [gd, gds] <;> omega
    · by_cases h40 : m = 40
      · subst h40; left; rcases hs with rfl | rfl <;> simp [gd]
      · right; omega
    · rcases hs with rfl | rfl <;> rfl
  · refine ⟨40, ?_, .inr rfl, fun m hm => aro_gd m 0 (by omega) (hg _), fun m hm => aro_bad m 0 (by omega) (.inr (by omega)), ?_⟩
    · rcases hp with ⟨z, rfl⟩ | ⟨i, rfl⟩ <;> simp [hε]
    · rcases hp with ⟨z, rfl⟩ | ⟨i, rfl⟩ <;> rfl
def lastP : PV := .tup [.int 3, .str "put", .tup [.int (-1), .tup []]]
theorem last_good : gd lastP 0 = true ∧ firm lastP = lastP ∧ Str.ofString "[3,put,[-1,[]]]" = sT (txt lastP) ∧ (txt lastP).length ≤ 100 := by
  refine ⟨?_, ?_, ?_, ?_⟩
  · decide +kernel
  · simp [lastP, firm, firms]
  · rw [ofS, sT_inj]; decide +kernel
  · decide +kernel
/-- what may be odd -/
theorem odd_bad {cs : List Nat} {a : Nat} (h1 : cs.length ≤ 12) (h2 : 1 ≤ cs.length) (h3 : a ≤ cs.length) : ∀ r : Int, 0 ≤ r → r < 12 → ∃ p, atI [.bl true, .bl false, .non, .str "", .str "A", .str "a b", .str (sT (cs.take a) ++ Str.ofString "-" ++ sT (cs.drop a)), .str (sT (cs.take a) ++ Str.ofString "X" ++ sT (cs.drop a)), .str (sT cs ++ Str.ofString "abcdefghijkl"), .str "7", .dct, .dct] r = some p ∧ Bad p := fun r r0 r1 => by
  have hl : (cs.take a).length + (cs.drop a).length ≤ 50 := by rw [List.length_take, List.length_drop]; omega
  have : r = 0 ∨ r = 1 ∨ r = 2 ∨ r = 3 ∨ r = 4 ∨ r = 5 ∨ r = 6 ∨ r = 7 ∨ r = 8 ∨ r = 9 ∨ r = 10 ∨ r = 11 := by omega
  rcases this with rfl | rfl | rfl | rfl | rfl | rfl | rfl | rfl | rfl | rfl | rfl | rfl
  · exact ⟨_, atI_get (by decide) rfl, bad_plain (.inl rfl)⟩
  · exact ⟨_, atI_get (by decide) rfl, bad_plain (.inr (.inl rfl))⟩
  · exact ⟨_, atI_get (by decide) rfl, bad_plain (.inr (.inr (.inl rfl)))⟩
  · exact ⟨_, atI_get (by decide) rfl, bad_str (by decide +kernel) (by decide +kernel)⟩
  · exact ⟨_, atI_get (by decide) rfl, bad_str (by decide +kernel) (by decide +kernel)⟩
  · exact ⟨_, atI_get (by decide) rfl, bad_str (by decide +kernel) (by decide +kernel)⟩
  · exact ⟨_, atI_get (by decide) rfl, bad_in (c := 45) no45.1 hl⟩
  · exact ⟨_, atI_get (by decide) rfl, bad_in (c := 88) (by decide +kernel) hl⟩
  · refine ⟨_, atI_get (by decide) rfl, ?_⟩
    have e : Str.ofString "abcdefghijkl" = sT [97, 98, 99, 100, 101, 102, 103, 104, 105, 106, 107, 108] := rfl
    rw [e, sT_app]
    exact bad_str (name_long (by simp; omega)) (by rw [sT_len]; simp; omega)
  · exact ⟨_, atI_get (by decide) rfl, bad_str (by decide +kernel) (by decide +kernel)⟩
  · exact ⟨_, atI_get (by decide) rfl, bad_plain (.inr (.inr (.inr rfl)))⟩
  · exact ⟨_, atI_get (by decide) rfl, bad_plain (.inr (.inr (.inr rfl)))⟩
end K03
namespace K03
open PySem L2 Co Fx NumText
theorem ok_m_law {ns : List Int} (hl : ns.length ≤ 63) : ∃ T, m_law [.kls (ns.map .int)] [] = .ok (.bl true) T := by
  obtain ⟨b, eb, kb⟩ := v_bag hl
  obtain ⟨sc, hsc⟩ : ∃ sc : PV, sc = .kls (ns.map .int) := ⟨_, rfl⟩
  rw [← hsc] at eb ⊢
  unfold m_law
  rw [defM_run (show [sc].length = 1 from rfl)]
  rw [seq_nx (set_nx (p := .mu 0) (S' := [bagC b]) (by simp [eb]))]
  have nd6 : ND 6 ≤ 200000 := by decide
  have nd5 : ND 5 ≤ 200000 := by decide
  obtain ⟨one, b1, w1, e1, k1, D1⟩ := v_data 6 90 (by omega) (by omega) 40 600000 b (fun w => [.lst [.int w]]) 0 1 bud0 (kb.less (by omega))
  have e1' : m__law_data 90 [.mu 0, .int 6, .mu 1] [bagC b, .lst [.int 40]] = .ok one [bagC b1, .lst [.int w1]] := e1
  rw [seq_nx (set_nx (p := one) (S' := [bagC b1, .lst [.int w1]]) (by simp [newL, e1']))]
  obtain ⟨two, b2, w2, e2, k2, D2⟩ := v_data 5 90 (by omega) (by omega) 30 300000 b1 (fun w => [.lst [.int w1], .lst [.int w]]) 1 2 bud1 (k1.less (by omega))
  have e2' : m__law_data 90 [.mu 0, .int 5, .mu 2] [bagC b1, .lst [.int w1], .lst [.int 30]] = .ok two [bagC b2, .lst [.int w1], .lst [.int w2]] := e2
  rw [seq_nx (set_nx (p := two) (S' := [bagC b2, .lst [.int w1], .lst [.int w2]]) (by simp [newL, e2']))]
  obtain ⟨T, hT⟩ : ∃ T : Sta, T = [.lst [.int w1], .lst [.int w2]] := ⟨_, rfl⟩
  have hF : ∀ b, flatS (bagC b :: T) = true := fun b => by rw [hT]; exact flat3
  rw [← hT]
  -- sizes
  have s1 := D1.sz
  have l1 := D1.lo (-24) (by omega) (by omega)
  have t1 : (txt one).length ≤ 3000 := by omega
  have s2 := D2.sz
  have l2 := D2.lo (-20) (by omega) (by omega)
  have t2 : (txt two).length ≤ 3000 := by omega
  have g1 := D1.g
  have g2 := D2.g
  have putG : G 1 (.str "put") := fun k _ => by simp only [gd]; decide +kernel
  have q1 := right_G (S := bagC b2 :: T) g1 (by omega) (by omega) (hF b2)
  have q2 := right_G (S := bagC b2 :: T) g2 (by omega) (by omega) (hF b2)
  have m1G : ∀ k, gd (.int (-1)) k = true := fun k => by simp only [gd]; decide +kernel
  have q3 : m__law_right [.lst [one, two, .str "put", .int (-1)]] (bagC b2 :: T) = .ok (.bl true) (bagC b2 :: T) := by
    have hg : G 7 (.lst [one, two, .str "put", .int (-1)]) := G_seq (.inr rfl) fun y hy => by
      intro k hk
      simp only [List.mem_cons, List.not_mem_nil, or_false] at hy
      rcases hy with rfl | rfl | rfl | rfl
      · exact g1 k (by omega)
      · exact g2 k (by omega)
      · exact putG k (by omega)
      · exact m1G k
    have hs := seq_txt (p := .lst [one, two, .str "put", .int (-1)]) (ys := [one, two, .str "put", .int (-1)]) (.inr rfl)
    have p1 : (txt (.str "put")).length = 3 := by decide +kernel
    have p2 : (txt (.int (-1))).length = 2 := by decide +kernel
    rw [szs_cons, szs_cons, szs_cons, szs_cons, szs_nil, p1, p2] at hs
    simp only [List.length_cons, List.length_nil] at hs
    exact right_G hg (by omega) (by omega) (hF b2)
  have eN : ∀ n m : Int, (Out.ok (.int (-1)) (bagC b2 :: T) : Out PV) = .ok (.int (-1)) (bagC b2 :: T) := fun _ _ => rfl
  rw [seq_nx (ε' := [some sc, some (.mu 0), some one, some two, none, none, none, none, none, none, none, none, none]) (S' := bagC b2 :: T) (by simp [q1, q2, q3])]
  obtain ⟨gr, hgr⟩ : ∃ gr : Int, gr = BIG + 1 := ⟨_, rfl⟩
  rw [seq_nx (set_nx (p := .int gr) (S' := bagC b2 :: T) (by rw [pow_e, hgr]))]
  obtain ⟨low, b3, e3, r0, r1, k3⟩ := v_drawE (n := 200000) (lim := 1000000000000000000000000000000) T (k2.less (by omega)) (by decide) (by decide)
  rw [seq_nx (set_nx (p := .int low) (S' := bagC b3 :: T) (by simp [e3]))]
  have hbs := big_small
  have hbs' : (1000000000000000000000000000000 : Int) ≤ BIG := hbs
  have blt := BIG_lt
  have e400 : ((10 : Int) ^ 400) = ((10 ^ 400 : Nat) : Int) := by norm_cast
  rw [e400] at blt
  have ilen : ∀ i : Int, i.natAbs < 10 ^ 401 → (txt (.int i)).length ≤ 402 := fun i h => by rw [txt]; exact itext_len h (by decide)
  have p401 : (10 ^ 401 : Nat) = 10 * 10 ^ 400 := by rw [Nat.pow_succ, Nat.mul_comm]
  rw [p401] at ilen
  obtain ⟨N, hN⟩ : ∃ N : Nat, N = 10 ^ 400 := ⟨_, rfl⟩
  rw [← hN] at blt ilen
  have u1 : gd (.int (gr - 1 - low)) 1 = true := by simp only [gd, Bool.and_eq_true, decide_eq_true_eq]; omega
  have u2 : gd (.int (1 + low - gr)) 1 = true := by simp only [gd, Bool.and_eq_true, decide_eq_true_eq]; omega
  have q4 : m__law_right [.tup [.int (gr - 1 - low), .int (1 + low - gr)]] (bagC b3 :: T) = .ok (.bl true) (bagC b3 :: T) := by
    have hs := seq_txt (p := .tup [.int (gr - 1 - low), .int (1 + low - gr)]) (ys := [.int (gr - 1 - low), .int (1 + low - gr)]) (.inl rfl)
    have p1 := ilen (gr - 1 - low) (by omega)
    have p2 := ilen (1 + low - gr) (by omega)
    rw [szs_cons, szs_cons, szs_nil] at hs
    simp only [List.length_cons, List.length_nil] at hs
    have e : gd (.tup [.int (gr - 1 - low), .int (1 + low - gr)]) 0 = (decide (0 < 40) && (gd (.int (gr - 1 - low)) 1 && (gd (.int (1 + low - gr)) 1 && true))) := by simp only [gd, gds]
    rw [u1, u2] at e
    exact v_law_right e (by omega) (hF b3)
  have q5 : m__law_refused [.int (gr + low)] (bagC b3 :: T) = .ok (.bl true) (bagC b3 :: T) := by
    have p1 := ilen (gr + low) (by omega)
    have hg : ¬ (-BIG ≤ gr + low ∧ gr + low ≤ BIG) := by omega
    exact v_refused (hF b3) rfl (by omega) (by
      have : gd (.int (gr + low)) 0 ≠ true := fun z => by
        simp only [gd, Bool.and_eq_true, decide_eq_true_eq] at z
        exact hg z
      simpa using this)
  have q6 : m__law_refused [.lst [.int 0, .int (-gr - low)]] (bagC b3 :: T) = .ok (.bl true) (bagC b3 :: T) := by
    have p1 := ilen (-gr - low) (by omega)
    have hg : ¬ (-BIG ≤ -gr - low ∧ -gr - low ≤ BIG) := by omega
    have hs := seq_txt (p := .lst [.int 0, .int (-gr - low)]) (ys := [.int 0, .int (-gr - low)]) (.inr rfl)
    have p0 := ilen 0 (by omega)
    rw [szs_cons, szs_cons, szs_nil] at hs
    simp only [List.length_cons, List.length_nil] at hs
    refine v_refused (hF b3) rfl (by omega) (bad_seq (ys := [.int 0, .int (-gr - low)]) (y := .int (-gr - low)) (.inr rfl) (by simp) ?_)
    have : gd (.int (-gr - low)) (0 + 1) ≠ true := fun z => by
      simp only [gd, Bool.and_eq_true, decide_eq_true_eq] at z
      exact hg z
    simpa using this
  rw [seq_nx (ε' := [some sc, some (.mu 0), some one, some two, some (.int gr), some (.int low), none, none, none, none, none, none, none]) (S' := bagC b3 :: T) (by simp [q4, q5, q6])]
  clear q1 q2 q3 q4 q5 q6 u1 u2
  obtain ⟨leaf, b4, e4, k4, hlf⟩ := v_leaf (n := 100000) (T := T) (k3.less (by omega))
  rw [seq_nx (set_nx (p := leaf) (S' := bagC b4 :: T) (by simp [e4]))]
  rw [show ([some sc, some (.mu 0), some one, some two, some (.int gr), some (.int low), none, none, none, none, none, none, none] : Fx.Env).set 6 (some leaf) = [some sc, some (.mu 0), some one, some two, some (.int gr), some (.int low), some leaf, none, none, none, none, none, none] from rfl]
  obtain ⟨room, er, hr, hgood, hbad, hwf⟩ := leaf_room hlf [some sc, some (.mu 0), some one, some two, some (.int gr), some (.int low), some leaf, none, none, none, none, none, none] (bagC b4 :: T) rfl
  rw [seq_nx (set_nx (p := .int room) (S' := bagC b4 :: T) er)]
  have hll := hlf.1
  obtain ⟨m5, b5, e5, m50, m51, k5⟩ := v_drawE (n := 90000) (lim := room) T (k4.less (by omega)) (by omega) (by omega)
  obtain ⟨n5, rfl⟩ : ∃ n : Nat, m5 = n := ⟨m5.toNat, by omega⟩
  have a1 := v_around (p := leaf) (m := room) (S := bagC b4 :: T) (by omega)
  have q1 := v_law_right (p := aro room leaf) (S := bagC b4 :: T) (hgood room (Nat.le_refl _)) (by rw [aro_len]; omega) (hF b4)
  have a2 := v_around (p := leaf) (m := n5) (S := bagC b5 :: T) (by omega)
  have q2 := v_law_right (p := aro n5 leaf) (S := bagC b5 :: T) (hgood n5 (by omega)) (by rw [aro_len]; omega) (hF b5)
  rw [seq_nx (ε' := [some sc, some (.mu 0), some one, some two, some (.int gr), some (.int low), some leaf, some (.int room), none, none, none, none, none]) (S' := bagC b5 :: T) (by simp [a1, q1, e5, a2, q2])]
  obtain ⟨m6, b6, e6, m60, m61, k6⟩ := v_drawE (n := 80000) (lim := 20) T (k5.less (by omega)) (by omega) (by omega)
  obtain ⟨n6, rfl⟩ : ∃ n : Nat, m6 = n := ⟨m6.toNat, by omega⟩
  have a3 := v_around (p := leaf) (m := room + 1) (S := bagC b5 :: T) (by omega)
  have q3 := v_refused (p := aro (room + 1) leaf) (S := bagC b5 :: T) (hF b5) (aro_wf hwf _) (by rw [aro_len]; omega) (hbad _ (by omega))
  have a4 := v_around (p := leaf) (m := room + 1 + n6) (S := bagC b6 :: T) (by omega)
  have q4 := v_refused (p := aro (room + 1 + n6) leaf) (S := bagC b6 :: T) (hF b6) (aro_wf hwf _) (by rw [aro_len]; omega) (hbad _ (by omega))
  generalize aro (room + 1 + n6) leaf = y4 at a4 q4
  generalize aro (room + 1) leaf = y3 at a3 q3
  push_cast at a3 a4
  rw [seq_nx (ε' := [some sc, some (.mu 0), some one, some two, some (.int gr), some (.int low), some leaf, some (.int room), none, none, none, none, none]) (S' := bagC b6 :: T) (by simp [a3, q3, e6, a4, q4])]
  clear a1 a2 a3 a4 q1 q2 q3 q4
  obtain ⟨cs, b7, e7, k7, c1, c2, c3⟩ := v_name (n := 70000) (T := T) (k6.less (by omega))
  rw [seq_nx (set_nx (p := .str (sT cs)) (S' := bagC b7 :: T) (by simp [e7]))]
  obtain ⟨m8, b8, e8, m80, m81, k8⟩ := v_drawE (n := 60000) (lim := (cs.length : Int) + 1) T (k7.less (by omega)) (by omega) (by omega)
  obtain ⟨n8, rfl⟩ : ∃ n : Nat, m8 = n := ⟨m8.toNat, by omega⟩
  have cl : cs.length ≤ 100000 := by omega
  rw [seq_nx (set_nx (p := .int n8) (S' := bagC b8 :: T) (by simp [e8, cl]))]
  rw [show (([some sc, some (.mu 0), some one, some two, some (.int gr), some (.int low), some leaf, some (.int room), none, none, none, none, none] : Fx.Env).set 8 (some (.str (sT cs)))).set 9 (some (.int n8)) = [some sc, some (.mu 0), some one, some two, some (.int gr), some (.int low), some leaf, some (.int room), some (.str (sT cs)), some (.int n8), none, none, none] from rfl]
  obtain ⟨odd, hodd⟩ : ∃ odd : List PV, odd = [.bl true, .bl false, .non, .str "", .str "A", .str "a b", .str (sT (cs.take n8) ++ Str.ofString "-" ++ sT (cs.drop n8)), .str (sT (cs.take n8) ++ Str.ofString "X" ++ sT (cs.drop n8)), .str (sT cs ++ Str.ofString "abcdefghijkl"), .str "7", .dct, .dct] := ⟨_, rfl⟩
  have x1 : cutS (sT cs) none (some (n8 : Int)) = sT (cs.take n8) := cutS_b
  have x2 : cutS (sT cs) (some (n8 : Int)) none = sT (cs.drop n8) := cutS_a
  have y1 : (cs.take n8).length ≤ 12 := by rw [List.length_take]; omega
  have y2 : (cs.drop n8).length ≤ 12 := by rw [List.length_drop]; omega
  have l1' : (Str.ofString "-").length = 1 := rfl
  have l2' : (Str.ofString "X").length = 1 := rfl
  have l3' : (Str.ofString "abcdefghijkl").length = 12 := rfl
  have ob := odd_bad (cs := cs) (a := n8) c2 c1 (by omega)
  rw [← hodd] at ob
  have hset : LstE (ConsA (Fx.CE (.bl true)) (ConsA (Fx.CE (.bl false)) (ConsA (Fx.CE .non) (ConsA (Fx.CE (.str "")) (ConsA (Fx.CE (.str "A")) (ConsA (Fx.CE (.str "a b")) (ConsA (OpE fAdd (OpE fAdd (SlE (VarE 8) NoO (PartO (VarE 9))) (Fx.CE (.str "-"))) (SlE (VarE 8) (PartO (VarE 9)) NoO)) (ConsA (OpE fAdd (OpE fAdd (SlE (VarE 8) NoO (PartO (VarE 9))) (Fx.CE (.str "X"))) (SlE (VarE 8) (PartO (VarE 9)) NoO)) (ConsA (OpE fAdd (VarE 8) (Fx.CE (.str "abcdefghijkl"))) (ConsA (Fx.CE (.str "7")) (ConsA DctE (ConsA DctE NilA)))))))))))) [some sc, some (.mu 0), some one, some two, some (.int gr), some (.int low), some leaf, some (.int room), some (.str (sT cs)), some (.int n8), none, none, none] (bagC b8 :: T) = .ok (.lst odd) (bagC b8 :: T) := by
    rw [hodd]
    generalize hz1 : sT (cs.take n8) = z1 at x1
    generalize hz2 : sT (cs.drop n8) = z2 at x2
    have v1 : z1.length ≤ 12 := by rw [← hz1, sT_len]; exact y1
    have v2 : z2.length ≤ 12 := by rw [← hz2, sT_len]; exact y2
    have v3 : z1.length + 1 ≤ 100000 := by omega
    have v4 : z1.length + 1 + z2.length ≤ 100000 := by omega
    have v5 : cs.length + 12 ≤ 100000 := by omega
    simp [fSl, x1, x2, cl, str_app_len, l1', l2', l3', v3, v4, v5]
  rw [seq_nx (set_nx (p := .lst odd) (S' := bagC b8 :: T) hset)]
  obtain ⟨m9, b9, e9, m90, m91, k9⟩ := v_drawE (n := 50000) (lim := 12) T (k8.less (by omega)) (by omega) (by omega)
  obtain ⟨bad, hb1, hb2⟩ := ob m9 m90 m91
  rw [seq_nx (set_nx (p := bad) (S' := bagC b9 :: T) (by simp [e9, hb1]))]
  rw [seq_nx (set_nx (p := .lst [one, .lst [two, bad], .str (sT cs)]) (S' := bagC b9 :: T) (by simp))]
  have nlen : (txt (.str (sT cs))).length ≤ 12 := by rw [txt, sT_cps]; exact c2
  have hbl := hb2.len
  have q1 := v_refused (p := bad) (S := bagC b9 :: T) (hF b9) hb2.wf (by omega) (hb2.gd 0)
  have w1' := gd_wf one 0 (g1 0 (by omega))
  have w2' := gd_wf two 0 (g2 0 (by omega))
  have q2 : m__law_refused [.lst [one, .lst [two, bad], .str (sT cs)]] (bagC b9 :: T) = .ok (.bl true) (bagC b9 :: T) := by
    have hs := seq_txt (p := .lst [one, .lst [two, bad], .str (sT cs)]) (ys := [one, .lst [two, bad], .str (sT cs)]) (.inr rfl)
    have hs2 := seq_txt (p := .lst [two, bad]) (ys := [two, bad]) (.inr rfl)
    rw [szs_cons, szs_cons, szs_cons, szs_nil] at hs
    rw [szs_cons, szs_cons, szs_nil] at hs2
    simp only [List.length_cons, List.length_nil] at hs hs2
    refine v_refused (hF b9) (by simp [wf, wfs, w1', w2', hb2.wf]) (by omega) (bad_seq (ys := [one, .lst [two, bad], .str (sT cs)]) (y := .lst [two, bad]) (.inr rfl) (by simp) (bad_seq (ys := [two, bad]) (y := bad) (.inr rfl) (by simp) (hb2.gd _)))
  obtain ⟨m10, b10, e10, m100, m101, k10⟩ := v_drawE (n := 40000) (lim := 30) T (k9.less (by omega)) (by omega) (by omega)
  obtain ⟨n10, rfl⟩ : ∃ n : Nat, m10 = n := ⟨m10.toNat, by omega⟩
  have a3 := v_around (p := .tup [.str (sT cs), bad, .str (sT cs)]) (m := n10) (S := bagC b10 :: T) (by omega)
  have q3 : m__law_refused [aro n10 (.tup [.str (sT cs), bad, .str (sT cs)])] (bagC b10 :: T) = .ok (.bl true) (bagC b10 :: T) := by
    have hs := seq_txt (p := .tup [.str (sT cs), bad, .str (sT cs)]) (ys := [.str (sT cs), bad, .str (sT cs)]) (.inl rfl)
    rw [szs_cons, szs_cons, szs_cons, szs_nil] at hs
    simp only [List.length_cons, List.length_nil] at hs
    refine v_refused (hF b10) (aro_wf (by simp [wf, wfs, hb2.wf]) _) (by rw [aro_len]; omega) (aro_bad n10 0 (by omega) (.inl (bad_seq (ys := [.str (sT cs), bad, .str (sT cs)]) (y := bad) (.inl rfl) (by simp) (hb2.gd _))))
  generalize aro n10 (.tup [.str (sT cs), bad, .str (sT cs)]) = y3 at a3 q3
  rw [seq_nx (ε' := [some sc, some (.mu 0), some one, some two, some (.int gr), some (.int low), some leaf, some (.int room), some (.str (sT cs)), some (.int n8), some (.lst odd), some bad, some (.lst [one, .lst [two, bad], .str (sT cs)])]) (S' := bagC b10 :: T) (by simp [q1, q2, e10, a3, q3])]
  have q4 := v_law_right (p := .str (sT cs)) (S := bagC b10 :: T) (by simp only [gd]; exact name_ok c1 c2 c3) (by omega) (hF b10)
  obtain ⟨lg1, lg2, lg3, lg4⟩ := last_good
  have q5 := v_read_data (p := lastP) (S := bagC b10 :: T) lg1 (by omega) (hF b10)
  have q6 := v_law_same lastP 0 90 (bagC b10 :: T) lg1 (by omega) (by omega) (by omega)
  rw [lg2] at q5 q6
  rw [← lg3] at q5
  unfold lastP at q5 q6
  have gv : give 0 (.bl true) (bagC b10 :: T) = .ok (.bl true) [] := give_flat (S := []) (T := bagC b10 :: T) rfl rfl
  refine ⟨[], ?_⟩
  simp [q4, q5, q6, gv]
end K03
namespace K03
open PySem PySem.Spec PyProof.Rows L2 Co Fx
theorem all_mk {P : Program} {w : World} {K : PySem.W.Frag} {mg : Str → Option Value} {fa : Addr} (hfa : mg "law" = some (.ref fa))
    {t_LETTERS : Tok}
    {t_LONGEST_NAME : Tok}
    {t_FIGURES : Tok}
    {t_MOST_FIGURES : Tok}
    {t_GREATEST_INTEGER : Tok}
    {t_DEEPEST_TUPLE : Tok}
    {f_BadText___init__ : Addr}
    {f_is_whole : Addr}
    {f_is_name : Addr}
    {f_is_sequence : Addr}
    {f_data_text : Addr}
    {f__text_of : Addr}
    {f_read_data : Addr}
    {f__read_item : Addr}
    {f__sign_at : Addr}
    {f__run_end : Addr}
    {f__read_tuple : Addr}
    {f__read_integer : Addr}
    {f__law_bag : Addr}
    {f__law_draw : Addr}
    {f__law_name : Addr}
    {f__law_leaf : Addr}
    {f__law_data : Addr}
    {f__law_text : Addr}
    {f__law_firm : Addr}
    {f__law_same : Addr}
    {f__law_around : Addr}
    {f__law_refused : Addr}
    {f__law_right : Addr}
    {f_law : Addr}
    {f_FetchError : Addr}
    {f_BadData : Addr}
    {f_BadText : Addr}
    (z_abs : mg "abs" = none)
    (z_all : mg "all" = none)
    (z_bool : mg "bool" = none)
    (z_int : mg "int" = none)
    (z_isinstance : mg "isinstance" = none)
    (z_len : mg "len" = none)
    (z_list : mg "list" = none)
    (z_range : mg "range" = none)
    (z_repr : mg "repr" = none)
    (z_str : mg "str" = none)
    (z_tuple : mg "tuple" = none)
    (c_LETTERS : mg "LETTERS" = some (.str "abcdefghijklmnopqrstuvwxyz" t_LETTERS))
    (c_LONGEST_NAME : mg "LONGEST_NAME" = some (.int (12) t_LONGEST_NAME))
    (c_FIGURES : mg "FIGURES" = some (.str "0123456789" t_FIGURES))
    (c_MOST_FIGURES : mg "MOST_FIGURES" = some (.int (400) t_MOST_FIGURES))
    (c_GREATEST_INTEGER : mg "GREATEST_INTEGER" = some (.int (9999999999999999999999999999999999999999999999999999999999999999999999999999999999999999999999999999999999999999999999999999999999999999999999999999999999999999999999999999999999999999999999999999999999999999999999999999999999999999999999999999999999999999999999999999999999999999999999999999999999999999999999999999999999999999999999999999999999999999999999999999999999999999999999999999999999999999) t_GREATEST_INTEGER))
    (c_DEEPEST_TUPLE : mg "DEEPEST_TUPLE" = some (.int (40) t_DEEPEST_TUPLE))
    (h_BadText___init__ : ∃ fd, Fun K "__init__" "BadText.__init__" s_BadText___init__ f_BadText___init__ fd)
    (a_is_whole : mg "is_whole" = some (.ref f_is_whole))
    (h_is_whole : ∃ fd, FunD K "is_whole" "is_whole" (defArgs s_is_whole) (defBody s_is_whole) (defScope s_is_whole) [.non, .non] [] f_is_whole fd)
    (a_is_name : mg "is_name" = some (.ref f_is_name))
    (h_is_name : ∃ fd, Fun K "is_name" "is_name" s_is_name f_is_name fd)
    (a_is_sequence : mg "is_sequence" = some (.ref f_is_sequence))
    (h_is_sequence : ∃ fd, FunD K "is_sequence" "is_sequence" (defArgs s_is_sequence) (defBody s_is_sequence) (defScope s_is_sequence) [.int 0, .non] [] f_is_sequence fd)
    (a_data_text : mg "data_text" = some (.ref f_data_text))
    (h_data_text : ∃ fd, Fun K "data_text" "data_text" s_data_text f_data_text fd)
    (a__text_of : mg "_text_of" = some (.ref f__text_of))
    (h__text_of : ∃ fd, Fun K "_text_of" "_text_of" s__text_of f__text_of fd)
    (a_read_data : mg "read_data" = some (.ref f_read_data))
    (h_read_data : ∃ fd, Fun K "read_data" "read_data" s_read_data f_read_data fd)
    (a__read_item : mg "_read_item" = some (.ref f__read_item))
    (h__read_item : ∃ fd, Fun K "_read_item" "_read_item" s__read_item f__read_item fd)
    (a__sign_at : mg "_sign_at" = some (.ref f__sign_at))
    (h__sign_at : ∃ fd, Fun K "_sign_at" "_sign_at" s__sign_at f__sign_at fd)
    (a__run_end : mg "_run_end" = some (.ref f__run_end))
    (h__run_end : ∃ fd, Fun K "_run_end" "_run_end" s__run_end f__run_end fd)
    (a__read_tuple : mg "_read_tuple" = some (.ref f__read_tuple))
    (h__read_tuple : ∃ fd, Fun K "_read_tuple" "_read_tuple" s__read_tuple f__read_tuple fd)
    (a__read_integer : mg "_read_integer" = some (.ref f__read_integer))
    (h__read_integer : ∃ fd, Fun K "_read_integer" "_read_integer" s__read_integer f__read_integer fd)
    (a__law_bag : mg "_law_bag" = some (.ref f__law_bag))
    (h__law_bag : ∃ fd, Fun K "_law_bag" "_law_bag" s__law_bag f__law_bag fd)
    (a__law_draw : mg "_law_draw" = some (.ref f__law_draw))
    (h__law_draw : ∃ fd, Fun K "_law_draw" "_law_draw" s__law_draw f__law_draw fd)
    (a__law_name : mg "_law_name" = some (.ref f__law_name))
    (h__law_name : ∃ fd, Fun K "_law_name" "_law_name" s__law_name f__law_name fd)
    (a__law_leaf : mg "_law_leaf" = some (.ref f__law_leaf))
    (h__law_leaf : ∃ fd, Fun K "_law_leaf" "_law_leaf" s__law_leaf f__law_leaf fd)
    (a__law_data : mg "_law_data" = some (.ref f__law_data))
    (h__law_data : ∃ fd, Fun K "_law_data" "_law_data" s__law_data f__law_data fd)
    (a__law_text : mg "_law_text" = some (.ref f__law_text))
    (h__law_text : ∃ fd, Fun K "_law_text" "_law_text" s__law_text f__law_text fd)
    (a__law_firm : mg "_law_firm" = some (.ref f__law_firm))
    (h__law_firm : ∃ fd, Fun K "_law_firm" "_law_firm" s__law_firm f__law_firm fd)
    (a__law_same : mg "_law_same" = some (.ref f__law_same))
    (h__law_same : ∃ fd, Fun K "_law_same" "_law_same" s__law_same f__law_same fd)
    (a__law_around : mg "_law_around" = some (.ref f__law_around))
    (h__law_around : ∃ fd, Fun K "_law_around" "_law_around" s__law_around f__law_around fd)
    (a__law_refused : mg "_law_refused" = some (.ref f__law_refused))
    (h__law_refused : ∃ fd, Fun K "_law_refused" "_law_refused" s__law_refused f__law_refused fd)
    (a__law_right : mg "_law_right" = some (.ref f__law_right))
    (h__law_right : ∃ fd, Fun K "_law_right" "_law_right" s__law_right f__law_right fd)
    (a_law : mg "law" = some (.ref f_law))
    (h_law : ∃ fd, Fun K "law" "law" s_law f_law fd ∧ ∀ (s : Shared) (u : Value), BindsTo s fd ⟨[u], []⟩ [("script", u)])
    (a_FetchError : mg "FetchError" = some (.ref f_FetchError))
    (h_FetchError : X0H K f_FetchError)
    (a_BadData : mg "BadData" = some (.ref f_BadData))
    (h_BadData : X0H K f_BadData)
    (sc_BadData : PySem.W.subIn K (.ref f_BadData) (.ref f_BadData) = some true)
    (a_BadText : mg "BadText" = some (.ref f_BadText))
    (h_BadText : XinP K f_BadText f_BadText___init__)
    (n_BadText_place : PySem.W.findIn K (.ref f_BadText) "place" = some none) :
    ∃ fd : FuncData, (∀ (s : Shared) (u : Value), BindsTo s fd ⟨[u], []⟩ [("script", u)]) ∧ ∀ base : Heap, K.In base → base.Ns mainGlobals mg → FnG P w K mg base CX0 97 fa fd ["script"] (spScr K) := by
  have e := hfa.symm.trans a_law
  cases e
  obtain ⟨fd_BadText___init__, F_BadText___init__⟩ := h_BadText___init__
  obtain ⟨fd_is_whole, F_is_whole⟩ := h_is_whole
  obtain ⟨fd_is_name, F_is_name⟩ := h_is_name
  obtain ⟨fd_is_sequence, F_is_sequence⟩ := h_is_sequence
  obtain ⟨fd_data_text, F_data_text⟩ := h_data_text
  obtain ⟨fd__text_of, F__text_of⟩ := h__text_of
  obtain ⟨fd_read_data, F_read_data⟩ := h_read_data
  obtain ⟨fd__read_item, F__read_item⟩ := h__read_item
  obtain ⟨fd__sign_at, F__sign_at⟩ := h__sign_at
  obtain ⟨fd__run_end, F__run_end⟩ := h__run_end
  obtain ⟨fd__read_tuple, F__read_tuple⟩ := h__read_tuple
  obtain ⟨fd__read_integer, F__read_integer⟩ := h__read_integer
  obtain ⟨fd__law_bag, F__law_bag⟩ := h__law_bag
  obtain ⟨fd__law_draw, F__law_draw⟩ := h__law_draw
  obtain ⟨fd__law_name, F__law_name⟩ := h__law_name
  obtain ⟨fd__law_leaf, F__law_leaf⟩ := h__law_leaf
  obtain ⟨fd__law_data, F__law_data⟩ := h__law_data
  obtain ⟨fd__law_text, F__law_text⟩ := h__law_text
  obtain ⟨fd__law_firm, F__law_firm⟩ := h__law_firm
  obtain ⟨fd__law_same, F__law_same⟩ := h__law_same
  obtain ⟨fd__law_around, F__law_around⟩ := h__law_around
  obtain ⟨fd__law_refused, F__law_refused⟩ := h__law_refused
  obtain ⟨fd__law_right, F__law_right⟩ := h__law_right
  obtain ⟨fd_law, F_law, B⟩ := h_law
  obtain ⟨AD, hAD_0, hAD_1, hAD_2, hAD_3, hAD_4, hAD_5, hAD_6, hAD_7, hAD_8, hAD_9, hAD_10, hAD_11, hAD_12, hAD_13, hAD_14, hAD_15, hAD_16, hAD_17, hAD_18, hAD_19, hAD_20, hAD_21, hAD_22, hAD_23, hAD_24, hAD_25, hAD_26⟩ : ∃ AD : String → Addr, AD "BadText.__init__" = f_BadText___init__ ∧ AD "is_whole" = f_is_whole ∧ AD "is_name" = f_is_name ∧ AD "is_sequence" = f_is_sequence ∧ AD "data_text" = f_data_text ∧ AD "_text_of" = f__text_of ∧ AD "read_data" = f_read_data ∧ AD "_read_item" = f__read_item ∧ AD "_sign_at" = f__sign_at ∧ AD "_run_end" = f__run_end ∧ AD "_read_tuple" = f__read_tuple ∧ AD "_read_integer" = f__read_integer ∧ AD "_law_bag" = f__law_bag ∧ AD "_law_draw" = f__law_draw ∧ AD "_law_name" = f__law_name ∧ AD "_law_leaf" = f__law_leaf ∧ AD "_law_data" = f__law_data ∧ AD "_law_text" = f__law_text ∧ AD "_law_firm" = f__law_firm ∧ AD "_law_same" = f__law_same ∧ AD "_law_around" = f__law_around ∧ AD "_law_refused" = f__law_refused ∧ AD "_law_right" = f__law_right ∧ AD "law" = fa ∧ AD "FetchError" = f_FetchError ∧ AD "BadData" = f_BadData ∧ AD "BadText" = f_BadText := ⟨fun s => if s = "BadText.__init__" then f_BadText___init__ else if s = "is_whole" then f_is_whole else if s = "is_name" then f_is_name else if s = "is_sequence" then f_is_sequence else if s = "data_text" then f_data_text else if s = "_text_of" then f__text_of else if s = "read_data" then f_read_data else if s = "_read_item" then f__read_item else if s = "_sign_at" then f__sign_at else if s = "_run_end" then f__run_end else if s = "_read_tuple" then f__read_tuple else if s = "_read_integer" then f__read_integer else if s = "_law_bag" then f__law_bag else if s = "_law_draw" then f__law_draw else if s = "_law_name" then f__law_name else if s = "_law_leaf" then f__law_leaf else if s = "_law_data" then f__law_data else if s = "_law_text" then f__law_text else if s = "_law_firm" then f__law_firm else if s = "_law_same" then f__law_same else if s = "_law_around" then f__law_around else if s = "_law_refused" then f__law_refused else if s = "_law_right" then f__law_right else if s = "law" then fa else if s = "FetchError" then f_FetchError else if s = "BadData" then f_BadData else if s = "BadText" then f_BadText else fa, by refine ⟨?_, ?_, ?_, ?_, ?_, ?_, ?_, ?_, ?_, ?_, ?_, ?_, ?_, ?_, ?_, ?_, ?_, ?_, ?_, ?_, ?_, ?_, ?_, ?_, ?_, ?_, ?_⟩ <;> simp⟩
  subst hAD_0
  subst hAD_1
  subst hAD_2
  subst hAD_3
  subst hAD_4
  subst hAD_5
  subst hAD_6
  subst hAD_7
  subst hAD_8
  subst hAD_9
  subst hAD_10
  subst hAD_11
  subst hAD_12
  subst hAD_13
  subst hAD_14
  subst hAD_15
  subst hAD_16
  subst hAD_17
  subst hAD_18
  subst hAD_19
  subst hAD_20
  subst hAD_21
  subst hAD_22
  subst hAD_23
  subst hAD_24
  subst hAD_25
  subst hAD_26
  obtain ⟨FD, hFD_0, hFD_1, hFD_2, hFD_3, hFD_4, hFD_5, hFD_6, hFD_7, hFD_8, hFD_9, hFD_10, hFD_11, hFD_12, hFD_13, hFD_14, hFD_15, hFD_16, hFD_17, hFD_18, hFD_19, hFD_20, hFD_21, hFD_22, hFD_23⟩ : ∃ FD : String → FuncData, FD "BadText.__init__" = fd_BadText___init__ ∧ FD "is_whole" = fd_is_whole ∧ FD "is_name" = fd_is_name ∧ FD "is_sequence" = fd_is_sequence ∧ FD "data_text" = fd_data_text ∧ FD "_text_of" = fd__text_of ∧ FD "read_data" = fd_read_data ∧ FD "_read_item" = fd__read_item ∧ FD "_sign_at" = fd__sign_at ∧ FD "_run_end" = fd__run_end ∧ FD "_read_tuple" = fd__read_tuple ∧ FD "_read_integer" = fd__read_integer ∧ FD "_law_bag" = fd__law_bag ∧ FD "_law_draw" = fd__law_draw ∧ FD "_law_name" = fd__law_name ∧ FD "_law_leaf" = fd__law_leaf ∧ FD "_law_data" = fd__law_data ∧ FD "_law_text" = fd__law_text ∧ FD "_law_firm" = fd__law_firm ∧ FD "_law_same" = fd__law_same ∧ FD "_law_around" = fd__law_around ∧ FD "_law_refused" = fd__law_refused ∧ FD "_law_right" = fd__law_right ∧ FD "law" = fd_law := ⟨fun s => if s = "BadText.__init__" then fd_BadText___init__ else if s = "is_whole" then fd_is_whole else if s = "is_name" then fd_is_name else if s = "is_sequence" then fd_is_sequence else if s = "data_text" then fd_data_text else if s = "_text_of" then fd__text_of else if s = "read_data" then fd_read_data else if s = "_read_item" then fd__read_item else if s = "_sign_at" then fd__sign_at else if s = "_run_end" then fd__run_end else if s = "_read_tuple" then fd__read_tuple else if s = "_read_integer" then fd__read_integer else if s = "_law_bag" then fd__law_bag else if s = "_law_draw" then fd__law_draw else if s = "_law_name" then fd__law_name else if s = "_law_leaf" then fd__law_leaf else if s = "_law_data" then fd__law_data else if s = "_law_text" then fd__law_text else if s = "_law_firm" then fd__law_firm else if s = "_law_same" then fd__law_same else if s = "_law_around" then fd__law_around else if s = "_law_refused" then fd__law_refused else if s = "_law_right" then fd__law_right else if s = "law" then fd_law else fd_law, by refine ⟨?_, ?_, ?_, ?_, ?_, ?_, ?_, ?_, ?_, ?_, ?_, ?_, ?_, ?_, ?_, ?_, ?_, ?_, ?_, ?_, ?_, ?_, ?_, ?_⟩ <;> simp⟩
  subst hFD_0
  subst hFD_1
  subst hFD_2
  subst hFD_3
  subst hFD_4
  subst hFD_5
  subst hFD_6
  subst hFD_7
  subst hFD_8
  subst hFD_9
  subst hFD_10
  subst hFD_11
  subst hFD_12
  subst hFD_13
  subst hFD_14
  subst hFD_15
  subst hFD_16
  subst hFD_17
  subst hFD_18
  subst hFD_19
  subst hFD_20
  subst hFD_21
  subst hFD_22
  subst hFD_23
  obtain ⟨TK, hTK_0, hTK_1, hTK_2, hTK_3, hTK_4, hTK_5⟩ : ∃ TK : String → Tok, TK "LETTERS" = t_LETTERS ∧ TK "LONGEST_NAME" = t_LONGEST_NAME ∧ TK "FIGURES" = t_FIGURES ∧ TK "MOST_FIGURES" = t_MOST_FIGURES ∧ TK "GREATEST_INTEGER" = t_GREATEST_INTEGER ∧ TK "DEEPEST_TUPLE" = t_DEEPEST_TUPLE := ⟨fun s => if s = "LETTERS" then t_LETTERS else if s = "LONGEST_NAME" then t_LONGEST_NAME else if s = "FIGURES" then t_FIGURES else if s = "MOST_FIGURES" then t_MOST_FIGURES else if s = "GREATEST_INTEGER" then t_GREATEST_INTEGER else if s = "DEEPEST_TUPLE" then t_DEEPEST_TUPLE else t_LETTERS, by refine ⟨?_, ?_, ?_, ?_, ?_, ?_⟩ <;> simp⟩
  subst hTK_0
  subst hTK_1
  subst hTK_2
  subst hTK_3
  subst hTK_4
  subst hTK_5
  have T : Txt K mg AD FD TK := {
    b_abs := z_abs,
    b_all := z_all,
    b_bool := z_bool,
    b_int := z_int,
    b_isinstance := z_isinstance,
    b_len := z_len,
    b_list := z_list,
    b_range := z_range,
    b_repr := z_repr,
    b_str := z_str,
    b_tuple := z_tuple,
    g_LETTERS := c_LETTERS,
    g_LONGEST_NAME := c_LONGEST_NAME,
    g_FIGURES := c_FIGURES,
    g_MOST_FIGURES := c_MOST_FIGURES,
    g_GREATEST_INTEGER := c_GREATEST_INTEGER,
    g_DEEPEST_TUPLE := c_DEEPEST_TUPLE,
    f_BadText___init__ := F_BadText___init__,
    f_is_whole := F_is_whole,
    g_is_whole := a_is_whole,
    f_is_name := F_is_name,
    g_is_name := a_is_name,
    f_is_sequence := F_is_sequence,
    g_is_sequence := a_is_sequence,
    f_data_text := F_data_text,
    g_data_text := a_data_text,
    f__text_of := F__text_of,
    g__text_of := a__text_of,
    f_read_data := F_read_data,
    g_read_data := a_read_data,
    f__read_item := F__read_item,
    g__read_item := a__read_item,
    f__sign_at := F__sign_at,
    g__sign_at := a__sign_at,
    f__run_end := F__run_end,
    g__run_end := a__run_end,
    f__read_tuple := F__read_tuple,
    g__read_tuple := a__read_tuple,
    f__read_integer := F__read_integer,
    g__read_integer := a__read_integer,
    f__law_bag := F__law_bag,
    g__law_bag := a__law_bag,
    f__law_draw := F__law_draw,
    g__law_draw := a__law_draw,
    f__law_name := F__law_name,
    g__law_name := a__law_name,
    f__law_leaf := F__law_leaf,
    g__law_leaf := a__law_leaf,
    f__law_data := F__law_data,
    g__law_data := a__law_data,
    f__law_text := F__law_text,
    g__law_text := a__law_text,
    f__law_firm := F__law_firm,
    g__law_firm := a__law_firm,
    f__law_same := F__law_same,
    g__law_same := a__law_same,
    f__law_around := F__law_around,
    g__law_around := a__law_around,
    f__law_refused := F__law_refused,
    g__law_refused := a__law_refused,
    f__law_right := F__law_right,
    g__law_right := a__law_right,
    f_law := F_law,
    g_law := a_law,
    g_FetchError := a_FetchError,
    x_FetchError := h_FetchError.e,
    k_FetchError := h_FetchError.kc,
    s_FetchError := h_FetchError.bc,
    t_FetchError := h_FetchError.tc,
    e_BadData := exm_same h_BadData.bc h_BadData.ic h_BadData.tc sc_BadData,
    g_BadData := a_BadData,
    x_BadData := h_BadData.e,
    k_BadData := h_BadData.kc,
    s_BadData := h_BadData.bc,
    t_BadData := h_BadData.tc,
    g_BadText := a_BadText,
    o_BadText := h_BadText.o,
    i_BadText := h_BadText.i,
    ti_BadText := h_BadText.ti,
    xf_BadText := h_BadText.xf,
    n_BadText_place := n_BadText_place }
  exact ⟨_, B, fun base _ _ => fnG_ofX (ok_law T) (fun vs H Q E h => scr_of (M := md K AD) (fun ns hl => ok_m_law hl) vs H Q _ (spScr_any h))⟩
def FA : List Fb := [fun K => (He.Fa.free "abs").ok K,
  fun K => (He.Fa.free "all").ok K,
  fun K => (He.Fa.free "bool").ok K,
  fun K => (He.Fa.free "int").ok K,
  fun K => (He.Fa.free "isinstance").ok K,
  fun K => (He.Fa.free "len").ok K,
  fun K => (He.Fa.free "list").ok K,
  fun K => (He.Fa.free "range").ok K,
  fun K => (He.Fa.free "repr").ok K,
  fun K => (He.Fa.free "str").ok K,
  fun K => (He.Fa.free "tuple").ok K,
  fun K => (He.Fa.str "LETTERS" "abcdefghijklmnopqrstuvwxyz").ok K,
  fun K => (He.Fa.int "LONGEST_NAME" (12)).ok K,
  fun K => (He.Fa.str "FIGURES" "0123456789").ok K,
  fun K => (He.Fa.int "MOST_FIGURES" (400)).ok K,
  fun K => (He.Fa.int "GREATEST_INTEGER" (9999999999999999999999999999999999999999999999999999999999999999999999999999999999999999999999999999999999999999999999999999999999999999999999999999999999999999999999999999999999999999999999999999999999999999999999999999999999999999999999999999999999999999999999999999999999999999999999999999999999999999999999999999999999999999999999999999999999999999999999999999999999999999999999999999999999999999)).ok K,
  fun K => (He.Fa.int "DEEPEST_TUPLE" (40)).ok K,
  fun K => (He.Fa.glo "is_whole").ok K,
  fun K => (He.Fa.glo "is_name").ok K,
  fun K => (He.Fa.glo "is_sequence").ok K,
  fun K => (He.Fa.glo "data_text").ok K,
  fun K => (He.Fa.glo "_text_of").ok K,
  fun K => (He.Fa.glo "read_data").ok K,
  fun K => (He.Fa.glo "_read_item").ok K,
  fun K => (He.Fa.glo "_sign_at").ok K,
  fun K => (He.Fa.glo "_run_end").ok K,
  fun K => (He.Fa.glo "_read_tuple").ok K,
  fun K => (He.Fa.glo "_read_integer").ok K,
  fun K => (He.Fa.glo "_law_bag").ok K,
  fun K => (He.Fa.glo "_law_draw").ok K,
  fun K => (He.Fa.glo "_law_name").ok K,
  fun K => (He.Fa.glo "_law_leaf").ok K,
  fun K => (He.Fa.glo "_law_data").ok K,
  fun K => (He.Fa.glo "_law_text").ok K,
  fun K => (He.Fa.glo "_law_firm").ok K,
  fun K => (He.Fa.glo "_law_same").ok K,
  fun K => (He.Fa.glo "_law_around").ok K,
  fun K => (He.Fa.glo "_law_refused").ok K,
  fun K => (He.Fa.glo "_law_right").ok K,
  fun K => (He.Fa.glo "law").ok K,
  fun K => (He.Fa.glo "FetchError").ok K,
  fun K => x0B K (He.ga K "FetchError"),
  fun K => (He.Fa.glo "BadData").ok K,
  fun K => x0B K (He.ga K "BadData"),
  fun K => isB (PySem.W.subIn K (.ref (He.ga K "BadData")) (.ref (He.ga K "BadData"))) true,
  fun K => (He.Fa.glo "BadText").ok K,
  fun K => xinB K (He.ga K "BadText") (He.ma K (He.ga K "BadText") "__init__"),
  fun K => noF (He.ga K "BadText") "place" K]
def D_BadText___init__ : He.DefD := ⟨("BadText", some "__init__"), "__init__", "BadText.__init__", defArgs s_BadText___init__, defBody s_BadText___init__, defScope s_BadText___init__, [], []⟩
def D_is_whole : He.DefD := ⟨("is_whole", none), "is_whole", "is_whole", defArgs s_is_whole, defBody s_is_whole, defScope s_is_whole, [.non, .non], []⟩
def D_is_name : He.DefD := ⟨("is_name", none), "is_name", "is_name", defArgs s_is_name, defBody s_is_name, defScope s_is_name, [], []⟩
def D_is_sequence : He.DefD := ⟨("is_sequence", none), "is_sequence", "is_sequence", defArgs s_is_sequence, defBody s_is_sequence, defScope s_is_sequence, [.int 0, .non], []⟩
def D_data_text : He.DefD := ⟨("data_text", none), "data_text", "data_text", defArgs s_data_text, defBody s_data_text, defScope s_data_text, [], []⟩
def D__text_of : He.DefD := ⟨("_text_of", none), "_text_of", "_text_of", defArgs s__text_of, defBody s__text_of, defScope s__text_of, [], []⟩
def D_read_data : He.DefD := ⟨("read_data", none), "read_data", "read_data", defArgs s_read_data, defBody s_read_data, defScope s_read_data, [], []⟩
def D__read_item : He.DefD := ⟨("_read_item", none), "_read_item", "_read_item", defArgs s__read_item, defBody s__read_item, defScope s__read_item, [], []⟩
def D__sign_at : He.DefD := ⟨("_sign_at", none), "_sign_at", "_sign_at", defArgs s__sign_at, defBody s__sign_at, defScope s__sign_at, [], []⟩
def D__run_end : He.DefD := ⟨("_run_end", none), "_run_end", "_run_end", defArgs s__run_end, defBody s__run_end, defScope s__run_end, [], []⟩
def D__read_tuple : He.DefD := ⟨("_read_tuple", none), "_read_tuple", "_read_tuple", defArgs s__read_tuple, defBody s__read_tuple, defScope s__read_tuple, [], []⟩
def D__read_integer : He.DefD := ⟨("_read_integer", none), "_read_integer", "_read_integer", defArgs s__read_integer, defBody s__read_integer, defScope s__read_integer, [], []⟩
def D__law_bag : He.DefD := ⟨("_law_bag", none), "_law_bag", "_law_bag", defArgs s__law_bag, defBody s__law_bag, defScope s__law_bag, [], []⟩
def D__law_draw : He.DefD := ⟨("_law_draw", none), "_law_draw", "_law_draw", defArgs s__law_draw, defBody s__law_draw, defScope s__law_draw, [], []⟩
def D__law_name : He.DefD := ⟨("_law_name", none), "_law_name", "_law_name", defArgs s__law_name, defBody s__law_name, defScope s__law_name, [], []⟩
def D__law_leaf : He.DefD := ⟨("_law_leaf", none), "_law_leaf", "_law_leaf", defArgs s__law_leaf, defBody s__law_leaf, defScope s__law_leaf, [], []⟩
def D__law_data : He.DefD := ⟨("_law_data", none), "_law_data", "_law_data", defArgs s__law_data, defBody s__law_data, defScope s__law_data, [], []⟩
def D__law_text : He.DefD := ⟨("_law_text", none), "_law_text", "_law_text", defArgs s__law_text, defBody s__law_text, defScope s__law_text, [], []⟩
def D__law_firm : He.DefD := ⟨("_law_firm", none), "_law_firm", "_law_firm", defArgs s__law_firm, defBody s__law_firm, defScope s__law_firm, [], []⟩
def D__law_same : He.DefD := ⟨("_law_same", none), "_law_same", "_law_same", defArgs s__law_same, defBody s__law_same, defScope s__law_same, [], []⟩
def D__law_around : He.DefD := ⟨("_law_around", none), "_law_around", "_law_around", defArgs s__law_around, defBody s__law_around, defScope s__law_around, [], []⟩
def D__law_refused : He.DefD := ⟨("_law_refused", none), "_law_refused", "_law_refused", defArgs s__law_refused, defBody s__law_refused, defScope s__law_refused, [], []⟩
def D__law_right : He.DefD := ⟨("_law_right", none), "_law_right", "_law_right", defArgs s__law_right, defBody s__law_right, defScope s__law_right, [], []⟩
def D_law : He.DefD := ⟨("law", none), "law", "law", defArgs s_law, defBody s_law, defScope s_law, [], []⟩
def FN : List He.DefD := [D_BadText___init__, D_is_whole, D_is_name, D_is_sequence, D_data_text, D__text_of, D_read_data, D__read_item, D__sign_at, D__run_end, D__read_tuple, D__read_integer, D__law_bag, D__law_draw, D__law_name, D__law_leaf, D__law_data, D__law_text, D__law_firm, D__law_same, D__law_around, D__law_refused, D__law_right, D_law]
theorem facts {P : Program} {w : World} {K : PySem.W.Frag} {h : Heap} {mg : Str → Option Value} {f : Addr} (X : K.In h) (G : h.Ns mainGlobals mg) (hfa : mg "law" = some (.ref f)) (c : SaysX FA FN K) :
    ∃ fd : FuncData, (∀ (s : Shared) (u : Value), BindsTo s fd ⟨[u], []⟩ [("script", u)]) ∧ ∀ base : Heap, K.In base → base.Ns mainGlobals mg → FnG P w K mg base CX0 97 f fd ["script"] (spScr K) := by
  obtain ⟨t_LETTERS, hc_LETTERS⟩ := He.str_ok X G (c.fact 11 (fun K => (He.Fa.str "LETTERS" "abcdefghijklmnopqrstuvwxyz").ok K))
  obtain ⟨t_LONGEST_NAME, hc_LONGEST_NAME⟩ := He.int_ok X G (c.fact 12 (fun K => (He.Fa.int "LONGEST_NAME" (12)).ok K))
  obtain ⟨t_FIGURES, hc_FIGURES⟩ := He.str_ok X G (c.fact 13 (fun K => (He.Fa.str "FIGURES" "0123456789").ok K))
  obtain ⟨t_MOST_FIGURES, hc_MOST_FIGURES⟩ := He.int_ok X G (c.fact 14 (fun K => (He.Fa.int "MOST_FIGURES" (400)).ok K))
  obtain ⟨t_GREATEST_INTEGER, hc_GREATEST_INTEGER⟩ := He.int_ok X G (c.fact 15 (fun K => (He.Fa.int "GREATEST_INTEGER" (9999999999999999999999999999999999999999999999999999999999999999999999999999999999999999999999999999999999999999999999999999999999999999999999999999999999999999999999999999999999999999999999999999999999999999999999999999999999999999999999999999999999999999999999999999999999999999999999999999999999999999999999999999999999999999999999999999999999999999999999999999999999999999999999999999999999999999)).ok K))
  obtain ⟨t_DEEPEST_TUPLE, hc_DEEPEST_TUPLE⟩ := He.int_ok X G (c.fact 16 (fun K => (He.Fa.int "DEEPEST_TUPLE" (40)).ok K))
  exact all_mk hfa
    (He.free_ok X G (c.fact 0 (fun K => (He.Fa.free "abs").ok K)))
    (He.free_ok X G (c.fact 1 (fun K => (He.Fa.free "all").ok K)))
    (He.free_ok X G (c.fact 2 (fun K => (He.Fa.free "bool").ok K)))
    (He.free_ok X G (c.fact 3 (fun K => (He.Fa.free "int").ok K)))
    (He.free_ok X G (c.fact 4 (fun K => (He.Fa.free "isinstance").ok K)))
    (He.free_ok X G (c.fact 5 (fun K => (He.Fa.free "len").ok K)))
    (He.free_ok X G (c.fact 6 (fun K => (He.Fa.free "list").ok K)))
    (He.free_ok X G (c.fact 7 (fun K => (He.Fa.free "range").ok K)))
    (He.free_ok X G (c.fact 8 (fun K => (He.Fa.free "repr").ok K)))
    (He.free_ok X G (c.fact 9 (fun K => (He.Fa.free "str").ok K)))
    (He.free_ok X G (c.fact 10 (fun K => (He.Fa.free "tuple").ok K)))
    (hc_LETTERS)
    (hc_LONGEST_NAME)
    (hc_FIGURES)
    (hc_MOST_FIGURES)
    (hc_GREATEST_INTEGER)
    (hc_DEEPEST_TUPLE)
    ((c.def_ 0 D_BadText___init__).imp fun fd F => fun_of F)
    (He.glo_ok X G (c.fact 17 (fun K => (He.Fa.glo "is_whole").ok K)))
    (c.def_ 1 D_is_whole)
    (He.glo_ok X G (c.fact 18 (fun K => (He.Fa.glo "is_name").ok K)))
    ((c.def_ 2 D_is_name).imp fun fd F => fun_of F)
    (He.glo_ok X G (c.fact 19 (fun K => (He.Fa.glo "is_sequence").ok K)))
    (c.def_ 3 D_is_sequence)
    (He.glo_ok X G (c.fact 20 (fun K => (He.Fa.glo "data_text").ok K)))
    ((c.def_ 4 D_data_text).imp fun fd F => fun_of F)
    (He.glo_ok X G (c.fact 21 (fun K => (He.Fa.glo "_text_of").ok K)))
    ((c.def_ 5 D__text_of).imp fun fd F => fun_of F)
    (He.glo_ok X G (c.fact 22 (fun K => (He.Fa.glo "read_data").ok K)))
    ((c.def_ 6 D_read_data).imp fun fd F => fun_of F)
    (He.glo_ok X G (c.fact 23 (fun K => (He.Fa.glo "_read_item").ok K)))
    ((c.def_ 7 D__read_item).imp fun fd F => fun_of F)
    (He.glo_ok X G (c.fact 24 (fun K => (He.Fa.glo "_sign_at").ok K)))
    ((c.def_ 8 D__sign_at).imp fun fd F => fun_of F)
    (He.glo_ok X G (c.fact 25 (fun K => (He.Fa.glo "_run_end").ok K)))
    ((c.def_ 9 D__run_end).imp fun fd F => fun_of F)
    (He.glo_ok X G (c.fact 26 (fun K => (He.Fa.glo "_read_tuple").ok K)))
    ((c.def_ 10 D__read_tuple).imp fun fd F => fun_of F)
    (He.glo_ok X G (c.fact 27 (fun K => (He.Fa.glo "_read_integer").ok K)))
    ((c.def_ 11 D__read_integer).imp fun fd F => fun_of F)
    (He.glo_ok X G (c.fact 28 (fun K => (He.Fa.glo "_law_bag").ok K)))
    ((c.def_ 12 D__law_bag).imp fun fd F => fun_of F)
    (He.glo_ok X G (c.fact 29 (fun K => (He.Fa.glo "_law_draw").ok K)))
    ((c.def_ 13 D__law_draw).imp fun fd F => fun_of F)
    (He.glo_ok X G (c.fact 30 (fun K => (He.Fa.glo "_law_name").ok K)))
    ((c.def_ 14 D__law_name).imp fun fd F => fun_of F)
    (He.glo_ok X G (c.fact 31 (fun K => (He.Fa.glo "_law_leaf").ok K)))
    ((c.def_ 15 D__law_leaf).imp fun fd F => fun_of F)
    (He.glo_ok X G (c.fact 32 (fun K => (He.Fa.glo "_law_data").ok K)))
    ((c.def_ 16 D__law_data).imp fun fd F => fun_of F)
    (He.glo_ok X G (c.fact 33 (fun K => (He.Fa.glo "_law_text").ok K)))
    ((c.def_ 17 D__law_text).imp fun fd F => fun_of F)
    (He.glo_ok X G (c.fact 34 (fun K => (He.Fa.glo "_law_firm").ok K)))
    ((c.def_ 18 D__law_firm).imp fun fd F => fun_of F)
    (He.glo_ok X G (c.fact 35 (fun K => (He.Fa.glo "_law_same").ok K)))
    ((c.def_ 19 D__law_same).imp fun fd F => fun_of F)
    (He.glo_ok X G (c.fact 36 (fun K => (He.Fa.glo "_law_around").ok K)))
    ((c.def_ 20 D__law_around).imp fun fd F => fun_of F)
    (He.glo_ok X G (c.fact 37 (fun K => (He.Fa.glo "_law_refused").ok K)))
    ((c.def_ 21 D__law_refused).imp fun fd F => fun_of F)
    (He.glo_ok X G (c.fact 38 (fun K => (He.Fa.glo "_law_right").ok K)))
    ((c.def_ 22 D__law_right).imp fun fd F => fun_of F)
    (He.glo_ok X G (c.fact 39 (fun K => (He.Fa.glo "law").ok K)))
    ((c.def_ 23 D_law).imp fun fd F => ⟨fun_of F, fun s u => FunD.bindsA (ps := ["script"]) F (fun _ _ _ _ _ _ us hl => match us, hl with | [_], _ => rfl) s [u] rfl⟩)
    (He.glo_ok X G (c.fact 40 (fun K => (He.Fa.glo "FetchError").ok K)))
    (x0B_ok (c.fact 41 (fun K => x0B K (He.ga K "FetchError"))))
    (He.glo_ok X G (c.fact 42 (fun K => (He.Fa.glo "BadData").ok K)))
    (x0B_ok (c.fact 43 (fun K => x0B K (He.ga K "BadData"))))
    (of_decide_eq_true (c.fact 44 (fun K => isB (PySem.W.subIn K (.ref (He.ga K "BadData")) (.ref (He.ga K "BadData"))) true)))
    (He.glo_ok X G (c.fact 45 (fun K => (He.Fa.glo "BadText").ok K)))
    (xinB_ok (c.fact 46 (fun K => xinB K (He.ga K "BadText") (He.ma K (He.ga K "BadText") "__init__"))))
    (noF_ok (c.fact 47 (fun K => noF (He.ga K "BadText") "place" K)))
abbrev RR : PySem.W.OpenRow := PySem.W.OpenLaw.row PySem.Challenge.rw_fewfetches_k03_data_texts_read_back
def names0 : List Str := ["FetchError", "BadData", "BadText", "LETTERS", "LONGEST_NAME", "is_whole", "is_name", "is_sequence", "FIGURES", "MOST_FIGURES", "GREATEST_INTEGER", "DEEPEST_TUPLE", "data_text", "_text_of", "read_data", "_read_item", "_sign_at", "_run_end", "_read_tuple", "_read_integer", "_law_bag", "_law_draw", "_law_name", "_law_leaf", "_law_data", "_law_text", "_law_firm", "_law_same", "_law_around", "_law_refused"]
def names1 : List Str := ["_law_right"]
def names : List Str := names0 ++ names1
abbrev hk : PySem.W.Hook := hookX 5 FA FN
def ob (s : PySem.W.SharedT) : He.AlD := obsXG 5 FA FN (HandSHeadRun.getT s)
theorem ob_eq (s : PySem.W.SharedT) : ob s = hk.obs s.abs := obsXG_eq (HandSHeadRun.getT_eq s)
theorem run (w : World) : HandSHeadRun.RunEq RR (PySem.W.view RR.prog [35]) hk ob 12000 names w := by
  intro os
  kernel_rfl
end K03
open PySem PySem.W PySem.Calls PyProof.Rows
set_option maxRecDepth 100000 in
set_option maxHeartbeats 0 in
theorem PySem.Challenge.cw_fewfetches_k03_data_texts_read_back_holds : PySem.Challenge.rw_fewfetches_k03_data_texts_read_back.Holds := by
  w_on; o_law
  refine HandSHeadRun.head_any (r := OpenLaw.row PySem.Challenge.rw_fewfetches_k03_data_texts_read_back) (q := view (OpenLaw.row PySem.Challenge.rw_fewfetches_k03_data_texts_read_back).prog [35]) (H := K03.hk) (ob := K03.ob) (M := 12000) (loose := K03.names) (d := HandSHeadRun.topDef (OpenLaw.row PySem.Challenge.rw_fewfetches_k03_data_texts_read_back).prog 35) (kwd := []) K03.ob_eq
    (by kernel_rfl) (fun s => by kernel_rfl) K03.run (by kernel_rfl) (by kernel_rfl) (by kernel_rfl) (by rfl) (by first | assumption | decide +kernel) (by decide +kernel) ⟨rfl, rfl, rfl, rfl, rfl, by decide +kernel⟩ ?hw ?hc
  case hw => w_witness2
  case hc =>
    refine Fx.walk_ofGE (l := PySem.Challenge.rw_fewfetches_k03_data_texts_read_back) (n := 63) (k := 97) (x := "script") rfl (by decide) (by decide) (by kernel_rfl) ⟨rfl, by decide, by decide⟩ fun w mg fa h Y G hmg0 => ?_
    obtain ⟨K, KX, c⟩ := Y
    have hmg : mg ("law" : PySem.Str) = some (.ref fa) := by
      have e : (HandSHeadRun.topDef (OpenLaw.row PySem.Challenge.rw_fewfetches_k03_data_texts_read_back).prog 35).name = ("law" : PySem.Str) := by kernel_rfl
      rw [← e]
      exact hmg0
    obtain ⟨fd, hb, hF⟩ := K03.facts (P := (PySem.Challenge.rw_fewfetches_k03_data_texts_read_back).prog) (w := w) KX G hmg c
    exact ⟨K, fd, KX, hb, hF⟩

