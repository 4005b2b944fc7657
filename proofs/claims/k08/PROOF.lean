import PyProof.Rows.All
import Wide.All
import OpenK.AllK
import Wide.FinOn
import PyProof.StrOps2
import HandS.ForMost
import HandS.IsInst
import HandS.Style
import HandS.Wide
import HandS.Evl
import HandS.Flt
import HandS.RaiseMore
import HandS.Deep
import HandS.ExcInit
import HandS.ExcField
import HandS.ExcIs
import HandS.WordsExc
import HandS.Property
import HandS.Dict
import HandS.DictTup
import HandS.Iter
import HandS.SortRule
import HandS.OwnIter
import HandS.Strs
import HandS.TryOnly
import HandS.Walk
import HandS.Conv
import PyProof.CollectIter
import PyProof.WalksMore
import HandS.IterNext
import HandS.TupAny
import HandS.CallSlots
import HandS.WideBits
import KE.OsArith
import KE.IntBitsLaws
import HandS.Defaults
import HandS.ExcOwn
import HandS.HotCalls
import HandS.More
import PyProof.EqAt
import PyProof.NeKinds
import PyProof.EnumMake
import KE.GoesMore
import KE.GoesEnumKw
import KE.SortData
import KE.SortKeyHeap
import KE.DataCmp
import HandS.SortKw
import HandS.SortInts
import HandS.Lambda
import HandS.EndTab
import KE.KNestM
import HandS.DeepEq
import HandS.OwnEq
import HandS.FStr
import HandS.Text
import HandS.ReplaceLit
import PySem.Challenge.RW_drowsefolk_k08_first_line_at_fault
set_option Elab.async false
set_option linter.all false
set_option maxRecDepth 100000
set_option maxHeartbeats 4000000
namespace My
open PySem PySem.Spec PyProof.Rows L2
/-- what is left of a reading behind one step, found by its head -/
class Nx (P : Prop) (R : outParam Prop) : Prop where
  go : R → P
end My
namespace My
open PySem PySem.Spec PyProof.Rows L2
section
variable {K : PySem.W.Frag} {σ : L2.St} {H : Hp} {Q : VK} {ta tb tc te : TE} {v x y : V} {t u : TS} {r : R2} {nx bk ct : L2.St → Hp → Prop} {rt : VK} {tq : Bool → Hp → Prop} {cc : TT}
theorem i_var {i : Nat} (h : σ[i]? = some (some v)) (q : Q v H) : tVar i σ H Q := ⟨v, h, q⟩
theorem i_c (q : Q v H) : tC v σ H Q := q
instance : Nx (tC v σ H Q) (Q v H) := ⟨i_c⟩
theorem i_op (q : ta σ H fun x H1 => tb σ H1 fun y H2 => r x y H2 Q) : tOp r ta tb σ H Q := q
instance : Nx (tOp r ta tb σ H Q) (ta σ H fun x H1 => tb σ H1 fun y H2 => r x y H2 Q) := ⟨i_op⟩
theorem i_un {r : V → Hp → VK → Prop} (q : ta σ H fun x H1 => r x H1 Q) : tUn r ta σ H Q := q
instance {r : V → Hp → VK → Prop} : Nx (tUn r ta σ H Q) (ta σ H fun x H1 => r x H1 Q) := ⟨i_un⟩
theorem i_I0 {g : Int → Int → V} {i j : Int} (q : Q (g i j) H) : rI0 g (.int i) (.int j) H Q := ⟨i, j, rfl, rfl, q⟩
theorem i_I {C : Int → Int → Prop} {g : Int → Int → V} {i j : Int} (c : C i j) (q : Q (g i j) H) : rI C g (.int i) (.int j) H Q := ⟨i, j, rfl, rfl, c, q⟩
theorem i_U {g : Int → V} {i : Int} (q : Q (g i) H) : rU g (.int i) H Q := ⟨i, rfl, q⟩
theorem i_eq (h : scal x y = true) (q : Q (.bl (decide (x = y))) H) : rEq x y H Q := ⟨h, q⟩
theorem i_ne (h : scal x y = true) (q : Q (.bl (!decide (x = y))) H) : rNe x y H Q := ⟨h, q⟩
theorem i_test (q : te σ H fun x H' => ∃ k, x = .bl k ∧ tq k H') : tTest te σ H tq := q
instance : Nx (tTest te σ H tq) (te σ H fun x H' => ∃ k, x = .bl k ∧ tq k H') := ⟨i_test⟩
theorem i_B (q : te σ H fun x H' => ∃ k, x = .bl k ∧ tq k H') : tB te σ H tq := q
instance : Nx (tB te σ H tq) (te σ H fun x H' => ∃ k, x = .bl k ∧ tq k H') := ⟨i_B⟩
theorem i_bl {P : Bool → Prop} {b : Bool} (q : P b) : ∃ k, V.bl b = .bl k ∧ P k := ⟨b, rfl, q⟩
instance {P : Bool → Prop} {b : Bool} : Nx (∃ k, V.bl b = .bl k ∧ P k) (P b) := ⟨i_bl⟩
theorem i_and {t u : TT} (q : t σ H fun c H1 => if c = true then u σ H1 tq else tq false H1) : tAnd t u σ H tq := q
instance {t u : TT} : Nx (tAnd t u σ H tq) (t σ H fun c H1 => if c = true then u σ H1 tq else tq false H1) := ⟨i_and⟩
theorem i_or {t u : TT} (q : t σ H fun c H1 => if c = true then tq true H1 else u σ H1 tq) : tOr t u σ H tq := q
instance {t u : TT} : Nx (tOr t u σ H tq) (t σ H fun c H1 => if c = true then tq true H1 else u σ H1 tq) := ⟨i_or⟩
theorem i_not (q : cc σ H fun c H1 => tq (!c) H1) : tNot cc σ H tq := q
instance : Nx (tNot cc σ H tq) (cc σ H fun c H1 => tq (!c) H1) := ⟨i_not⟩
theorem i_andV (q : ta σ H fun x H1 => ∃ c, x = .bl c ∧ if c = true then tb σ H1 Q else Q (.bl false) H1) : tAndV ta tb σ H Q := q
instance : Nx (tAndV ta tb σ H Q) (ta σ H fun x H1 => ∃ c, x = .bl c ∧ if c = true then tb σ H1 Q else Q (.bl false) H1) := ⟨i_andV⟩
theorem i_orV (q : ta σ H fun x H1 => ∃ c, x = .bl c ∧ if c = true then Q (.bl true) H1 else tb σ H1 Q) : tOrV ta tb σ H Q := q
instance : Nx (tOrV ta tb σ H Q) (ta σ H fun x H1 => ∃ c, x = .bl c ∧ if c = true then Q (.bl true) H1 else tb σ H1 Q) := ⟨i_orV⟩
theorem i_notV (q : ta σ H fun x H1 => ∃ c, x = .bl c ∧ Q (.bl (!c)) H1) : tNotV ta σ H Q := q
instance : Nx (tNotV ta σ H Q) (ta σ H fun x H1 => ∃ c, x = .bl c ∧ Q (.bl (!c)) H1) := ⟨i_notV⟩
theorem i_ifE (q : cc σ H fun c H1 => if c = true then ta σ H1 Q else tb σ H1 Q) : tIf cc ta tb σ H Q := q
instance : Nx (tIf cc ta tb σ H Q) (cc σ H fun c H1 => if c = true then ta σ H1 Q else tb σ H1 Q) := ⟨i_ifE⟩
theorem i_chain {r r' : R2} (q : ta σ H fun x H1 => tb σ H1 fun y H2 => r x y H2 fun z H3 => ∃ k, z = .bl k ∧ (if k = true then tc σ H3 fun w' H4 => r' y w' H4 Q else Q (.bl false) H3)) : tChain r r' ta tb tc σ H Q := q
instance {r r' : R2} : Nx (tChain r r' ta tb tc σ H Q) (ta σ H fun x H1 => tb σ H1 fun y H2 => r x y H2 fun z H3 => ∃ k, z = .bl k ∧ (if k = true then tc σ H3 fun w' H4 => r' y w' H4 Q else Q (.bl false) H3)) := ⟨i_chain⟩
theorem i_seq (q : t ⟨u ⟨nx, rt, bk, ct⟩, rt, bk, ct⟩ σ H) : tSeq t u ⟨nx, rt, bk, ct⟩ σ H := q
instance : Nx (tSeq t u ⟨nx, rt, bk, ct⟩ σ H) (t ⟨u ⟨nx, rt, bk, ct⟩, rt, bk, ct⟩ σ H) := ⟨i_seq⟩
theorem i_asg {g : TG} (q : te σ H fun x H1 => g x σ H1 nx) : tAsg te g ⟨nx, rt, bk, ct⟩ σ H := q
instance {g : TG} : Nx (tAsg te g ⟨nx, rt, bk, ct⟩ σ H) (te σ H fun x H1 => g x σ H1 nx) := ⟨i_asg⟩
theorem i_gname {i : Nat} {R : L2.St → Hp → Prop} (q : R (σ.set i (some v)) H) : gName i v σ H R := q
instance {i : Nat} {R : L2.St → Hp → Prop} : Nx (gName i v σ H R) (R (σ.set i (some v)) H) := ⟨i_gname⟩
theorem i_drop (q : te σ H fun _ H1 => nx σ H1) : tDrop te ⟨nx, rt, bk, ct⟩ σ H := q
instance : Nx (tDrop te ⟨nx, rt, bk, ct⟩ σ H) (te σ H fun _ H1 => nx σ H1) := ⟨i_drop⟩
theorem i_ret (q : te σ H rt) : tRet te ⟨nx, rt, bk, ct⟩ σ H := q
instance : Nx (tRet te ⟨nx, rt, bk, ct⟩ σ H) (te σ H rt) := ⟨i_ret⟩
theorem i_if (q : cc σ H fun b H1 => if b = true then t ⟨nx, rt, bk, ct⟩ σ H1 else u ⟨nx, rt, bk, ct⟩ σ H1) : tIfS cc t u ⟨nx, rt, bk, ct⟩ σ H := q
instance : Nx (tIfS cc t u ⟨nx, rt, bk, ct⟩ σ H) (cc σ H fun b H1 => if b = true then t ⟨nx, rt, bk, ct⟩ σ H1 else u ⟨nx, rt, bk, ct⟩ σ H1) := ⟨i_if⟩
theorem i_next (q : nx σ H) : tNext ⟨nx, rt, bk, ct⟩ σ H := q
instance : Nx (tNext ⟨nx, rt, bk, ct⟩ σ H) (nx σ H) := ⟨i_next⟩
theorem i_break (q : bk σ H) : tBreak ⟨nx, rt, bk, ct⟩ σ H := q
instance : Nx (tBreak ⟨nx, rt, bk, ct⟩ σ H) (bk σ H) := ⟨i_break⟩
theorem i_cont (q : ct σ H) : tCont ⟨nx, rt, bk, ct⟩ σ H := q
instance : Nx (tCont ⟨nx, rt, bk, ct⟩ σ H) (ct σ H) := ⟨i_cont⟩
theorem i_retN (q : rt .non H) : tRetN ⟨nx, rt, bk, ct⟩ σ H := q
instance : Nx (tRetN ⟨nx, rt, bk, ct⟩ σ H) (rt .non H) := ⟨i_retN⟩
theorem i_call {sp : Sp} {dvs : List V} {E : XK} {ta : TA} (q : ta σ H fun vs H1 => sp (vs ++ dvs) H1 Q E) : tCall sp dvs E ta σ H Q := q
instance {sp : Sp} {dvs : List V} {E : XK} {ta : TA} : Nx (tCall sp dvs E ta σ H Q) (ta σ H fun vs H1 => sp (vs ++ dvs) H1 Q E) := ⟨i_call⟩
theorem i_cons {tr : TA} {R : List V → Hp → Prop} (q : ta σ H fun x H1 => tr σ H1 fun xs H2 => R (x :: xs) H2) : tCons ta tr σ H R := q
instance {tr : TA} {R : List V → Hp → Prop} : Nx (tCons ta tr σ H R) (ta σ H fun x H1 => tr σ H1 fun xs H2 => R (x :: xs) H2) := ⟨i_cons⟩
theorem i_nil {R : List V → Hp → Prop} (q : R [] H) : tNil σ H R := q
instance {R : List V → Hp → Prop} : Nx (tNil σ H R) (R [] H) := ⟨i_nil⟩
theorem i_CB {r : List V → Hp → VK → Prop} {ta : TA} (q : ta σ H fun vs H1 => r vs H1 Q) : tCB r ta σ H Q := q
instance {r : List V → Hp → VK → Prop} {ta : TA} : Nx (tCB r ta σ H Q) (ta σ H fun vs H1 => r vs H1 Q) := ⟨i_CB⟩
def LstEnd (Q : VK) (xs : List V) (H1 : Hp) : Prop := xs.length ≤ sizeLine ∧ ∀ p, H1 p = none → Q (.ref p) (upd H1 p (.lst xs))
def TupEnd (Q : VK) (xs : List V) (H1 : Hp) : Prop := xs.length ≤ sizeLine ∧ ∀ p, H1 p = none → Q (.ref p) (upd H1 p (.tup xs))
theorem i_lst {ta : TA} (q : ta σ H fun xs H1 => LstEnd Q xs H1) : tLst ta σ H Q := q
instance {ta : TA} : Nx (tLst ta σ H Q) (ta σ H fun xs H1 => LstEnd Q xs H1) := ⟨i_lst⟩
theorem i_tup {ta : TA} (q : ta σ H fun xs H1 => TupEnd Q xs H1) : tTup ta σ H Q := q
instance {ta : TA} : Nx (tTup ta σ H Q) (ta σ H fun xs H1 => TupEnd Q xs H1) := ⟨i_tup⟩
theorem i_gsub {w : TSet} {R : L2.St → Hp → Prop} (q : ta σ H fun o H1 => tb σ H1 fun i H2 => w o i v H2 fun H3 => R σ H3) : gSub ta tb w v σ H R := q
instance {w : TSet} {R : L2.St → Hp → Prop} : Nx (gSub ta tb w v σ H R) (ta σ H fun o H1 => tb σ H1 fun i H2 => w o i v H2 fun H3 => R σ H3) := ⟨i_gsub⟩
theorem i_setL {p : Addr} {xs : List V} {k : Int} {j : Nat} {R : Hp → Prop} (h : H p = some (.lst xs)) (hk : ixN xs.length k = some j) (q : R (upd H p (.lst (xs.set j v)))) : rSetL (.ref p) (.int k) v H R := ⟨p, xs, k, j, rfl, rfl, h, hk, q⟩
theorem i_ixL {p : Addr} {xs : List V} {i : Int} (h : SqL K H p xs) (ha : atI xs i = some v) (q : Q v H) : rIxL K (.ref p) (.int i) H Q := ⟨p, xs, i, v, rfl, rfl, h, ha, q⟩
theorem i_ixT {p : Addr} {xs : List V} {i : Int} (h : SqT K H p xs) (ha : atI xs i = some v) (q : Q v H) : rIxT K (.ref p) (.int i) H Q := ⟨p, xs, i, v, rfl, rfl, h, ha, q⟩
theorem i_ixS {z : Str} {i : Int} {c : Nat} (h : z.length ≤ sizeLine) (ha : atI z.cps.toList i = some c) (q : Q (.str ⟨#[c]⟩) H) : rIxS (.str z) (.int i) H Q := ⟨z, i, c, rfl, rfl, h, ha, q⟩
theorem i_sl {r : V → Option Int → Option Int → Hp → VK → Prop} {tl th : TO} (q : te σ H fun x H1 => tl σ H1 fun l H2 => th σ H2 fun u H3 => r x l u H3 Q) : tSl r te tl th σ H Q := q
instance {r : V → Option Int → Option Int → Hp → VK → Prop} {tl th : TO} : Nx (tSl r te tl th σ H Q) (te σ H fun x H1 => tl σ H1 fun l H2 => th σ H2 fun u H3 => r x l u H3 Q) := ⟨i_sl⟩
theorem sqL {p : Addr} {xs : List V} (h : H p = some (.lst xs)) : SqL K H p xs := .inl (.inl h)
theorem sqT {p : Addr} {xs : List V} (h : H p = some (.tup xs)) : SqT K H p xs := .inl (.inl h)
theorem i_ite {b : Bool} {A B : Prop} (h1 : b = true → A) (h2 : b = false → B) : if b = true then A else B := by
  cases b with
  | true => exact h1 rfl
  | false => exact h2 rfl
/-- the rest of a for over range(n), once its argument is known -/
def FR1 (j : Nat) (tb : TS) (nx : L2.St → Hp → Prop) (rt : VK) (σ : L2.St) : List V → Hp → Prop := fun vs H1 => tFor (iRng1 fun _ H R => R vs H) (gName j) tb ⟨nx, rt, fun _ _ => False, fun _ _ => False⟩ σ H1
theorem i_forR {ta : TA} {j : Nat} {tb : TS} (q : ta σ H fun vs H1 => FR1 j tb nx rt σ vs H1) : tFor (iRng1 ta) (gName j) tb ⟨nx, rt, bk, ct⟩ σ H := q
instance {ta : TA} {j : Nat} {tb : TS} : Nx (tFor (iRng1 ta) (gName j) tb ⟨nx, rt, bk, ct⟩ σ H) (ta σ H fun vs H1 => FR1 j tb nx rt σ vs H1) := ⟨i_forR⟩
theorem fr1 {j : Nat} {tb : TS} {n : Int} (h1 : -(2 ^ 62) ≤ n) (h2 : n < 2 ^ 62) (Pv : Nat → L2.St → Hp → Prop) (p0 : Pv 0 σ H)
    (ps : ∀ i σ' H', i < n.toNat → Pv i σ' H' → tb ⟨Pv (i + 1), rt, nx, Pv (i + 1)⟩ (σ'.set j (some (.int (i : Int)))) H') (pd : ∀ σ' H', Pv n.toNat σ' H' → nx σ' H') : FR1 j tb nx rt σ [.int n] H := by
  refine ⟨n, rfl, h1, h2, for_range (D := ⟨nx, rt, fun _ _ => False, fun _ _ => False⟩) (lo := 0) (n := n.toNat) Pv p0 (fun i σ' H' hi p => ?_) pd⟩
  show tb _ (σ'.set j (some (.int ((0 : Int) + (i : Int))))) H'
  rw [Int.zero_add]
  exact ps i σ' H' hi p
/-- .. of a for over a list -/
def FL (K : PySem.W.Frag) (g : TG) (tb : TS) (nx : L2.St → Hp → Prop) (rt : VK) (σ : L2.St) : V → Hp → Prop := fun x H1 => tFor (iList K fun _ H R => R x H) g tb ⟨nx, rt, fun _ _ => False, fun _ _ => False⟩ σ H1
theorem i_forL {g : TG} {tb : TS} (q : te σ H fun x H1 => FL K g tb nx rt σ x H1) : tFor (iList K te) g tb ⟨nx, rt, bk, ct⟩ σ H := q
instance {g : TG} {tb : TS} : Nx (tFor (iList K te) g tb ⟨nx, rt, bk, ct⟩ σ H) (te σ H fun x H1 => FL K g tb nx rt σ x H1) := ⟨i_forL⟩
theorem fl {g : TG} {tb : TS} {a : Addr} {xs : List V} (h : SqL K H a xs) (Pv : Nat → L2.St → Hp → Prop) (p0 : Pv 0 σ H) (hl : ∀ i σ' H', i ≤ xs.length → Pv i σ' H' → SqL K H' a xs)
    (ps : ∀ i x σ' H', xs[i]? = some x → Pv i σ' H' → g x σ' H' fun σ2 H2 => tb ⟨Pv (i + 1), rt, nx, Pv (i + 1)⟩ σ2 H2) (pd : ∀ σ' H', Pv xs.length σ' H' → nx σ' H') : FL K g tb nx rt σ (.ref a) H :=
  ⟨a, rfl, ⟨xs, h⟩, for_list (D := ⟨nx, rt, fun _ _ => False, fun _ _ => False⟩) (xs := xs) Pv p0 hl ps pd⟩
def LT (j : Nat) (tt : TT) (te : TE) (vs : List Nat) (σ : L2.St) (Dl : Addr) (Nx : Hp → Prop) (x : V) (H : Hp) : Prop :=
  wipe ((wipe σ vs).set j (some x)) vs = wipe σ vs ∧ tt ((wipe σ vs).set j (some x)) H fun b H3 => if b = true then te ((wipe σ vs).set j (some x)) H3 fun y H4 => ∃ acc, H4 Dl = some (.lst acc) ∧ acc.length < sizeLine ∧ Nx (upd H4 Dl (.lst (acc ++ [y]))) else Nx H3
def CR1 (j : Nat) (tt : TT) (te : TE) (vs : List Nat) (σ : L2.St) (Q : VK) : List V → Hp → Prop := fun us H1 => tLc (iRng1 fun _ H R => R us H) (gName j) tt te vs σ H1 Q
theorem i_lcR {ta : TA} {j : Nat} {tt : TT} {vs : List Nat} (q : ta σ H fun us H1 => CR1 j tt te vs σ Q us H1) : tLc (iRng1 ta) (gName j) tt te vs σ H Q := q
instance {ta : TA} {j : Nat} {tt : TT} {vs : List Nat} : Nx (tLc (iRng1 ta) (gName j) tt te vs σ H Q) (ta σ H fun us H1 => CR1 j tt te vs σ Q us H1) := ⟨i_lcR⟩
def CL (K : PySem.W.Frag) (g : TG) (tt : TT) (te : TE) (vs : List Nat) (σ : L2.St) (Q : VK) : V → Hp → Prop := fun x H1 => tLc (iList K fun _ H R => R x H) g tt te vs σ H1 Q
theorem i_lcL {g : TG} {tt : TT} {vs : List Nat} (q : ta σ H fun x H1 => CL K g tt te vs σ Q x H1) : tLc (iList K ta) g tt te vs σ H Q := q
instance {g : TG} {tt : TT} {vs : List Nat} : Nx (tLc (iList K ta) g tt te vs σ H Q) (ta σ H fun x H1 => CL K g tt te vs σ Q x H1) := ⟨i_lcL⟩
theorem cl {j : Nat} {tt : TT} {vs : List Nat} {a : Addr} {xs : List V} (h : SqL K H a xs) (Pv : Addr → Nat → Hp → Prop) (p0 : ∀ D, H D = none → Pv D 0 (upd H D (.lst []))) (hl : ∀ D i H', H D = none → i ≤ xs.length → Pv D i H' → SqL K H' a xs)
    (ps : ∀ D i x H', H D = none → xs[i]? = some x → Pv D i H' → LT j tt te vs σ D (Pv D (i + 1)) x H') (pd : ∀ D H', H D = none → Pv D xs.length H' → Q (.ref D) H') : CL K (gName j) tt te vs σ Q (.ref a) H :=
  ⟨a, rfl, ⟨xs, h⟩, fun D hD => lc_list (xs := xs) (Pv D) (p0 D hD) (fun i H' hi p => hl D i H' hD hi p) (fun i x H' hx p => ps D i x H' hD hx p) fun H' p => pd D H' hD p⟩
/-- .. over a text -/
def CS (g : TG) (tt : TT) (te : TE) (vs : List Nat) (σ : L2.St) (Q : VK) : V → Hp → Prop := fun x H1 => tLc (iStr fun _ H R => R x H) g tt te vs σ H1 Q
theorem i_lcS {g : TG} {tt : TT} {vs : List Nat} (q : ta σ H fun x H1 => CS g tt te vs σ Q x H1) : tLc (iStr ta) g tt te vs σ H Q := q
instance {g : TG} {tt : TT} {vs : List Nat} : Nx (tLc (iStr ta) g tt te vs σ H Q) (ta σ H fun x H1 => CS g tt te vs σ Q x H1) := ⟨i_lcS⟩
theorem cs {j : Nat} {tt : TT} {vs : List Nat} {z : Str} (Pv : Addr → Nat → Hp → Prop) (p0 : ∀ D, H D = none → Pv D 0 (upd H D (.lst [])))
    (ps : ∀ D i c H', H D = none → z.cps[i]? = some c → Pv D i H' → LT j tt te vs σ D (Pv D (i + 1)) (.str ⟨#[c]⟩) H') (pd : ∀ D H', H D = none → Pv D z.cps.size H' → Q (.ref D) H') : CS (gName j) tt te vs σ Q (.str z) H := by
  refine ⟨z, rfl, fun D hD => ⟨fun i m H' => m = z.cps.size - i ∧ i ≤ z.cps.size ∧ Pv D i H', ⟨z.cps.size, by simp, Nat.zero_le _, p0 D hD⟩, ?_⟩⟩
  rintro i m H' ⟨rfl, hi, p⟩
  by_cases hlt : i < z.cps.size
  · refine .inr ⟨hlt, Pv D (i + 1), fun H2 p' => ⟨z.cps.size - (i + 1), by omega, rfl, hlt, p'⟩, fun x H2 y => ?_⟩
    obtain ⟨e, c, hc, ex⟩ := y
    subst e ex
    exact ps D i c _ hD hc p
  · have e : i = z.cps.size := by omega
    subst e
    exact .inl ⟨Nat.le_refl _, pd D H' hD p⟩
end
section
variable {X : Cx} {a b c d : Expr} {ta tb tc td : TE} {pos : Pos}
def tChain3 (r r' r'' : R2) (ta tb tc td : TE) : TE := fun σ H Q => ta σ H fun x H1 => tb σ H1 fun y H2 => r x y H2 fun z H3 => ∃ k, z = .bl k ∧
  (if k = true then tc σ H3 fun w H4 => r' y w H4 fun z2 H5 => ∃ k2, z2 = .bl k2 ∧ (if k2 = true then td σ H5 fun w2 H6 => r'' w w2 H6 Q else Q (.bl false) H5) else Q (.bl false) H3)
theorem i_chain3 {r r' r'' : R2} {σ : L2.St} {H : Hp} {Q : VK} (q : ta σ H fun x H1 => tb σ H1 fun y H2 => r x y H2 fun z H3 => ∃ k, z = .bl k ∧
  (if k = true then tc σ H3 fun w H4 => r' y w H4 fun z2 H5 => ∃ k2, z2 = .bl k2 ∧ (if k2 = true then td σ H5 fun w2 H6 => r'' w w2 H6 Q else Q (.bl false) H5) else Q (.bl false) H3)) : tChain3 r r' r'' ta tb tc td σ H Q := q
/-- x * n, both small -/
def rMulS : R2 := fun x y H Q => ∃ (z : Str) (n : Int), x = .str z ∧ y = .int n ∧ 1 ≤ n ∧ n ≤ 1000 ∧ 1 ≤ z.length ∧ z.length ≤ 1000 ∧ Q (.str ⟨(List.replicate n.toNat z.cps).foldl (· ++ ·) #[]⟩) H
theorem op_mul_str : OpR X (binaryOp .Mult) rMulS := by
  intro pins s σ H x y v u Q I rx ry h
  obtain ⟨z, n, rfl, rfl, h2, h3, h1, h4, q⟩ := h
  obtain ⟨t, rfl⟩ := rx
  obtain ⟨t', rfl⟩ := ry
  have hl : ((List.replicate n.toNat z.cps).foldl (· ++ ·) #[]).size = n.toNat * z.cps.size := by
    have key : ∀ (m : Nat) (acc : Array Nat), ((List.replicate m z.cps).foldl (· ++ ·) acc).size = acc.size + m * z.cps.size := by
      intro m
      induction m with
      | zero => intro acc; simp
      | succ m ih =>
        intro acc
        rw [List.replicate_succ, List.foldl_cons, ih, Array.size_append, Nat.succ_mul]
        omega
    rw [key]
    simp
  have hz : z.cps.size = z.length := rfl
  have hb : n.toNat * z.length ≤ 1000000 := Nat.mul_le_mul (by omega : n.toNat ≤ 1000) h4
  refine PySem.P.mul_str ?_ ?_ ?_ ?_
  · rw [decide_eq_false (by omega), decide_eq_false (by omega)] <;> rfl
  · intro _ _
    have : (2 ^ 63 - 1 : Int) / n ≥ 1000 := by
      have := Int.le_ediv_of_mul_le (a := 1000) (b := 2 ^ 63 - 1) (c := n) (by omega) (by omega)
      omega
    omega
  · intro _ _
    unfold Builtin.Str.tooLong
    rw [Nat.mul_comm]
    exact decide_eq_false (by rw [sizeLine_eq]; omega)
  · rw [if_neg (by omega)]
    by_cases e : n = 1
    · have e1 : (n == 1 || z.length == 0) = true := by simp [e]
      rw [e1, if_pos rfl]
      refine ⟨.str _, H, I, ⟨t, ?_⟩, q⟩
      subst e
      have : (List.replicate (1 : Int).toNat z.cps).foldl (· ++ ·) #[] = z.cps := by
        show (#[] ++ z.cps) = z.cps
        simp
      rw [this]
    have e1 : (n == 1 || z.length == 0) = false := by
      have : ¬ z.length = 0 := by omega
      simp [*]
    rw [e1, if_neg (by decide)]
    refine ⟨?_, ⟨.str _, H, I.tok _, ⟨_, rfl⟩, q⟩⟩
    show ((List.replicate n.toNat z.cps).foldl (· ++ ·) #[]).size ≤ sizeLine
    rw [hl, hz, sizeLine_eq]
    omega
end
end My
namespace My
open PySem PySem.Spec PyProof.Rows L2
/-- all that was tracked stands, but what stands at s: there the first item alone -/
structure Fr (s : Addr) (H H' : Hp) : Prop where
  keep : ∀ b o, H b = some o → b ≠ s → H' b = some o
  top : ∀ (q : Addr) (r : List V), H s = some (.lst (.ref q :: r)) → ∃ r', H' s = some (.lst (.ref q :: r'))
section
variable {s p : Addr} {H H1 H2 : Hp} {o : HO}
theorem Fr.refl : Fr s H H := ⟨fun _ _ h _ => h, fun _ r h => ⟨r, h⟩⟩
theorem Fr.trans (a : Fr s H H1) (b : Fr s H1 H2) : Fr s H H2 := ⟨fun c o h n => b.1 c o (a.1 c o h n) n, fun q r h => by
  obtain ⟨r1, h1⟩ := a.2 q r h
  exact b.2 q r1 h1⟩
theorem Fr.new (a : Fr s H H1) (h : H1 p = none) : Fr s H (upd H1 p o) := ⟨fun c u e n => by
  rw [upd_ne (ne_of_none (a.1 c u e n) h)]
  exact a.1 c u e n, fun q r e => by
  obtain ⟨r1, h1⟩ := a.2 q r e
  exact ⟨r1, by rw [upd_ne (ne_of_none h1 h)]; exact h1⟩⟩
theorem Fr.set {q : Addr} {r r2 : List V} (a : Fr s H H1) (h : H1 s = some (.lst (.ref q :: r))) : Fr s H (upd H1 s (.lst (.ref q :: r2))) := ⟨fun c u e n => by
  rw [upd_ne n]
  exact a.1 c u e n, fun q' r' e => by
  obtain ⟨r1, h1⟩ := a.2 q' r' e
  rw [h] at h1
  cases h1
  exact ⟨r2, upd_same⟩⟩
/-- an object that H did not know is written -/
theorem Fr.mut (a : Fr s H H1) (h : H p = none) : Fr s H (upd H1 p o) := ⟨fun c u e n => by
  rw [upd_ne (ne_of_none e h)]
  exact a.1 c u e n, fun q r e => by
  obtain ⟨r1, h1⟩ := a.2 q r e
  exact ⟨r1, by rw [upd_ne (ne_of_none e h)]; exact h1⟩⟩
theorem Fr.same (a : Same H H1) : Fr s H H1 := ⟨fun c u e _ => a c u e, fun q r e => ⟨r, a _ _ e⟩⟩
theorem Fr.free (a : Fr s H H1) (h : H1 p = none) (n : p ≠ s) : H p = none := by
  cases e : H p with
  | none => rfl
  | some u =>
    rw [a.1 p u e n] at h
    cases h
theorem same_new (h : H p = none) : Same H (upd H p o) := fun c u e => by
  rw [upd_ne (ne_of_none e h)]
  exact e
theorem same_mut (a : Same H H1) (h : H p = none) : Same H (upd H1 p o) := fun c u e => by
  rw [upd_ne (ne_of_none e h)]
  exact a c u e
theorem ne_none {H : Hp} {a b : Addr} {o : HO} (h : H a = some o) (h' : H b = none) : b ≠ a := (ne_of_none h h').symm
end
/-- the store of draws stands at s -/
def StOk (H : Hp) (s : Addr) : Prop := ∃ (q : Addr) (ns : List Int) (i1 n2 i3 i4 i5 i6 : Int), H s = some (.lst [.ref q, .int i1, .int n2, .int i3, .int i4, .int i5, .int i6]) ∧ H q = some (.lst (ns.map V.int)) ∧ q ≠ s ∧ 0 ≤ i1
theorem StOk.some {H : Hp} {s : Addr} (h : StOk H s) : ∃ o, H s = Option.some o := by
  obtain ⟨_, _, _, _, _, _, _, _, h, _⟩ := h
  exact ⟨_, h⟩
theorem StOk.ne {H : Hp} {s p : Addr} (h : StOk H s) (n : H p = none) : p ≠ s := by
  obtain ⟨o, e⟩ := h.some
  exact ne_none e n
theorem StOk.keep {H H' : Hp} {s : Addr} (h : StOk H s) (k : ∀ b o, H b = Option.some o → H' b = Option.some o) : StOk H' s := by
  obtain ⟨q, ns, i1, n2, i3, i4, i5, i6, h1, h2, h3, h4⟩ := h
  exact ⟨q, ns, i1, n2, i3, i4, i5, i6, k _ _ h1, k _ _ h2, h3, h4⟩
theorem StOk.same {H H' : Hp} {s : Addr} (h : StOk H s) (k : Same H H') : StOk H' s := h.keep k
theorem StOk.new {H : Hp} {s p : Addr} {o : HO} (h : StOk H s) (n : H p = none) : StOk (upd H p o) s := h.keep (same_new n)
/-- an object written that the store's first heap did not know -/
theorem StOk.mut {H H1 : Hp} {s p : Addr} {o : HO} (h0 : StOk H s) (f : Fr s H H1) (h : StOk H1 s) (n : H p = none) : StOk (upd H1 p o) s := by
  obtain ⟨q0, ns0, a1, a2, a3, a4, a5, a6, g1, g2, g3, g4⟩ := h0
  obtain ⟨q, ns, i1, n2, i3, i4, i5, i6, h1, h2, h3, h4⟩ := h
  obtain ⟨r, e⟩ := f.top _ _ g1
  rw [h1] at e
  cases e
  exact ⟨q0, ns, i1, n2, i3, i4, i5, i6, by rw [upd_ne (ne_of_none g1 n)]; exact h1, by rw [upd_ne (ne_of_none g2 n)]; exact h2, h3, h4⟩
/-- a def of the text as it stands behind the top -/
structure Dn (K : PySem.W.Frag) (mg : Str → Option Value) (x : Str) (st : Stmt) (ps : List Str) (f : Addr) (fd : FuncData) : Prop where
  F : Fun K x x st f fd
  b : Binds K fd ps []
  m : mg x = some (.ref f)
end My
namespace My
open PySem PySem.Spec PyProof.Rows L2
theorem pe_globE {X : Cx} {x : Str} {v : V} {pos : Pos} (hg : Gl X x) (hm : ∃ u, X.mg x = some u ∧ RelV v u) (hd : (x == ("__debug__" : Str)) = false := by decide) : PE X (.Name x pos) (tC v) := by
  obtain ⟨u, h, r⟩ := hm
  exact pe_glob hg h r hd
end My
namespace My
open PySem PySem.Spec PyProof.Rows L2
def rLenQ (K : PySem.W.Frag) : List V → Hp → VK → Prop := fun xs H Q => ∃ p ys, xs = [.ref p] ∧ (SqL K H p ys ∨ SqT K H p ys) ∧ Q (.int ys.length) H
def rLenZ : List V → Hp → VK → Prop := fun xs H Q => ∃ z, xs = [.str z] ∧ z.length ≤ sizeLine ∧ Q (.int z.length) H
def rInt1 : List V → Hp → VK → Prop := fun xs H Q => (∃ i, xs = [.int i] ∧ Q (.int i) H) ∨ ∃ k, xs = [.bl k] ∧ Q (.int (if k then 1 else 0)) H
def rListOf (K : PySem.W.Frag) : List V → Hp → VK → Prop := fun xs H Q => ∃ p ys, xs = [.ref p] ∧ (SqL K H p ys ∨ SqT K H p ys) ∧ ∀ l, H l = none → Q (.ref l) (upd H l (.lst ys))
def rTupOf (K : PySem.W.Frag) : List V → Hp → VK → Prop := fun xs H Q => ∃ p ys, xs = [.ref p] ∧ ((SqL K H p ys ∧ ∀ l, H l = none → Q (.ref l) (upd H l (.tup ys))) ∨ (SqT K H p ys ∧ Q (.ref p) H))
def rMx2 : List V → Hp → VK → Prop := fun xs H Q => ∃ i j, xs = [.int i, .int j] ∧ Q (.int (if j > i then j else i)) H
def rMn2 : List V → Hp → VK → Prop := fun xs H Q => ∃ i j, xs = [.int i, .int j] ∧ Q (.int (if j < i then j else i)) H
def rAddZ : R2 := fun x y H Q => ∃ i j, x = .str i ∧ y = .str j ∧ i.length + j.length ≤ sizeLine ∧ Q (.str (i ++ j)) H
def rInG : R2 := fun x y H Q => ∃ (c : Nat) (z : Str), x = .str ⟨#[c]⟩ ∧ y = .str z ∧ Q (.bl (decide (c ∈ z.cps.toList))) H
def rIsNn : R2 := fun x y H Q => y = .non ∧ Q (.bl (decide (x = .non))) H
def rNotNn : R2 := fun x y H Q => y = .non ∧ Q (.bl (!decide (x = .non))) H
def rUp : V → List V → Hp → VK → Prop := fun x xs H Q => ∃ a, x = .str a ∧ xs = [] ∧ a.length ≤ 5592405 ∧ Q (.str (Txt.upper a)) H
section
variable {X : Cx}
theorem n_lenQ : CallR X (.builtin "len") (rLenQ X.K) := call_len_seq
theorem n_lenZ : CallR X (.builtin "len") rLenZ := call_len_str
theorem n_int : CallR X (.type "int") rInt1 := call_int1
theorem n_list : CallR X (.type "list") (rListOf X.K) := call_list_of
theorem n_tuple : CallR X (.type "tuple") (rTupOf X.K) := call_tuple_of
theorem n_max (hc : X.calm = true) : CallR X (.builtin "max") rMx2 := call_max2 hc
theorem n_addZ : OpR X (binaryOp .Add) rAddZ := op_add_str
theorem n_inG : OpR X (compareOp .In) rInG := op_in_sign
theorem n_isN : OpR X (compareOp .Is) rIsNn := op_isN
theorem n_upper : MtR X "str.upper" rUp := mt_upper
end
section
variable {K : PySem.W.Frag} {σ : L2.St} {H : Hp} {Q : VK} {x : V} {te : TE} {tq : Bool → Hp → Prop} {R : Option Int → Hp → Prop}
theorem i_lenL {p : Addr} {ys : List V} (h : SqL K H p ys) (q : Q (.int ys.length) H) : rLenQ K [.ref p] H Q := ⟨p, ys, rfl, .inl h, q⟩
theorem i_lenT {p : Addr} {ys : List V} (h : SqT K H p ys) (q : Q (.int ys.length) H) : rLenQ K [.ref p] H Q := ⟨p, ys, rfl, .inr h, q⟩
theorem i_lenZ {z : Str} (h : z.length ≤ 100000) (q : Q (.int z.length) H) : rLenZ [.str z] H Q := ⟨z, rfl, Nat.le_trans h (by decide), q⟩
theorem i_int {i : Int} (q : Q (.int i) H) : rInt1 [.int i] H Q := .inl ⟨i, rfl, q⟩
instance {i : Int} : Nx (rInt1 [.int i] H Q) (Q (.int i) H) := ⟨i_int⟩
theorem i_listL {p : Addr} {ys : List V} (h : SqL K H p ys) (q : ∀ l, H l = none → Q (.ref l) (upd H l (.lst ys))) : rListOf K [.ref p] H Q := ⟨p, ys, rfl, .inl h, q⟩
theorem i_tupL {p : Addr} {ys : List V} (h : SqL K H p ys) (q : ∀ l, H l = none → Q (.ref l) (upd H l (.tup ys))) : rTupOf K [.ref p] H Q := ⟨p, ys, rfl, .inl ⟨h, q⟩⟩
theorem i_max {i j : Int} (q : Q (.int (if j > i then j else i)) H) : rMx2 [.int i, .int j] H Q := ⟨i, j, rfl, q⟩
instance {i j : Int} : Nx (rMx2 [.int i, .int j] H Q) (Q (.int (if j > i then j else i)) H) := ⟨i_max⟩
theorem i_min {i j : Int} (q : Q (.int (if j < i then j else i)) H) : rMn2 [.int i, .int j] H Q := ⟨i, j, rfl, q⟩
instance {i j : Int} : Nx (rMn2 [.int i, .int j] H Q) (Q (.int (if j < i then j else i)) H) := ⟨i_min⟩
theorem i_addZ {i j : Str} (h : i.length + j.length ≤ 100000) (q : Q (.str (i ++ j)) H) : rAddZ (.str i) (.str j) H Q := ⟨i, j, rfl, rfl, Nat.le_trans h (by decide), q⟩
theorem i_inG {c : Nat} {z : Str} (q : Q (.bl (decide (c ∈ z.cps.toList))) H) : rInG (.str ⟨#[c]⟩) (.str z) H Q := ⟨c, z, rfl, rfl, q⟩
instance {c : Nat} {z : Str} : Nx (rInG (.str ⟨#[c]⟩) (.str z) H Q) (Q (.bl (decide (c ∈ z.cps.toList))) H) := ⟨i_inG⟩
theorem i_up {a : Str} (h : a.length ≤ 100000) (q : Q (.str (Txt.upper a)) H) : rUp (.str a) [] H Q := ⟨a, rfl, rfl, Nat.le_trans h (by decide), q⟩
theorem i_BM0 {T : String} {r : V → List V → Hp → VK → Prop} (q : te σ H fun x H1 => tyV K T x H1 ∧ r x [] H1 Q) : tBM0 K T r te σ H Q := q
instance {T : String} {r : V → List V → Hp → VK → Prop} : Nx (tBM0 K T r te σ H Q) (te σ H fun x H1 => tyV K T x H1 ∧ r x [] H1 Q) := ⟨i_BM0⟩
theorem i_BM {T : String} {r : V → List V → Hp → VK → Prop} {ta : TA} (q : te σ H fun x H1 => tyV K T x H1 ∧ ta σ H1 fun xs H2 => r x xs H2 Q) : tBM K T r te ta σ H Q := q
instance {T : String} {r : V → List V → Hp → VK → Prop} {ta : TA} : Nx (tBM K T r te ta σ H Q) (te σ H fun x H1 => tyV K T x H1 ∧ ta σ H1 fun xs H2 => r x xs H2 Q) := ⟨i_BM⟩
theorem i_noPart (q : R none H) : tNoPart σ H R := q
instance : Nx (tNoPart σ H R) (R none H) := ⟨i_noPart⟩
theorem i_part (q : te σ H fun x H1 => ∃ i, x = .int i ∧ R (some i) H1) : tPart te σ H R := q
instance : Nx (tPart te σ H R) (te σ H fun x H1 => ∃ i, x = .int i ∧ R (some i) H1) := ⟨i_part⟩
theorem i_exint {P : Int → Prop} {i : Int} (q : P i) : ∃ k, V.int i = .int k ∧ P k := ⟨i, rfl, q⟩
instance {P : Int → Prop} {i : Int} : Nx (∃ k, V.int i = .int k ∧ P k) (P i) := ⟨i_exint⟩
theorem i_slS {z : Str} {lo hi : Option Int} (h : z.length ≤ 100000) (q : Q (.str (cutS z lo hi)) H) : rSlS (.str z) lo hi H Q := ⟨z, rfl, Nat.le_trans h (by decide), q⟩
theorem i_slL {p : Addr} {xs : List V} {lo hi : Option Int} (h : SqL K H p xs) (q : ∀ l, H l = none → Q (.ref l) (upd H l (.lst (cutV xs lo hi)))) : rSlL K (.ref p) lo hi H Q := ⟨p, xs, rfl, h, q⟩
def RevEnd (K : PySem.W.Frag) (Q : VK) (x : V) (H1 : Hp) : Prop := ∃ a xs, x = .ref a ∧ SqL K H1 a xs ∧ ∀ p, H1 p = none → Q (.ref p) (upd H1 p (.lst xs.reverse))
theorem i_revL (q : te σ H fun x H1 => RevEnd K Q x H1) : tRevL K te σ H Q := q
instance : Nx (tRevL K te σ H Q) (te σ H fun x H1 => RevEnd K Q x H1) := ⟨i_revL⟩
theorem i_yes (q : tq true H) : tYes σ H tq := q
instance : Nx (tYes σ H tq) (tq true H) := ⟨i_yes⟩
theorem i_all {p : Addr} {bs : List Bool} (h : SqL K H p (bs.map V.bl)) (q : Q (.bl (bs.all id)) H) : rAll K [.ref p] H Q := ⟨p, bs, rfl, h, q⟩
theorem i_mulS {z : Str} {n : Int} (h1 : 1 ≤ n ∧ n ≤ 1000) (h2 : 1 ≤ z.length ∧ z.length ≤ 1000) (q : Q (.str ⟨(List.replicate n.toNat z.cps).foldl (· ++ ·) #[]⟩) H) : rMulS (.str z) (.int n) H Q := ⟨z, n, rfl, rfl, h1.1, h1.2, h2.1, h2.2, q⟩
end
theorem len_app (i j : Str) : (i ++ j).length = i.length + j.length := by
  show (i.cps ++ j.cps).size = _
  rw [Array.size_append] <;> rfl
theorem len_one (c : Nat) : (⟨#[c]⟩ : Str).length = 1 := rfl
end My
namespace My
open PySem PySem.Spec PyProof.Rows L2
theorem i_cut {σ : L2.St} {H : Hp} {t u : TS} {nx bk ct : L2.St → Hp → Prop} {rt : VK} (Mid : L2.St → Hp → Prop) (a : t ⟨Mid, rt, bk, ct⟩ σ H) (b : ∀ σ' H', Mid σ' H' → u ⟨nx, rt, bk, ct⟩ σ' H') : Evl.tCut t u ⟨nx, rt, bk, ct⟩ σ H := ⟨Mid, a, b⟩
end My
namespace My
open PySem PySem.Spec PyProof.Rows L2
theorem i_isi1 {K : PySem.W.Frag} {H : Hp} {Q : VK} {x : V} {c tn : String} {b : Bool} (ty : TyX K H x (.type tn)) (e : kitB tn c = some b) (q : Q (.bl b) H) : rIsi K [x, .ty c] H Q := ⟨x, _, _, _, b, rfl, .ty c, ty, kit_ty e, q⟩
theorem i_isi2 {K : PySem.W.Frag} {H : Hp} {Q : VK} {x : V} {c d tn : String} {b b2 : Bool} {p : Addr} (hT : H p = some (.tup [.ty c, .ty d])) (ty : TyX K H x (.type tn)) (e : kitB tn c = some b) (e2 : kitB tn d = some b2) (q : Q (.bl (b || b2)) H) : rIsiT K [x, .ref p] H Q := by
  refine ⟨x, p, _, _, [.type c, .type d], b || b2, rfl, hT, .cons (.ty c) (.cons (.ty d) .nil), ty, ?_, q⟩
  refine kitAny_cons (kit_ty e) (fun h => ?_) (fun h => by rw [h]; rfl)
  refine kitAny_cons (kit_ty e2) (fun h2 => ?_) (fun h2 => by rw [h, h2]; rfl)
  rw [h, h2]
  exact kitAny_nil
end My
namespace My
open PySem PySem.Spec PyProof.Rows L2
theorem i_isi2' {K : PySem.W.Frag} {H : Hp} {Q : VK} {x : V} {c d tn : String} {p : Addr} (b b2 r : Bool) (hT : H p = some (.tup [.ty c, .ty d])) (ty : TyX K H x (.type tn)) (e : kitB tn c = some b) (e2 : kitB tn d = some b2) (er : (b || b2) = r) (q : Q (.bl r) H) : rIsiT K [x, .ref p] H Q := by
  subst er
  exact i_isi2 hT ty e e2 q
theorem i_nF {A B : Prop} (h : A) : if (!false) = true then A else B := h
theorem i_nT {A B : Prop} (h : B) : if (!true) = true then A else B := h
end My
namespace My
open PySem PySem.Spec PyProof.Rows L2
section
variable {H : Hp} {Q : VK}
theorem i_isN_int {i : Int} (q : Q (.bl false) H) : rIsNn (.int i) .non H Q := ⟨rfl, by simpa using q⟩
instance {i : Int} : Nx (rIsNn (.int i) .non H Q) (Q (.bl false) H) := ⟨i_isN_int⟩
theorem i_isN_str {i : Str} (q : Q (.bl false) H) : rIsNn (.str i) .non H Q := ⟨rfl, by simpa using q⟩
instance {i : Str} : Nx (rIsNn (.str i) .non H Q) (Q (.bl false) H) := ⟨i_isN_str⟩
theorem i_isN_bl {i : Bool} (q : Q (.bl false) H) : rIsNn (.bl i) .non H Q := ⟨rfl, by simpa using q⟩
instance {i : Bool} : Nx (rIsNn (.bl i) .non H Q) (Q (.bl false) H) := ⟨i_isN_bl⟩
theorem i_isN_ref {i : Addr} (q : Q (.bl false) H) : rIsNn (.ref i) .non H Q := ⟨rfl, by simpa using q⟩
instance {i : Addr} : Nx (rIsNn (.ref i) .non H Q) (Q (.bl false) H) := ⟨i_isN_ref⟩
theorem i_isN_non (q : Q (.bl true) H) : rIsNn .non .non H Q := ⟨rfl, by simpa using q⟩
instance : Nx (rIsNn .non .non H Q) (Q (.bl true) H) := ⟨i_isN_non⟩
theorem i_notN_int {i : Int} (q : Q (.bl true) H) : rNotNn (.int i) .non H Q := ⟨rfl, by simpa using q⟩
instance {i : Int} : Nx (rNotNn (.int i) .non H Q) (Q (.bl true) H) := ⟨i_notN_int⟩
theorem i_notN_str {i : Str} (q : Q (.bl true) H) : rNotNn (.str i) .non H Q := ⟨rfl, by simpa using q⟩
instance {i : Str} : Nx (rNotNn (.str i) .non H Q) (Q (.bl true) H) := ⟨i_notN_str⟩
theorem i_notN_bl {i : Bool} (q : Q (.bl true) H) : rNotNn (.bl i) .non H Q := ⟨rfl, by simpa using q⟩
instance {i : Bool} : Nx (rNotNn (.bl i) .non H Q) (Q (.bl true) H) := ⟨i_notN_bl⟩
theorem i_notN_ref {i : Addr} (q : Q (.bl true) H) : rNotNn (.ref i) .non H Q := ⟨rfl, by simpa using q⟩
instance {i : Addr} : Nx (rNotNn (.ref i) .non H Q) (Q (.bl true) H) := ⟨i_notN_ref⟩
theorem i_notN_non (q : Q (.bl false) H) : rNotNn .non .non H Q := ⟨rfl, by simpa using q⟩
instance : Nx (rNotNn .non .non H Q) (Q (.bl false) H) := ⟨i_notN_non⟩
end
end My
namespace My
open PySem PySem.Spec PyProof.Rows L2
theorem nbT {b : Bool} (h : (!b) = true) : b = false := by cases b <;> first | rfl | cases h
theorem nbF {b : Bool} (h : (!b) = false) : b = true := by cases b <;> first | rfl | cases h
theorem of_arr {z : Str} {i c : Nat} (h : z.cps[i]? = some c) : z.cps.toList[i]? = some c := by rw [Array.getElem?_toList]; exact h
theorem take_map {α β : Type} {l : List α} {i : Nat} {c : α} (f : α → β) (h : l[i]? = some c) : (l.take (i + 1)).map f = (l.take i).map f ++ [f c] := by
  rw [List.take_add_one, h, List.map_append]
  rfl
theorem take_filter {α : Type} {l : List α} {i : Nat} {c : α} (p : α → Bool) (h : l[i]? = some c) : (l.take (i + 1)).filter p = (l.take i).filter p ++ (if p c = true then [c] else []) := by
  rw [List.take_add_one, h, List.filter_append]
  show _ ++ List.filter p [c] = _
  rw [List.filter_cons]
  split <;> rfl
theorem take_all {α : Type} {l : List α} : l.take l.length = l := List.take_length
end My
namespace My
open PySem PySem.Spec PyProof.Rows L2
/-- a new object, the heap behind it by a name of its own -/
theorem laid {H : Hp} {p : Addr} {o : HO} {G : Hp → Prop} (hp : H p = none) (k : ∀ H1, Same H H1 → H1 p = some o → G H1) : G (upd H p o) := k _ (same_new hp) upd_same
theorem len_cut (z : Str) (lo hi : Option Int) : (cutS z lo hi).length ≤ z.length := cutS_length z lo hi
end My
namespace My
open PySem PySem.Spec PyProof.Rows L2
def rLenV (K : PySem.W.Frag) : List V → Hp → VK → Prop := fun xs H Q => ∃ x n, xs = [x] ∧ LenV K x H n ∧ Q (.int n) H
theorem n_lenV {X : Cx} : CallR X (.builtin "len") (rLenV X.K) := fun pins s σ H xs us Q I r h => call_len pins s σ H xs us Q I r (by
  obtain ⟨x, n, e, l, q⟩ := h
  exact ⟨x, n, e, l, q⟩)
section
variable {K : PySem.W.Frag} {H : Hp} {Q : VK} {A : Prop}
theorem i_lenVL {p : Addr} {ys : List V} (h : SqL K H p ys) (q : Q (.int ys.length) H) : rLenV K [.ref p] H Q := ⟨_, _, rfl, .inl ⟨ys, h, rfl⟩, q⟩
theorem i_lenVT {p : Addr} {ys : List V} (h : SqT K H p ys) (q : Q (.int ys.length) H) : rLenV K [.ref p] H Q := ⟨_, _, rfl, .inr ⟨ys, h, rfl⟩, q⟩
theorem i_lenVS {z : Str} (h : z.length ≤ 100000) (q : Q (.int z.length) H) : rLenV K [.str z] H Q := ⟨_, _, rfl, ⟨Nat.le_trans h (by decide), rfl⟩, q⟩
theorem i_ixAL {p : Addr} {xs : List V} {i : Int} {v : V} (h : SqL K H p xs) (ha : atI xs i = some v) (q : Q v H) : rIx K (.ref p) (.int i) H Q := .inl ⟨p, xs, i, v, rfl, rfl, h, ha, q⟩
theorem i_ixAT {p : Addr} {xs : List V} {i : Int} {v : V} (h : SqT K H p xs) (ha : atI xs i = some v) (q : Q v H) : rIx K (.ref p) (.int i) H Q := .inr (.inl ⟨p, xs, i, v, rfl, rfl, h, ha, q⟩)
theorem i_ixAS {z : Str} {i : Int} {c : Nat} (h : z.length ≤ 100000) (ha : atI z.cps.toList i = some c) (q : Q (.str ⟨#[c]⟩) H) : rIx K (.str z) (.int i) H Q := .inr (.inr ⟨z, i, c, rfl, rfl, Nat.le_trans h (by decide), ha, q⟩)
theorem i_tyS {z : Str} (q : A) : tyV K "str" (.str z) H ∧ A := ⟨rfl, q⟩
instance {z : Str} : Nx (tyV K "str" (.str z) H ∧ A) (A) := ⟨i_tyS⟩
theorem i_tyL {p : Addr} {xs : List V} (h : SqL K H p xs) (q : A) : tyV K "list" (.ref p) H ∧ A := ⟨.inl ⟨rfl, xs, h⟩, q⟩
theorem a_add {i j : Str} (h : i.length + j.length ≤ 100000) (q : ∀ w : Str, w.length = i.length + j.length → Q (.str w) H) : rAddZ (.str i) (.str j) H Q := i_addZ h (q _ (len_app i j))
theorem a_sl {z : Str} {lo hi : Option Int} (h : z.length ≤ 100000) (q : ∀ w : Str, w.length ≤ z.length → Q (.str w) H) : rSlS (.str z) lo hi H Q := i_slS h (q _ (len_cut _ _ _))
theorem a_up {a : Str} (h : a.length ≤ 100000) (q : ∀ w : Str, w.length ≤ 3 * a.length → Q (.str w) H) : rUp (.str a) [] H Q := i_up h (q _ (PyProof.Rows.len_upper a))
theorem a_mul {z : Str} {n : Int} (h1 : 1 ≤ n ∧ n ≤ 1000) (h2 : 1 ≤ z.length ∧ z.length ≤ 1000) (q : ∀ w : Str, w.length = n.toNat * z.length → Q (.str w) H) : rMulS (.str z) (.int n) H Q := i_mulS h1 h2 (q _ (by
  have key : ∀ (m : Nat) (acc : Array Nat), ((List.replicate m z.cps).foldl (· ++ ·) acc).size = acc.size + m * z.cps.size := by
    intro m
    induction m with
    | zero => intro acc; simp
    | succ m ih =>
      intro acc
      rw [List.replicate_succ, List.foldl_cons, ih, Array.size_append, Nat.succ_mul]
      omega
  show ((List.replicate n.toNat z.cps).foldl (· ++ ·) #[]).size = _
  rw [key]
  simp
  rfl))
end
theorem at_str {z : Str} {i : Int} (h0 : 0 ≤ i) (h1 : i < z.length) : ∃ c, atI z.cps.toList i = some c ∧ c ∈ z.cps.toList := by
  have hl : i.toNat < z.cps.toList.length := by
    rw [Array.length_toList]
    show i.toNat < z.length
    omega
  refine ⟨z.cps.toList[i.toNat], ?_, List.getElem_mem hl⟩
  have e : i = ((i.toNat : Nat) : Int) := by omega
  have h := atI_nat (List.getElem?_eq_getElem hl)
  rw [← e] at h
  exact h
end My
namespace My
open PySem PySem.Spec PyProof.Rows L2
section
variable {K : PySem.W.Frag} {H : Hp} {Q : VK} {xs zs : List V}
theorem lst_end (h : xs.length ≤ 100000) (k : ∀ p H1, H p = none → Same H H1 → H1 p = some (.lst xs) → Q (.ref p) H1) : LstEnd Q xs H := ⟨Nat.le_trans h (by decide), fun p hp => k p _ hp (same_new hp) upd_same⟩
theorem tup_end (h : xs.length ≤ 100000) (k : ∀ p H1, H p = none → Same H H1 → H1 p = some (.tup xs) → Q (.ref p) H1) : TupEnd Q xs H := ⟨Nat.le_trans h (by decide), fun p hp => k p _ hp (same_new hp) upd_same⟩
theorem cat_end {a b : Addr} (h1 : H a = some (.lst xs)) (h2 : H b = some (.lst zs)) (h : xs.length + zs.length ≤ 100000) (k : ∀ p H1, H p = none → Same H H1 → H1 p = some (.lst (xs ++ zs)) → Q (.ref p) H1) : rCat (.ref a) (.ref b) H Q :=
  ⟨a, b, xs, zs, rfl, rfl, h1, h2, Nat.le_trans h (by decide), fun p hp => k p _ hp (same_new hp) upd_same⟩
/-- a list of texts, each short -/
def Short (n : Nat) (vs : List V) : Prop := ∀ v ∈ vs, ∃ z : Str, v = .str z ∧ z.length ≤ n
theorem Short.nil {n : Nat} : Short n [] := fun _ h => nomatch h
theorem Short.cons {n : Nat} {z : Str} {vs : List V} (h : z.length ≤ n) (t : Short n vs) : Short n (.str z :: vs) := by
  intro v hv
  rcases List.mem_cons.mp hv with rfl | hv
  · exact ⟨z, rfl, h⟩
  · exact t v hv
theorem Short.app {n : Nat} {xs ys : List V} (a : Short n xs) (b : Short n ys) : Short n (xs ++ ys) := fun v hv => (List.mem_append.mp hv).elim (a v) (b v)
end
end My
namespace My
open PySem PySem.Spec PyProof.Rows L2
theorem lst_p {H : Hp} {Q : VK} {xs : List V} (R : List V → Prop) (hR : R xs) (h : xs.length ≤ 100000) (k : ∀ p ys H1, H p = none → Same H H1 → H1 p = some (.lst ys) → R ys → Q (.ref p) H1) : LstEnd Q xs H :=
  lst_end h fun p H1 a b c => k p xs H1 a b c hR
end My
namespace My
open PySem PySem.Spec PyProof.Rows L2
theorem i_append {H : Hp} {Q : VK} {p : Addr} {xs : List V} {v : V} (h : H p = some (.lst xs)) (hl : xs.length < 100000) (q : Q .non (upd H p (.lst (xs ++ [v])))) : rAppend (.ref p) [v] H Q :=
  ⟨p, xs, v, rfl, rfl, h, Nat.lt_of_lt_of_le hl (by decide), q⟩
end My
namespace My
open PySem PySem.Spec PyProof.Rows L2
theorem rev_end {K : PySem.W.Frag} {H : Hp} {Q : VK} {p : Addr} {xs : List V} (h : SqL K H p xs) (k : ∀ r H1, H r = none → Same H H1 → H1 r = some (.lst xs.reverse) → Q (.ref r) H1) : RevEnd K Q (.ref p) H :=
  ⟨p, xs, rfl, h, fun r hr => k r _ hr (same_new hr) upd_same⟩
end My
namespace My
open PySem PySem.Spec PyProof.Rows L2
def AZ : List Nat := ("abcdefghijklmnopqrstuvwxyz" : Str).cps.toList
def AZ9 : List Nat := ("abcdefghijklmnopqrstuvwxyz0123456789" : Str).cps.toList
def firstB (l : List Nat) : Bool := match l[0]? with
  | some c => decide (c ∈ AZ)
  | none => false
/-- what a name is -/
def nameB (z : Str) : Bool := decide (1 ≤ z.length) && (decide (z.length ≤ 8) && (firstB z.cps.toList && z.cps.toList.all fun c => decide (c ∈ AZ9)))
theorem nameB_0 {z : Str} (h : ¬ 1 ≤ z.length) : nameB z = false := by simp [nameB, h]
theorem nameB_9 {z : Str} (h : ¬ z.length ≤ 8) : nameB z = false := by simp [nameB, h]
theorem nameB_f {z : Str} (h : firstB z.cps.toList = false) : nameB z = false := by simp [nameB, h]
theorem nameB_ok {z : Str} (h0 : 1 ≤ z.length) (h1 : z.length ≤ 8) (h2 : firstB z.cps.toList = true) : nameB z = z.cps.toList.all fun c => decide (c ∈ AZ9) := by simp [nameB, h0, h1, h2]
theorem first_of {z : Str} (h : 1 ≤ z.length) : ∃ c, z.cps.toList[0]? = some c ∧ firstB z.cps.toList = decide (c ∈ AZ) := by
  have hl : 0 < z.cps.toList.length := by
    rw [Array.length_toList]
    exact h
  refine ⟨z.cps.toList[0], List.getElem?_eq_getElem hl, ?_⟩
  unfold firstB
  rw [List.getElem?_eq_getElem hl]
def cz (z : Str) : List Nat := z.cps.toList
theorem cz_len (z : Str) : (cz z).length = z.length := Array.length_toList
theorem cz_app (i j : Str) : cz (i ++ j) = cz i ++ cz j := by
  show (i.cps ++ j.cps).toList = _
  rw [Array.toList_append] <;> rfl
theorem cz_one (c : Nat) : cz ⟨#[c]⟩ = [c] := rfl
theorem cz_to (z : Str) (n : Nat) : cz (cutS z none (some (n : Int))) = (cz z).take n := by
  show ((z.cps.toList.drop (HT.sIx z.length 0 none)).take (HT.sIx z.length z.length (some (n : Int)) - HT.sIx z.length 0 none)).toArray.toList = _
  rw [HT.sIx_nat, HT.sIx_none]
  show (z.cps.toList.drop 0).take (min n z.length - 0) = z.cps.toList.take n
  rw [List.drop_zero, Nat.sub_zero]
  have hl : z.cps.toList.length = z.length := Array.length_toList
  rcases Nat.le_total n z.length with h | h
  · rw [Nat.min_eq_left h]
  · rw [Nat.min_eq_right h, List.take_of_length_le (by omega), List.take_of_length_le (by omega)]
theorem cz_from (z : Str) (n : Nat) : cz (cutS z (some (n : Int)) none) = (cz z).drop n := by
  show ((z.cps.toList.drop (HT.sIx z.length 0 (some (n : Int)))).take (HT.sIx z.length z.length none - HT.sIx z.length 0 (some (n : Int)))).toArray.toList = _
  rw [HT.sIx_nat, HT.sIx_none]
  show (z.cps.toList.drop (min n z.length)).take (z.length - min n z.length) = z.cps.toList.drop n
  have hl : z.cps.toList.length = z.length := Array.length_toList
  rcases Nat.le_total n z.length with h | h
  · rw [Nat.min_eq_left h, List.take_of_length_le (by rw [List.length_drop]; omega)]
  · rw [Nat.min_eq_right h, List.drop_of_length_le (by omega), List.drop_of_length_le (by omega), List.take_nil]
/-- a name by its signs -/
structure NameL (l : List Nat) : Prop where
  lo : 1 ≤ l.length
  hi : l.length ≤ 8
  first : ∀ c, l[0]? = some c → c ∈ AZ
  all : ∀ c ∈ l, c ∈ AZ9
theorem nameB_of {z : Str} (h : NameL (cz z)) : nameB z = true := by
  have h1 := h.lo
  have h2 := h.hi
  rw [cz_len] at h1 h2
  obtain ⟨c, hc, hf⟩ := first_of h1
  have h3 : firstB z.cps.toList = true := by
    rw [hf]
    exact decide_eq_true (h.first c hc)
  rw [nameB_ok h1 h2 h3, List.all_eq_true]
  exact fun c hc => decide_eq_true (h.all c hc)
theorem nameL_of {z : Str} (h : nameB z = true) : NameL (cz z) := by
  have a : 1 ≤ z.length := by
    by_cases a : 1 ≤ z.length
    · exact a
    · rw [nameB_0 a] at h
      cases h
  have b : z.length ≤ 8 := by
    by_cases a : z.length ≤ 8
    · exact a
    · rw [nameB_9 a] at h
      cases h
  have d : firstB z.cps.toList = true := by
    cases d : firstB z.cps.toList with
    | true => rfl
    | false =>
      rw [nameB_f d] at h
      cases h
  refine ⟨by rw [cz_len]; exact a, by rw [cz_len]; exact b, fun c hc => ?_, fun c hc => ?_⟩
  · unfold firstB at d
    rw [show z.cps.toList[0]? = some c from hc] at d
    exact of_decide_eq_true d
  · rw [nameB_ok a b d, List.all_eq_true] at h
    exact of_decide_eq_true (h c hc)
theorem nameB_len {z : Str} (h : nameB z = true) : 1 ≤ z.length ∧ z.length ≤ 8 := by
  have a := nameL_of h
  have h1 := a.lo
  have h2 := a.hi
  rw [cz_len] at h1 h2
  exact ⟨h1, h2⟩
theorem az_sub : ∀ c ∈ AZ, c ∈ AZ9 := by decide +kernel
/-- one more sign of a name behind -/
theorem NameL.push {l : List Nat} {c : Nat} (h : NameL l) (hc : c ∈ AZ9) (hl : l.length ≤ 7) : NameL (l ++ [c]) := by
  have := h.lo
  refine ⟨by rw [List.length_append]; omega, by rw [List.length_append]; show l.length + 1 ≤ 8; omega, fun d hd => ?_, fun d hd => ?_⟩
  · rw [List.getElem?_append_left (by omega)] at hd
    exact h.first d hd
  · rcases List.mem_append.mp hd with e | e
    · exact h.all d e
    · rw [List.mem_singleton.mp e]
      exact hc
theorem NameL.one {c : Nat} (h : c ∈ AZ) : NameL [c] := ⟨by show 1 ≤ 1; decide, by show 1 ≤ 8; decide, fun d hd => by cases hd; exact h, fun d hd => by rw [List.mem_singleton.mp hd]; exact az_sub c h⟩
theorem NameL.take {l : List Nat} {n : Nat} (h : NameL l) (hn : 1 ≤ n) : NameL (l.take n) := by
  have := h.lo
  have := h.hi
  refine ⟨by rw [List.length_take]; omega, by rw [List.length_take]; omega, fun d hd => ?_, fun d hd => h.all d (List.mem_of_mem_take hd)⟩
  rw [List.getElem?_take] at hd
  split at hd
  · exact h.first d hd
  · cases hd
/-- names among values -/
def okName : V → Bool
  | .str z => nameB z
  | _ => false
theorem okName_of {v : V} (h : okName v = true) : ∃ z : Str, v = .str z ∧ nameB z = true := by
  cases v with
  | str z => exact ⟨z, rfl, h⟩
  | _ => cases h
/-- a sign of the letters, of letters and digits, by its place -/
theorem at_az9 {i : Int} (h0 : 0 ≤ i) (h1 : i < 36) : ∃ c, atI ("abcdefghijklmnopqrstuvwxyz0123456789" : Str).cps.toList i = some c ∧ c ∈ AZ9 ∧ (i < 26 → c ∈ AZ) := by
  have hl : i.toNat < AZ9.length := by
    have : AZ9.length = 36 := by decide +kernel
    omega
  have e : i = ((i.toNat : Nat) : Int) := by omega
  have h := atI_nat (List.getElem?_eq_getElem hl)
  rw [← e] at h
  refine ⟨AZ9[i.toNat], h, List.getElem_mem hl, fun h26 => ?_⟩
  have key : ∀ n : Fin 26, ∃ c, AZ9[n.val]? = some c ∧ c ∈ AZ := by decide +kernel
  obtain ⟨c, hc, hm⟩ := key ⟨i.toNat, by omega⟩
  rw [List.getElem?_eq_getElem hl] at hc
  cases hc
  exact hm
end My
namespace My
open PySem PySem.Spec PyProof.Rows L2
theorem i_popAt {H : Hp} {Q : VK} {l : Addr} {xs : List V} {i : Int} (h : H l = some (.lst xs)) (h0 : 0 ≤ i) (h1 : i < xs.length) (hz : xs.length ≤ 100000) (q : ∀ y, xs[i.toNat]? = some y → Q y (upd H l (.lst (xs.eraseIdx i.toNat)))) : rPopAt (.ref l) [.int i] H Q := by
  have hl : i.toNat < xs.length := by omega
  refine ⟨l, xs, i, i.toNat, xs[i.toNat], rfl, rfl, h, by omega, by omega, ?_, List.getElem?_eq_getElem hl, q _ (List.getElem?_eq_getElem hl)⟩
  have e := ixN_seq (n := xs.length) (i := i) (j := i.toNat) (by unfold ixN; rw [if_pos h0, if_pos h1])
  exact e.1
theorem inV_str (z : Str) (ns : List Str) : inV (.str z) (ns.map V.str) = decide (z ∈ ns) := by
  unfold inV
  induction ns with
  | nil => simp
  | cons a r ih =>
    rw [List.map_cons, List.any_cons, ih]
    have : eqV (.str a) (.str z) = decide (a = z) := rfl
    rw [this]
    by_cases h : a = z
    · subst h; simp
    · have h2 : ¬ z = a := fun e => h e.symm
      simp [h, h2]
theorem flat_strs (ns : List Str) : (ns.map V.str).all flatV = true := by
  rw [List.all_map, List.all_eq_true]
  intro x _
  rfl
theorem i_inStr {K : PySem.W.Frag} {H : Hp} {Q : VK} {p : Addr} {z : Str} {ns : List Str} (h : SqL K H p (ns.map V.str)) (q : Q (.bl (decide (z ∈ ns))) H) : rIn K false (.str z) (.ref p) H Q :=
  ⟨p, _, rfl, .inl h, rfl, flat_strs ns, by rw [if_neg (by decide), inV_str]; exact q⟩
theorem i_notInStr {K : PySem.W.Frag} {H : Hp} {Q : VK} {p : Addr} {z : Str} {ns : List Str} (h : SqL K H p (ns.map V.str)) (q : Q (.bl (!decide (z ∈ ns))) H) : rIn K true (.str z) (.ref p) H Q :=
  ⟨p, _, rfl, .inl h, rfl, flat_strs ns, by rw [if_pos rfl, inV_str]; exact q⟩
theorem i_inStrT {K : PySem.W.Frag} {H : Hp} {Q : VK} {p : Addr} {z : Str} {ns : List Str} (h : SqT K H p (ns.map V.str)) (q : Q (.bl (decide (z ∈ ns))) H) : rIn K false (.str z) (.ref p) H Q :=
  ⟨p, _, rfl, .inr h, rfl, flat_strs ns, by rw [if_neg (by decide), inV_str]; exact q⟩
theorem i_notInStrT {K : PySem.W.Frag} {H : Hp} {Q : VK} {p : Addr} {z : Str} {ns : List Str} (h : SqT K H p (ns.map V.str)) (q : Q (.bl (!decide (z ∈ ns))) H) : rIn K true (.str z) (.ref p) H Q :=
  ⟨p, _, rfl, .inr h, rfl, flat_strs ns, by rw [if_pos rfl, inV_str]; exact q⟩
theorem perm_pop : ∀ {xs : List V} {i : Nat} {y : V}, xs[i]? = some y → (y :: xs.eraseIdx i).Perm xs
  | [], _, _, h => by simp at h
  | a :: r, 0, y, h => by
    have e : a = y := Option.some.inj h
    subst e
    exact List.Perm.refl _
  | a :: r, i + 1, y, h => by
    have ih := perm_pop (xs := r) (i := i) (y := y) h
    show (y :: a :: r.eraseIdx i).Perm (a :: r)
    exact (List.Perm.swap a y _).trans (ih.cons a)
theorem list_end {K : PySem.W.Frag} {H : Hp} {Q : VK} {p : Addr} {ys : List V} (h : SqL K H p ys) (k : ∀ l H1, H l = none → Same H H1 → H1 l = some (.lst ys) → Q (.ref l) H1) : rListOf K [.ref p] H Q := i_listL h fun l hl => k l _ hl (same_new hl) upd_same
theorem tuple_end {K : PySem.W.Frag} {H : Hp} {Q : VK} {p : Addr} {ys : List V} (h : SqL K H p ys) (k : ∀ l H1, H l = none → Same H H1 → H1 l = some (.tup ys) → Q (.ref l) H1) : rTupOf K [.ref p] H Q := i_tupL h fun l hl => k l _ hl (same_new hl) upd_same
theorem sl_end {K : PySem.W.Frag} {H : Hp} {Q : VK} {p : Addr} {xs : List V} {lo hi : Option Int} (h : SqL K H p xs) (k : ∀ l H1, H l = none → Same H H1 → H1 l = some (.lst (cutV xs lo hi)) → Q (.ref l) H1) : rSlL K (.ref p) lo hi H Q := i_slL h fun l hl => k l _ hl (same_new hl) upd_same
/-- a list of the draws written: what stands, the store -/
theorem mut_all {s l : Addr} {H H1 : Hp} {ys : List V} (h0 : StOk H s) (f : Fr s H H1) (h : StOk H1 s) (n : H l = none) : StOk (upd H1 l (.lst ys)) s ∧ Fr s H (upd H1 l (.lst ys)) ∧ (upd H1 l (.lst ys)) l = some (.lst ys) ∧ ∀ b o, b ≠ l → H1 b = some o → (upd H1 l (.lst ys)) b = some o :=
  ⟨h0.mut f h n, f.mut n, upd_same, fun b o hb e => by rw [upd_ne hb]; exact e⟩
end My
namespace My
open PySem PySem.Spec PyProof.Rows L2
theorem NameL.takeApp {a b : List Nat} {n : Nat} (h : NameL a) (hb : ∀ c ∈ b, c ∈ AZ9) (h1 : 1 ≤ n) (h8 : n ≤ 8) : NameL ((a ++ b).take n) := by
  have := h.lo
  refine ⟨by rw [List.length_take, List.length_append]; omega, by rw [List.length_take]; omega, fun d hd => ?_, fun d hd => ?_⟩
  · rw [List.getElem?_take, if_pos (by omega), List.getElem?_append_left (by omega)] at hd
    exact h.first d hd
  · rcases List.mem_append.mp (List.mem_of_mem_take hd) with e | e
    · exact h.all d e
    · exact hb d e
/-- one sign exchanged, not the first -/
theorem NameL.swap {l : List Nat} {p c : Nat} (h : NameL l) (hp : 0 < p) (hl : p < l.length) (hc : c ∈ AZ9) : NameL (l.take p ++ [c] ++ l.drop (p + 1)) := by
  have := h.hi
  have e : (l.take p ++ [c] ++ l.drop (p + 1)).length = l.length := by
    rw [List.length_append, List.length_append, List.length_take, List.length_drop]
    show min p l.length + 1 + (l.length - (p + 1)) = l.length
    omega
  refine ⟨by omega, by omega, fun d hd => ?_, fun d hd => ?_⟩
  · rw [List.append_assoc, List.getElem?_append_left (by rw [List.length_take]; omega), List.getElem?_take, if_pos hp] at hd
    exact h.first d hd
  · rcases List.mem_append.mp hd with e | e
    · rcases List.mem_append.mp e with e | e
      · exact h.all d (List.mem_of_mem_take e)
      · rw [List.mem_singleton.mp e]
        exact hc
    · exact h.all d (List.mem_of_mem_drop e)
theorem NameL.head {l : List Nat} {c : Nat} (h : NameL l) (hc : c ∈ AZ) : NameL ([c] ++ l.drop 1) := by
  have h1 := h.lo
  have h2 := h.hi
  refine ⟨by show 1 ≤ (l.drop 1).length + 1; omega, by show (l.drop 1).length + 1 ≤ 8; rw [List.length_drop]; omega, fun d hd => by cases hd; exact hc, fun d hd => ?_⟩
  rcases List.mem_append.mp hd with e | e
  · rw [List.mem_singleton.mp e]
    exact az_sub c hc
  · exact h.all d (List.mem_of_mem_drop e)
theorem cz_mul (c : Nat) (n : Nat) : cz ⟨(List.replicate n (⟨#[c]⟩ : Str).cps).foldl (· ++ ·) #[]⟩ = List.replicate n c := by
  have key : ∀ (m : Nat) (acc : Array Nat), ((List.replicate m #[c]).foldl (· ++ ·) acc).toList = acc.toList ++ List.replicate m c := by
    intro m
    induction m with
    | zero => intro acc; simp
    | succ m ih =>
      intro acc
      rw [List.replicate_succ, List.foldl_cons, ih, Array.toList_append, List.append_assoc]
      rfl
  show ((List.replicate n #[c]).foldl (· ++ ·) #[]).toList = _
  rw [key]
  rfl
theorem NameL.rep {c n : Nat} (hc : c ∈ AZ) (h1 : 1 ≤ n) (h8 : n ≤ 8) : NameL (List.replicate n c) := by
  refine ⟨by rw [List.length_replicate]; exact h1, by rw [List.length_replicate]; exact h8, fun d hd => ?_, fun d hd => ?_⟩
  · rw [List.getElem?_replicate] at hd
    split at hd
    · cases hd; exact hc
    · cases hd
  · rw [(List.mem_replicate.mp hd).2]
    exact az_sub c hc
end My
namespace My
open PySem PySem.Spec PyProof.Rows L2
theorem i_orP {t u : TT} {σ : L2.St} {H : Hp} {tq : Bool → Hp → Prop} (a b : Bool) (ha : ∀ tq : Bool → Hp → Prop, tq a H → t σ H tq) (hb : ∀ tq : Bool → Hp → Prop, tq b H → u σ H tq) (q : tq (a || b) H) : tOr t u σ H tq := by
  refine ha _ ?_
  cases a with
  | true => exact iteT q
  | false => exact iteF (hb _ q)
theorem i_andP {t u : TT} {σ : L2.St} {H : Hp} {tq : Bool → Hp → Prop} (a b : Bool) (ha : ∀ tq : Bool → Hp → Prop, tq a H → t σ H tq) (hb : a = true → ∀ tq : Bool → Hp → Prop, tq b H → u σ H tq) (q : tq (a && b) H) : tAnd t u σ H tq := by
  refine ha _ ?_
  cases a with
  | true => exact iteT (hb rfl _ q)
  | false => exact iteF q
theorem dec_int2 {i j : Int} : decide (V.int i = V.int j) = decide (i = j) := by
  by_cases h : i = j
  · simp [h]
  · have : ¬ V.int i = V.int j := fun e => h (by injection e)
    rw [decide_eq_false h, decide_eq_false this]
theorem or_dec {p q : Prop} [Decidable p] [Decidable q] (h : (decide p || decide q) = true) : p ∨ q := by
  rw [Bool.or_eq_true, decide_eq_true_eq, decide_eq_true_eq] at h
  exact h
theorem or_decF {p q : Prop} [Decidable p] [Decidable q] (h : (decide p || decide q) = false) : ¬ p ∧ ¬ q := by
  rw [Bool.or_eq_false_iff, decide_eq_false_iff_not, decide_eq_false_iff_not] at h
  exact h
theorem and_split {a b : Bool} (h : (a && b) = true) : a = true ∧ b = true := by
  rw [Bool.and_eq_true] at h
  exact h
end My
namespace My
open PySem PySem.Spec PyProof.Rows L2
def tupOf : HO → Option (List V)
  | .tup d => some d
  | _ => none
def dec (H : Hp) : V → Option (List V)
  | .ref t => (H t).bind tupOf
  | _ => none
theorem dec_of {H : Hp} {t : Addr} {d : List V} (h : H t = some (.tup d)) : dec H (.ref t) = some d := by
  show (H t).bind tupOf = some d
  rw [h]
  rfl
theorem dec_some {H : Hp} {v : V} {d : List V} (h : dec H v = some d) : ∃ t, v = .ref t ∧ H t = some (.tup d) := by
  cases v with
  | ref t =>
    have h : (H t).bind tupOf = some d := h
    cases e : H t with
    | none => rw [e] at h; cases h
    | some o =>
      rw [e] at h
      have h : tupOf o = some d := h
      cases o <;> first | (cases h; done) | skip
      cases h
      exact ⟨t, rfl, e⟩
  | _ => cases h
def Rows (H : Hp) (xs : List V) (ds : List (List V)) : Prop := xs.map (dec H) = ds.map some
/-- tuples stand -/
def Tk (H H' : Hp) : Prop := ∀ t d, H t = some (.tup d) → H' t = some (.tup d)
theorem Tk.refl {H : Hp} : Tk H H := fun _ _ h => h
theorem Tk.trans {H H1 H2 : Hp} (a : Tk H H1) (b : Tk H1 H2) : Tk H H2 := fun t d h => b t d (a t d h)
theorem Tk.same {H H1 : Hp} (s : Same H H1) : Tk H H1 := fun t d h => s t _ h
theorem Tk.new {H : Hp} {p : Addr} {o : HO} (h : H p = none) : Tk H (upd H p o) := Tk.same (same_new h)
theorem Tk.lst {H : Hp} {p : Addr} {xs ys : List V} (h : H p = some (.lst xs)) : Tk H (upd H p (.lst ys)) := fun t d e => by
  rw [upd_ne fun z => by rw [z, h] at e; cases e]
  exact e
theorem StOk.tup {H : Hp} {s : Addr} (h : StOk H s) {t : Addr} {d : List V} (e : H t = Option.some (HO.tup d)) : t ≠ s := fun z => by
  obtain ⟨q, ns, i1, n2, i3, i4, i5, i6, h1, _⟩ := h
  rw [z, h1] at e
  cases e
theorem Fr.tk {H H1 : Hp} {s : Addr} (f : Fr s H H1) (h : StOk H s) : Tk H H1 := fun t d e => f.1 t _ e (h.tup e)
theorem Rows.nil {H : Hp} : Rows H [] [] := rfl
theorem Rows.keep {H H' : Hp} {xs : List V} {ds : List (List V)} (k : Tk H H') (h : Rows H xs ds) : Rows H' xs ds := by
  unfold Rows at h ⊢
  rw [← h]
  refine List.map_congr_left fun v hv => ?_
  have : dec H v ∈ ds.map some := by
    rw [← h]
    exact List.mem_map_of_mem hv
  obtain ⟨d, _, e⟩ := List.mem_map.mp this
  obtain ⟨t, rfl, ht⟩ := dec_some e.symm
  rw [dec_of ht, dec_of (k _ _ ht)]
theorem Rows.len {H : Hp} {xs : List V} {ds : List (List V)} (h : Rows H xs ds) : xs.length = ds.length := by
  have := congrArg List.length h
  rwa [List.length_map, List.length_map] at this
theorem Rows.app {H : Hp} {xs ys : List V} {ds es : List (List V)} (a : Rows H xs ds) (b : Rows H ys es) : Rows H (xs ++ ys) (ds ++ es) := by
  unfold Rows at *
  rw [List.map_append, List.map_append, a, b]
theorem Rows.one {H : Hp} {t : Addr} {d : List V} (h : H t = some (.tup d)) : Rows H [.ref t] [d] := by
  unfold Rows
  rw [List.map_cons, dec_of h]
  rfl
theorem Rows.get {H : Hp} {xs : List V} {ds : List (List V)} (h : Rows H xs ds) {i : Nat} {x : V} (e : xs[i]? = some x) : ∃ t d, x = .ref t ∧ ds[i]? = some d ∧ H t = some (.tup d) := by
  have q := congrArg (fun l : List (Option (List V)) => l[i]?) h
  simp only [List.getElem?_map, e, Option.map_some] at q
  cases hd : ds[i]? with
  | none => rw [hd] at q; cases q
  | some d =>
    rw [hd] at q
    obtain ⟨t, ex, ht⟩ := dec_some (Option.some.inj q)
    exact ⟨t, d, ex, rfl, ht⟩
theorem filterMap_some {α : Type} (l : List α) : (l.map some).filterMap id = l := by
  induction l with
  | nil => rfl
  | cons a r ih => simp [ih]
theorem map_some_of {α : Type} {l : List (Option α)} (h : ∀ x ∈ l, ∃ a, x = some a) : l = (l.filterMap id).map some := by
  induction l with
  | nil => rfl
  | cons a r ih =>
    obtain ⟨b, rfl⟩ := h a List.mem_cons_self
    have ih := ih fun x hx => h x (List.mem_cons_of_mem _ hx)
    rw [List.filterMap_cons]
    show some b :: r = some b :: (r.filterMap id).map some
    rw [← ih]
theorem Rows.perm {H : Hp} {xs ys : List V} {ds : List (List V)} (h : Rows H xs ds) (p : ys.Perm xs) : ∃ es, es.Perm ds ∧ Rows H ys es := by
  have q : (ys.map (dec H)).Perm (ds.map some) := by
    rw [← h]
    exact p.map _
  refine ⟨(ys.map (dec H)).filterMap id, ?_, map_some_of fun x hx => ?_⟩
  · have := q.filterMap id
    rwa [filterMap_some] at this
  · obtain ⟨d, _, e⟩ := List.mem_map.mp (q.mem_iff.mp hx)
    exact ⟨d, e.symm⟩
/-- pairs of texts -/
def prow (p : Str × Str) : List V := [.str p.1, .str p.2]
def trow (t : Str × Str × Int) : List V := [.str t.1, .str t.2.1, .int t.2.2]
def frow (f : Str × Int) : List V := [.str f.1, .int f.2]
theorem perm_map_inv {α β : Type} (f : α → β) {es : List β} {ps : List α} (h : es.Perm (ps.map f)) : ∃ qs : List α, qs.Perm ps ∧ es = qs.map f := by
  generalize e : ps.map f = l at h
  induction h generalizing ps with
  | nil => exact ⟨[], by rw [List.map_eq_nil_iff.mp e], rfl⟩
  | cons x _ ih =>
    cases ps with
    | nil => cases e
    | cons p r =>
      rw [List.map_cons] at e
      injection e with e1 e2
      obtain ⟨qs, h1, h2⟩ := ih e2
      exact ⟨p :: qs, h1.cons p, by rw [h2, ← e1]; rfl⟩
  | swap x y l =>
    match ps, e with
    | p :: q :: r, e =>
      rw [List.map_cons, List.map_cons] at e
      injection e with e1 e2
      injection e2 with e2 e3
      exact ⟨q :: p :: r, List.Perm.swap _ _ _, by rw [← e1, ← e2, ← e3]; rfl⟩
  | trans _ _ ih1 ih2 =>
    obtain ⟨qs, h1, h2⟩ := ih2 e
    obtain ⟨rs, h3, h4⟩ := ih1 h2.symm
    exact ⟨rs, h3.trans h1, h4⟩
theorem az9_lt : ∀ c ∈ AZ9, c < 1114112 := by decide +kernel
theorem strOk_name {z : Str} (h : nameB z = true) : PyData.strOk z = true := by
  have a := (nameL_of h).all
  show z.cps.all (· < 0x110000) = true
  rw [Array.all_eq_true_iff_forall_mem]
  exact fun c hc => decide_eq_true (az9_lt c (a c (Array.mem_toList_iff.mpr hc)))
theorem hu65 {k : Nat} {A : Around} (hr : Room k A) : A.units + 65 < cLine := by
  have := hr.un
  omega
/-- all ordered pairs of unlike names, the watched one outer -/
def prsIn (ns : List Str) (b : Str) : List (Str × Str) := (ns.filter fun a => !decide (a = b)).map fun a => (a, b)
def prs (ns : List Str) : List (Str × Str) := ns.flatMap (prsIn ns)
theorem mem_prs {ns : List Str} {a b : Str} : (a, b) ∈ prs ns ↔ a ∈ ns ∧ b ∈ ns ∧ a ≠ b := by
  unfold prs prsIn
  rw [List.mem_flatMap]
  constructor
  · rintro ⟨c, hc, h⟩
    obtain ⟨d, hd, e⟩ := List.mem_map.mp h
    cases e
    rw [List.mem_filter] at hd
    refine ⟨hd.1, hc, fun e => ?_⟩
    rw [decide_eq_true e] at hd
    cases hd.2
  · rintro ⟨ha, hb, h⟩
    exact ⟨b, hb, List.mem_map.mpr ⟨a, List.mem_filter.mpr ⟨ha, by rw [decide_eq_false h]; rfl⟩, rfl⟩⟩
end My
namespace My
open PySem PySem.Spec PyProof.Rows L2
section
variable {X : Cx} {K : PySem.W.Frag}
theorem ix_listK (h : X.K = K) : IxR X (rIxL K) := h ▸ ix_list
theorem ix_tupK (h : X.K = K) : IxR X (rIxT K) := h ▸ ix_tup
theorem ix_seqK (h : X.K = K) : IxR X (rIx K) := h ▸ ix_seq
theorem n_lenQK (h : X.K = K) : CallR X (.builtin "len") (rLenQ K) := h ▸ n_lenQ
theorem n_lenVK (h : X.K = K) : CallR X (.builtin "len") (rLenV K) := h ▸ n_lenV
theorem n_listK (h : X.K = K) : CallR X (.type "list") (rListOf K) := h ▸ n_list
theorem n_tupleK (h : X.K = K) : CallR X (.type "tuple") (rTupOf K) := h ▸ n_tuple
theorem cr_allK (h : X.K = K) (hc : X.calm = true) : CallR X (.builtin "all") (rAll K) := h ▸ cr_all hc
theorem sl_listK (h : X.K = K) : SlR X (rSlL K) := h ▸ sl_list
theorem sl_tupK (h : X.K = K) : SlR X (rSlT K) := h ▸ sl_tup
theorem op_in_seqK (h : X.K = K) : OpR X (compareOp .In) (rIn K false) := h ▸ op_in_seq
theorem op_notIn_seqK (h : X.K = K) : OpR X (compareOp .NotIn) (rIn K true) := h ▸ op_notIn_seq
theorem op_notInDK (h : X.K = K) (hu : X.A.units + 65 < cLine) : OpR X (compareOp .NotIn) (rNotInD K) := h ▸ op_notInD hu
theorem call_isiK (h : X.K = K) : CallR X (.builtin "isinstance") (rIsi K) := h ▸ call_isi
theorem call_isiTK (h : X.K = K) : CallR X (.builtin "isinstance") (rIsiT K) := h ▸ call_isiT
end
end My
namespace My
open PySem PySem.Spec PyProof.Rows L2
theorem cutV_to (xs : List V) (n : Nat) : cutV xs none (some (n : Int)) = xs.take n := by
  show (xs.drop (HT.sIx xs.length 0 none)).take (HT.sIx xs.length xs.length (some (n : Int)) - HT.sIx xs.length 0 none) = _
  rw [HT.sIx_nat, HT.sIx_none]
  show (xs.drop 0).take (min n xs.length - 0) = xs.take n
  rw [List.drop_zero, Nat.sub_zero]
  rcases Nat.le_total n xs.length with h | h
  · rw [Nat.min_eq_left h]
  · rw [Nat.min_eq_right h, List.take_of_length_le (by omega), List.take_of_length_le (by omega)]
theorem map_erase {α β : Type} (f : α → β) : ∀ (l : List α) (i : Nat), (l.eraseIdx i).map f = (l.map f).eraseIdx i
  | [], _ => rfl
  | _ :: _, 0 => rfl
  | a :: r, i + 1 => by
    show f a :: (r.eraseIdx i).map f = f a :: (r.map f).eraseIdx i
    rw [map_erase f r i]
theorem Rows.erase {H : Hp} {xs : List V} {ds : List (List V)} (h : Rows H xs ds) (i : Nat) : Rows H (xs.eraseIdx i) (ds.eraseIdx i) := by
  unfold Rows at *
  rw [map_erase, h, ← map_erase]
theorem Rows.take {H : Hp} {xs : List V} {ds : List (List V)} (h : Rows H xs ds) (i : Nat) : Rows H (xs.take i) (ds.take i) := by
  unfold Rows at *
  rw [List.map_take, h, List.map_take]
/-- the i-th name -/
def nth (ns : List Str) (i : Nat) : Str := (ns[i]?).getD ⟨#[]⟩
theorem nth_get {ns : List Str} {i : Nat} (h : i < ns.length) : ns[i]? = some (nth ns i) := by
  unfold nth
  rw [List.getElem?_eq_getElem h]
  rfl
theorem nth_mem {ns : List Str} {i : Nat} (h : i < ns.length) : nth ns i ∈ ns := List.mem_of_getElem? (nth_get h)
theorem at_nth {ns : List Str} {i : Nat} (h : i < ns.length) : atI (ns.map V.str) (i : Int) = some (.str (nth ns i)) := at_of rfl (by rw [List.getElem?_map, nth_get h]; rfl)
end My
namespace My
open PySem PySem.Spec PyProof.Rows L2
def iAny (K : PySem.W.Frag) (te : TE) : TI := fun σ H R => iList K te σ H R ∨ iTup K te σ H R
theorem pi_any {X : Cx} {K : PySem.W.Frag} {tg l : Expr} {te : TE} (h : X.K = K) (hl : PE X l te) : PI X tg l (iAny K te) := by
  subst h
  refine ⟨fun pins s σ H R I q => ?_⟩
  rcases q with q | q
  · exact (pi_list hl).run pins s σ H R I q
  · exact (pi_tup hl).run pins s σ H R I q
section
variable {K : PySem.W.Frag} {σ : L2.St} {H : Hp} {Q : VK} {ta te : TE} {nx bk ct : L2.St → Hp → Prop} {rt : VK}
theorem i_lcAL {g : TG} {tt : TT} {vs : List Nat} (q : tLc (iList K ta) g tt te vs σ H Q) : tLc (iAny K ta) g tt te vs σ H Q := .inl q
theorem i_lcAT {g : TG} {tt : TT} {vs : List Nat} (q : tLc (iTup K ta) g tt te vs σ H Q) : tLc (iAny K ta) g tt te vs σ H Q := .inr q
theorem i_forAL {g : TG} {tb : TS} (q : tFor (iList K te) g tb ⟨nx, rt, bk, ct⟩ σ H) : tFor (iAny K te) g tb ⟨nx, rt, bk, ct⟩ σ H := .inl q
theorem i_forAT {g : TG} {tb : TS} (q : tFor (iTup K te) g tb ⟨nx, rt, bk, ct⟩ σ H) : tFor (iAny K te) g tb ⟨nx, rt, bk, ct⟩ σ H := .inr q
def CT (K : PySem.W.Frag) (g : TG) (tt : TT) (te : TE) (vs : List Nat) (σ : L2.St) (Q : VK) : V → Hp → Prop := fun x H1 => tLc (iTup K fun _ H R => R x H) g tt te vs σ H1 Q
theorem i_lcT {g : TG} {tt : TT} {vs : List Nat} (q : ta σ H fun x H1 => CT K g tt te vs σ Q x H1) : tLc (iTup K ta) g tt te vs σ H Q := q
instance {g : TG} {tt : TT} {vs : List Nat} : Nx (tLc (iTup K ta) g tt te vs σ H Q) (ta σ H fun x H1 => CT K g tt te vs σ Q x H1) := ⟨i_lcT⟩
theorem ct_ {j : Nat} {tt : TT} {vs : List Nat} {a : Addr} {xs : List V} (h : SqT K H a xs) (Pv : Addr → Nat → Hp → Prop) (p0 : ∀ D, H D = none → Pv D 0 (upd H D (.lst []))) (hl : ∀ D i H', H D = none → i ≤ xs.length → Pv D i H' → SqT K H' a xs)
    (ps : ∀ D i x H', H D = none → xs[i]? = some x → Pv D i H' → LT j tt te vs σ D (Pv D (i + 1)) x H') (pd : ∀ D H', H D = none → Pv D xs.length H' → Q (.ref D) H') : CT K (gName j) tt te vs σ Q (.ref a) H :=
  ⟨a, rfl, ⟨xs, h⟩, fun D hD => lc_tup (xs := xs) (Pv D) (p0 D hD) (fun i H' hi p => hl D i H' hD hi p) (fun i x H' hx p => ps D i x H' hD hx p) fun H' p => pd D H' hD p⟩
/-- over a tuple with a target of names -/
theorem ct_g {g : TG} {tt : TT} {vs : List Nat} {a : Addr} {xs : List V} (h : SqT K H a xs) (Pv : Addr → Nat → Hp → Prop) (p0 : ∀ D, H D = none → Pv D 0 (upd H D (.lst []))) (hl : ∀ D i H', H D = none → i ≤ xs.length → Pv D i H' → SqT K H' a xs)
    (ps : ∀ D i x H', H D = none → xs[i]? = some x → Pv D i H' → g x (wipe σ vs) H' fun σ2 H2 => wipe σ2 vs = wipe σ vs ∧ tt σ2 H2 fun b H3 => if b = true then te σ2 H3 fun y H4 => ∃ acc, H4 D = some (.lst acc) ∧ acc.length < sizeLine ∧ Pv D (i + 1) (upd H4 D (.lst (acc ++ [y]))) else Pv D (i + 1) H3) (pd : ∀ D H', H D = none → Pv D xs.length H' → Q (.ref D) H') : CT K g tt te vs σ Q (.ref a) H :=
  ⟨a, rfl, ⟨xs, h⟩, fun D hD => lc_tup (xs := xs) (Pv D) (p0 D hD) (fun i H' hi p => hl D i H' hD hi p) (fun i x H' hx p => ps D i x H' hD hx p) fun H' p => pd D H' hD p⟩
def FT (K : PySem.W.Frag) (g : TG) (tb : TS) (nx : L2.St → Hp → Prop) (rt : VK) (σ : L2.St) : V → Hp → Prop := fun x H1 => tFor (iTup K fun _ H R => R x H) g tb ⟨nx, rt, fun _ _ => False, fun _ _ => False⟩ σ H1
theorem i_forT {g : TG} {tb : TS} (q : te σ H fun x H1 => FT K g tb nx rt σ x H1) : tFor (iTup K te) g tb ⟨nx, rt, bk, ct⟩ σ H := q
instance {g : TG} {tb : TS} : Nx (tFor (iTup K te) g tb ⟨nx, rt, bk, ct⟩ σ H) (te σ H fun x H1 => FT K g tb nx rt σ x H1) := ⟨i_forT⟩
theorem ft {g : TG} {tb : TS} {a : Addr} {xs : List V} (h : SqT K H a xs) (Pv : Nat → L2.St → Hp → Prop) (p0 : Pv 0 σ H) (hl : ∀ i σ' H', i ≤ xs.length → Pv i σ' H' → SqT K H' a xs)
    (ps : ∀ i x σ' H', xs[i]? = some x → Pv i σ' H' → g x σ' H' fun σ2 H2 => tb ⟨Pv (i + 1), rt, nx, Pv (i + 1)⟩ σ2 H2) (pd : ∀ σ' H', Pv xs.length σ' H' → nx σ' H') : FT K g tb nx rt σ (.ref a) H :=
  ⟨a, rfl, ⟨xs, h⟩, for_tup (D := ⟨nx, rt, fun _ _ => False, fun _ _ => False⟩) (xs := xs) Pv p0 hl ps pd⟩
end
inductive Dt where
  | str (z : Str) | int (i : Int) | bl (b : Bool) | seq (ds : List Dt)
inductive Rp (P : Addr → Prop) (H : Hp) : Nat → Dt → V → Prop
  | str (n : Nat) (z : Str) : Rp P H n (.str z) (.str z)
  | int (n : Nat) (i : Int) : Rp P H n (.int i) (.int i)
  | bl (n : Nat) (b : Bool) : Rp P H n (.bl b) (.bl b)
  | lst {n : Nat} {ds : List Dt} {vs : List V} {a : Addr} (ha : H a = some (.lst vs)) (pa : P a) (hl : vs.length = ds.length) (hz : vs.length ≤ 1000) (h : ∀ (i : Nat) (d : Dt) (v : V), ds[i]? = some d → vs[i]? = some v → Rp P H n d v) : Rp P H (n + 1) (.seq ds) (.ref a)
  | tup {n : Nat} {ds : List Dt} {vs : List V} {a : Addr} (ha : H a = some (.tup vs)) (hl : vs.length = ds.length) (hz : vs.length ≤ 1000) (h : ∀ (i : Nat) (d : Dt) (v : V), ds[i]? = some d → vs[i]? = some v → Rp P H n d v) : Rp P H (n + 1) (.seq ds) (.ref a)
theorem Rp.keep {P P' : Addr → Prop} {H H' : Hp} (hp : ∀ a, P a → P' a) (kl : ∀ a xs, P a → H a = some (.lst xs) → H' a = some (.lst xs)) (kt : Tk H H') : ∀ {n : Nat} {d : Dt} {v : V}, Rp P H n d v → Rp P' H' n d v := by
  intro n d v h
  induction h with
  | str n z => exact .str n z
  | int n i => exact .int n i
  | bl n b => exact .bl n b
  | lst ha pa hl hz _ ih => exact .lst (kl _ _ pa ha) (hp _ pa) hl hz ih
  | tup ha hl hz _ ih => exact .tup (kt _ _ ha) hl hz ih
theorem Rp.same {P : Addr → Prop} {H H' : Hp} (k : Same H H') {n : Nat} {d : Dt} {v : V} (h : Rp P H n d v) : Rp P H' n d v := h.keep (fun _ p => p) (fun a xs _ e => k _ _ e) (Tk.same k)
/-- what the clearing of lists leaves -/
inductive Sh (P : Addr → Prop) (H : Hp) : Nat → V → Prop
  | str (n : Nat) (z : Str) : Sh P H n (.str z)
  | int (n : Nat) (i : Int) : Sh P H n (.int i)
  | bl (n : Nat) (b : Bool) : Sh P H n (.bl b)
  | lst {n : Nat} {vs : List V} {a : Addr} (ha : H a = some (.lst vs)) (pa : P a) (h : ∀ v ∈ vs, Sh P H n v) : Sh P H (n + 1) (.ref a)
  | tup {n : Nat} {vs : List V} {a : Addr} (ha : H a = some (.tup vs)) (h : ∀ v ∈ vs, Sh P H n v) : Sh P H (n + 1) (.ref a)
/-- lists at P may have been cleared, all else stands -/
structure Cl (P : Addr → Prop) (H H' : Hp) : Prop where
  keep : ∀ b o, H b = some o → ¬ P b → H' b = some o
  tk : Tk H H'
  lst : ∀ b xs, P b → H b = some (.lst xs) → H' b = some (.lst xs) ∨ H' b = some (.lst [])
theorem Cl.refl {P : Addr → Prop} {H : Hp} : Cl P H H := ⟨fun _ _ h _ => h, Tk.refl, fun _ _ _ h => .inl h⟩
theorem Cl.trans {P : Addr → Prop} {H H1 H2 : Hp} (a : Cl P H H1) (b : Cl P H1 H2) : Cl P H H2 := ⟨fun c o h n => b.keep c o (a.keep c o h n) n, a.tk.trans b.tk, fun c xs p h => by
  rcases a.lst c xs p h with e | e
  · exact b.lst c xs p e
  · rcases b.lst c [] p e with e | e
    · exact .inr e
    · exact .inr e⟩
theorem Cl.same {P : Addr → Prop} {H H1 : Hp} (s : Same H H1) : Cl P H H1 := ⟨fun _ _ h _ => s _ _ h, Tk.same s, fun _ _ _ h => .inl (s _ _ h)⟩
theorem Sh.keep {P : Addr → Prop} {H H' : Hp} (c : Cl P H H') {n : Nat} {v : V} (h : Sh P H n v) : Sh P H' n v := by
  induction h with
  | str n z => exact .str n z
  | int n i => exact .int n i
  | bl n b => exact .bl n b
  | lst ha pa _ ih =>
    rcases c.lst _ _ pa ha with e | e
    · exact .lst e pa ih
    · exact .lst e pa fun v hv => nomatch hv
  | tup ha _ ih => exact .tup (c.tk _ _ ha) ih
theorem rd_same {H H' : Hp} {a : Addr} {u : HO} (k : Same H H') (h : Rd H a u) : Rd H' a u := by
  rcases h with h | ⟨o, h⟩
  · exact .inl (k _ _ h)
  · exact .inr ⟨o, k _ _ h⟩
theorem sqR {K : PySem.W.Frag} {H : Hp} {a : Addr} {xs : List V} (h : Rd H a (.tup xs)) : SqT K H a xs := .inl h
theorem ty_rd {K : PySem.W.Frag} {H : Hp} {a : Addr} {xs : List V} (h : Rd H a (.tup xs)) : TyX K H (.ref a) (.type "tuple") := by
  rcases h with h | ⟨o, h⟩
  · exact .base (.tup h)
  · exact .fTuple h
inductive Sm (H : Hp) : Nat → V → V → Prop
  | bl (n : Nat) (b : Bool) : Sm H n (.bl b) (.bl b)
  | int (n : Nat) (i : Int) : Sm H n (.int i) (.int i)
  | str (n : Nat) (z : Str) : Sm H n (.str z) (.str z)
  | non (n : Nat) : Sm H n .non .non
  | lst {n : Nat} {a b : Addr} {xs ys : List V} (ha : H a = some (.lst xs)) (hb : H b = some (.lst ys)) (hl : ys.length = xs.length) (hz : xs.length ≤ 100000) (h : ∀ (i : Nat) (x y : V), xs[i]? = some x → ys[i]? = some y → Sm H n x y) : Sm H (n + 1) (.ref a) (.ref b)
  | tup {n : Nat} {a b : Addr} {xs ys : List V} (ha : Rd H a (.tup xs)) (hb : Rd H b (.tup ys)) (hl : ys.length = xs.length) (hz : xs.length ≤ 100000) (h : ∀ (i : Nat) (x y : V), xs[i]? = some x → ys[i]? = some y → Sm H n x y) : Sm H (n + 1) (.ref a) (.ref b)
theorem Sm.keep {H H' : Hp} (k : Same H H') : ∀ {n : Nat} {x y : V}, Sm H n x y → Sm H' n x y := by
  intro n x y h
  induction h with
  | bl n b => exact .bl n b
  | int n i => exact .int n i
  | str n i => exact .str n i
  | non n => exact .non n
  | lst ha hb hl hz _ ih => exact .lst (k _ _ ha) (k _ _ hb) hl hz ih
  | tup ha hb hl hz _ ih => exact .tup (rd_same k ha) (rd_same k hb) hl hz ih
end My
namespace My
open PySem PySem.Spec PyProof.Rows L2
theorem list_endT {K : PySem.W.Frag} {H : Hp} {Q : VK} {p : Addr} {ys : List V} (h : SqT K H p ys) (k : ∀ l H1, H l = none → Same H H1 → H1 l = some (.lst ys) → Q (.ref l) H1) : rListOf K [.ref p] H Q := ⟨p, ys, rfl, .inr h, fun l hl => k l _ hl (same_new hl) upd_same⟩
end My
namespace My
open PySem PySem.Spec PyProof.Rows L2
/-- the address that a name of the top has in the written part -/
def gad (K : PySem.W.Frag) (x : Str) : Addr := match PySem.W.nsIn K mainGlobals x with
  | some (some (.ref a)) => a
  | _ => 0
theorem gad_of {K : PySem.W.Frag} {x : Str} {a : Addr} (h : PySem.W.nsIn K mainGlobals x = some (some (.ref a))) : gad K x = a := by
  unfold gad
  rw [h]
/-- a def of a class -/
structure Dm (K : PySem.W.Frag) (x qual : Str) (st : Stmt) (ps : List Str) (f : Addr) (fd : FuncData) : Prop where
  F : Fun K x qual st f fd
  b : Binds K fd ps []
/-- an own error class with its own __init__ -/
structure Dx (K : PySem.W.Frag) (mg : Str → Option Value) (x : Str) (C fI : Addr) (fs : List Str) : Prop where
  g : mg x = some (.ref C)
  oex : OexC K C
  iC : PySem.W.findIn K (.ref C) "__init__" = some (some (.ref fI))
  tI : PySem.W.typeIn K (.ref fI) = some (.type "function")
  no : ∀ f ∈ fs, PySem.W.findIn K (.ref C) f = some none
def atomB : V → Bool
  | .str _ => true
  | .int _ => true
  | .bl _ => true
  | _ => false
/-- what plain takes, and what it gives -/
def Pl (H : Hp) (v : V) : Prop := atomB v = true ∨ ∃ (p : Addr) (xs : List V), v = .ref p ∧ (H p = some (.lst xs) ∨ H p = some (.tup xs)) ∧ xs.length ≤ 1000 ∧ ∀ x ∈ xs, atomB x = true
def PlT (H : Hp) (v : V) (H' : Hp) (v' : V) : Prop := (atomB v = true ∧ v' = v) ∨ ∃ (p : Addr) (xs : List V) (q : Addr), v = .ref p ∧ (H p = some (.lst xs) ∨ H p = some (.tup xs)) ∧ v' = .ref q ∧ H' q = some (.tup xs)
theorem Pl.same {H H' : Hp} {v : V} (h : Pl H v) (s : Same H H') : Pl H' v := by
  rcases h with h | ⟨p, xs, e, hp, hl, hx⟩
  · exact .inl h
  · exact .inr ⟨p, xs, e, hp.imp (s _ _) (s _ _), hl, hx⟩
theorem PlT.str {H H' : Hp} {a : Str} {v' : V} (h : PlT H (.str a) H' v') : v' = .str a := by
  rcases h with ⟨_, h⟩ | ⟨_, _, _, h, _⟩
  · exact h
  · cases h
theorem PlT.int {H H' : Hp} {a : Int} {v' : V} (h : PlT H (.int a) H' v') : v' = .int a := by
  rcases h with ⟨_, h⟩ | ⟨_, _, _, h, _⟩
  · exact h
  · cases h
def OstEnd (K : PySem.W.Frag) (f : Str) (y : V) (nx : L2.St → Hp → Prop) (σ : L2.St) (x : V) (H2 : Hp) : Prop := ∃ a C : Addr, x = .ref a ∧ OexC K C ∧ PySem.W.findIn K (.ref C) f = some none ∧
  ((H2 a = some (exo a C none) ∧ ∀ dx, H2 dx = none → dx ≠ a → nx σ (upd (upd H2 dx (exd dx [(f, y)])) a (exo a C (some dx)))) ∨
    ∃ (dx : Addr) (fs : List (Str × V)), H2 a = some (exo a C (some dx)) ∧ H2 dx = some (exd dx fs) ∧ fs.length ≤ 900 ∧ nx σ (upd H2 dx (exd dx ((f, y) :: fs))))
section
variable {K : PySem.W.Frag} {σ : L2.St} {H : Hp} {Q : VK} {to te : TE} {f : Str} {nx bk ct : L2.St → Hp → Prop} {rt : VK}
theorem ps_ostK {X : Cx} {o e : Expr} {p' pos : Pos} (hK : X.K = K) (ho : PE X o to) (he : PE X e te) (hs : swapsWith e (some (.Attribute o f p')) pos.line X.env = pure false := by rfl) : PS X (.Assign [.Attribute o f p'] e pos) (tOst K f to te) := hK ▸ ps_ost ho he hs
theorem i_ost (q : te σ H fun y H1 => to σ H1 fun x H2 => OstEnd K f y nx σ x H2) : tOst K f to te ⟨nx, rt, bk, ct⟩ σ H := q
theorem ost_first {a C : Addr} {y : V} (hC : OexC K C) (hno : PySem.W.findIn K (.ref C) f = some none) (e : H a = some (exo a C none)) (q : ∀ dx, H dx = none → dx ≠ a → nx σ (upd (upd H dx (exd dx [(f, y)])) a (exo a C (some dx)))) : OstEnd K f y nx σ (.ref a) H := ⟨a, C, rfl, hC, hno, .inl ⟨e, q⟩⟩
theorem ost_next {a C dx : Addr} {fs : List (Str × V)} {y : V} (hC : OexC K C) (hno : PySem.W.findIn K (.ref C) f = some none) (e : H a = some (exo a C (some dx))) (ed : H dx = some (exd dx fs)) (hl : fs.length ≤ 900) (q : nx σ (upd H dx (exd dx ((f, y) :: fs)))) : OstEnd K f y nx σ (.ref a) H := ⟨a, C, rfl, hC, hno, .inr ⟨dx, fs, e, ed, hl, q⟩⟩
end
/-- an __init__ that writes one field -/
def spInit1 (f : Str) (K : PySem.W.Frag) : Sp := fun vs H Q _ => ∃ (a C : Addr) (v : V), vs = [.ref a, v] ∧ OexC K C ∧ PySem.W.findIn K (.ref C) f = some none ∧ H a = some (exo a C none) ∧ Pl H v ∧
  ∀ v' dx H', H dx = none → H' a = some (exo a C (some dx)) → H' dx = some (exd dx [(f, v')]) → PlT H v H' v' → (∀ b o, b ≠ a → H b = some o → H' b = some o) → Q .non H'
/-- an __init__ that writes two fields -/
def spInit2 (f g : Str) (K : PySem.W.Frag) : Sp := fun vs H Q _ => ∃ (a C : Addr) (v u : V), vs = [.ref a, v, u] ∧ OexC K C ∧ PySem.W.findIn K (.ref C) f = some none ∧ PySem.W.findIn K (.ref C) g = some none ∧ H a = some (exo a C none) ∧ atomB v = true ∧ atomB u = true ∧
  ∀ dx H', H dx = none → H' a = some (exo a C (some dx)) → H' dx = some (exd dx [(g, u), (f, v)]) → (∀ b o, b ≠ a → H b = some o → H' b = some o) → Q .non H'
def MkEnd (C : Addr) (sp : Sp) (dvs : List V) (Q : XK) (vs : List V) (H1 : Hp) : Prop := vs.length ≤ 1000 ∧ ∀ a, H1 a = none → sp (.ref a :: (vs ++ dvs)) (upd H1 a (exo a C none))
  (fun v H2 => v = .non ∧ ∃ (d : Addr) (fs : List (Str × V)), H2 a = some (exo a C (some d)) ∧ H2 d = some (exd d fs) ∧ H1 d = none ∧ Q (.ref C) (some d) (upd (del H2 a) d (.xd fs))) (fun _ _ _ => False)
theorem mk1 {K : PySem.W.Frag} {C : Addr} {f : Str} {v : V} {H : Hp} {Q : XK} (hC : OexC K C) (hno : PySem.W.findIn K (.ref C) f = some none) (hv : Pl H v)
    (k : ∀ v' d H', H d = none → H' d = some (.xd [(f, v')]) → PlT H v H' v' → Same H H' → Q (.ref C) (some d) H') : MkEnd C (spInit1 f K) [] Q [v] H := by
  refine ⟨(by show 1 ≤ 1000; decide), fun a ha => ⟨a, C, v, rfl, hC, hno, upd_same, hv.same (same_new ha), fun v' dx H' hd ea ed pt keep => ⟨rfl, dx, _, ea, ed, ?_, ?_⟩⟩⟩
  · by_cases e : dx = a
    · rw [e, upd_same] at hd
      cases hd
    · rw [upd_ne e] at hd
      exact hd
  · have na : dx ≠ a := fun e => by
      rw [e, upd_same] at hd
      cases hd
    have hd' : H dx = none := by
      rw [upd_ne na] at hd
      exact hd
    refine k v' dx _ hd' upd_same ?_ fun b o hb => ?_
    · rcases pt with pt | ⟨p, xs, q, e, hp, e', hq⟩
      · exact .inl pt
      · have pa : p ≠ a := fun z => by
          rw [z, upd_same] at hp
          rcases hp with hp | hp
          · have z' : exo a C none = HO.lst xs := Option.some.inj hp
            cases z'
          · exact exo_tup (Option.some.inj hp)
        rw [upd_ne pa] at hp
        refine .inr ⟨p, xs, q, e, hp, e', ?_⟩
        rw [upd_ne (at_ne ed hq exd_tup), del_ne (at_ne ea hq exo_tup)]
        exact hq
    · have nb : b ≠ a := fun z => by
        rw [z, ha] at hb
        cases hb
      rw [upd_ne (ne_of_none hb hd'), del_ne nb]
      exact keep b o nb (by rw [upd_ne nb]; exact hb)
theorem mk2 {K : PySem.W.Frag} {C : Addr} {f g : Str} {v u : V} {H : Hp} {Q : XK} (hC : OexC K C) (hf : PySem.W.findIn K (.ref C) f = some none) (hg : PySem.W.findIn K (.ref C) g = some none) (hv : atomB v = true) (hu : atomB u = true)
    (k : ∀ d H', H d = none → H' d = some (.xd [(g, u), (f, v)]) → Same H H' → Q (.ref C) (some d) H') : MkEnd C (spInit2 f g K) [] Q [v, u] H := by
  refine ⟨(by show 2 ≤ 1000; decide), fun a ha => ⟨a, C, v, u, rfl, hC, hf, hg, upd_same, hv, hu, fun dx H' hd ea ed keep => ⟨rfl, dx, _, ea, ed, ?_, ?_⟩⟩⟩
  · by_cases e : dx = a
    · rw [e, upd_same] at hd
      cases hd
    · rw [upd_ne e] at hd
      exact hd
  · have na : dx ≠ a := fun e => by
      rw [e, upd_same] at hd
      cases hd
    have hd' : H dx = none := by
      rw [upd_ne na] at hd
      exact hd
    refine k dx _ hd' upd_same fun b o hb => ?_
    have nb : b ≠ a := fun z => by
      rw [z, ha] at hb
      cases hb
    rw [upd_ne (ne_of_none hb hd'), del_ne nb]
    exact keep b o nb (by rw [upd_ne nb]; exact hb)
end My
namespace My
open PySem PySem.Spec PyProof.Rows L2
def plc (ns : List Str) (z : Str) : Nat := ns.findIdx fun x => decide (x = z)
theorem plc_lt {ns : List Str} {z : Str} (h : z ∈ ns) : plc ns z < ns.length := List.findIdx_lt_length_of_exists ⟨z, h, decide_eq_true rfl⟩
theorem plc_at {ns : List Str} {z : Str} (h : z ∈ ns) : ns[plc ns z]? = some z := by
  have hl := plc_lt h
  have e := List.findIdx_getElem (p := fun x : Str => decide (x = z)) (xs := ns) (w := hl)
  rw [List.getElem?_eq_getElem hl]
  exact congrArg some (of_decide_eq_true e)
theorem plc_no {ns : List Str} {z : Str} {m : Nat} (h : m < plc ns z) : ns[m]? ≠ some z := fun e => by
  have hn := List.not_of_lt_findIdx (p := fun x : Str => decide (x = z)) (xs := ns) h
  obtain ⟨hl, e⟩ := List.getElem?_eq_some_iff.mp e
  exact of_decide_eq_false hn e
def rTupIdx (K : PySem.W.Frag) : V → List V → Hp → VK → Prop := fun x xs H Q => ∃ p, ∃ ys : List Str, ∃ z j, x = .ref p ∧ xs = [.str z] ∧ SqT K H p (ys.map V.str) ∧ ys[j]? = some z ∧ (∀ m, m < j → ys[m]? ≠ some z) ∧ Q (.int (j : Nat)) H
theorem mt_tupIdxK {X : Cx} {K : PySem.W.Frag} (h : X.K = K) : MtR X "tuple.index" (rTupIdx K) := h ▸ mt_tup_index
theorem i_tupIdx {K : PySem.W.Frag} {H : Hp} {Q : VK} {p : Addr} {ns : List Str} {z : Str} (hs : SqT K H p (ns.map V.str)) (hz : z ∈ ns) (q : Q (.int (plc ns z : Nat)) H) : rTupIdx K (.ref p) [.str z] H Q :=
  ⟨p, ns, z, plc ns z, rfl, rfl, hs, plc_at hz, fun _ h => plc_no h, q⟩
def rTupF (K : PySem.W.Frag) : List V → Hp → VK → Prop := fun xs H Q => ∃ p ys, xs = [.ref p] ∧ SqL K H p ys ∧ ∀ (l : Addr) (o : Obj), H l = none → o.dict = none → Q (.ref l) (upd H l (.frz o (.tup ys)))
theorem n_tupF {X : Cx} {K : PySem.W.Frag} (h : X.K = K) : CallR X (.type "tuple") (rTupF K) := by
  subst h
  intro pins s σ H xs us Q I r h
  obtain ⟨p, ys, rfl, hq, q⟩ := h
  obtain ⟨u, rfl, rx⟩ := vals1 r
  cases rx
  obtain ⟨its, r', pl, hz⟩ := I.list hq
  have hlen := r'.length
  refine call_tuple_list pl.isList (fun h' kp => ?_) (by simp only [List.size_toArray] <;> omega)
  have I1 : Inv X pins σ H { s with heap := h' } := I.kept (t' := s.toks) kp
  have I2 := I1.laid (t' := s.toks) (a := h'.objs.size) (o := .frz { cls := .type "tuple", data := .seq its.toArray } (.tup ys)) (h' := h'.push { cls := .type "tuple", data := .seq its.toArray }) (fun b o e => Heap.get?_push_of_some _ e) (Nat.le_refl _)
    ⟨Heap.get?_push_size _ rfl, show ObjOk X.prog X.w _ _ _ (.tup ys) from ⟨hz, its, r', IsTup.new _ _⟩⟩
  exact ⟨.ref h'.objs.size, _, I2, rfl, q _ _ (I1.hok.fresh (Nat.le_refl _)) rfl⟩
theorem tupF_end {K : PySem.W.Frag} {H : Hp} {Q : VK} {p : Addr} {ys : List V} (h : SqL K H p ys) (k : ∀ (l : Addr) (o : Obj) H1, H l = none → o.dict = none → Same H H1 → H1 l = some (.frz o (.tup ys)) → Q (.ref l) H1) : rTupF K [.ref p] H Q := ⟨p, ys, rfl, h, fun l o hl ho => k l o _ hl ho (same_new hl) upd_same⟩
/-- a tuple of texts that can be asked for places -/
def Nt (H : Hp) (p : Addr) (ns : List Str) : Prop := ∃ o : Obj, H p = some (.frz o (.tup (ns.map V.str))) ∧ o.dict = none
theorem Nt.same {H H' : Hp} {p : Addr} {ns : List Str} (h : Nt H p ns) (s : Same H H') : Nt H' p ns := by
  obtain ⟨o, h1, h2⟩ := h
  exact ⟨o, s _ _ h1, h2⟩
theorem Nt.rd {H : Hp} {p : Addr} {ns : List Str} (h : Nt H p ns) : Rd H p (.tup (ns.map V.str)) := by
  obtain ⟨o, h1, h2⟩ := h
  exact .inr ⟨o, h1⟩
theorem Nt.sq {K : PySem.W.Frag} {H : Hp} {p : Addr} {ns : List Str} (h : Nt H p ns) : SqT K H p (ns.map V.str) := .inl h.rd
def tBMF (r : V → List V → Hp → VK → Prop) (to : TE) (t : TA) : TE := fun σ H Q => to σ H fun x H1 => (∃ (p : Addr) (o : Obj) (ys : List V), x = .ref p ∧ H1 p = some (.frz o (.tup ys)) ∧ o.dict = none) ∧ t σ H1 fun xs H2 => r x xs H2 Q
section
variable {X : Cx} {o e : Expr} {es : List Expr} {to : TE} {t : TA} {name : Str} {apos cpos : Pos} {id : String} {r : V → List V → Hp → VK → Prop}
theorem pe_bmF (pa : PlainAttrs "tuple") (slot : Slot "tuple" name id) (hty : typeOf (.builtin id) = pure (.type "method_descriptor")) (hm : MtR X id r) (ho : PE X o to) (ha : PA X (e :: es) t)
    (hbase : attributeBase o name X.env (eval o X.env) = eval o X.env := by rfl)
    (hfew : ((backTo cpos (starEach (e :: es) X.env)).all (fun x => !x.1) && (backToKw cpos (keywordEach [] X.env)).all (fun x => x.1.isSome)
      && decide ((e :: es).length + ([] : List Keyword).length + (if ([] : List Keyword).isEmpty then 0 else 1) < 30)) = true := by rfl)
    (hline : (apos.endLine == cpos.line) = true := by rfl) (hs : starEach (e :: es) X.env = (false, eval e X.env) :: starEach es X.env := by rfl) (hplain : (backTo cpos (starEach es X.env)).any (·.1) = false := by rfl) :
    PE X (.Call (.Attribute o name apos) (e :: es) [] cpos) (tBMF r to t) := by
  refine ⟨fun pins s σ H Q I h => ?_⟩
  refine wpAny_Call_method_late hbase hfew hline rfl (thn (ho.run pins s σ H _ I h) fun v s1 ⟨x, H1, I1, r1, ty, q1⟩ => ?_)
  obtain ⟨p, ob, ys, rfl, hp, hd⟩ := ty
  cases r1
  have z : ObjOk X.prog X.w H1 s1.heap p (.frz ob (.tup ys)) := I1.hok p _ hp
  obtain ⟨z1, _, its, _, o2, e2, c2, _⟩ := z
  have eo : o2 = ob := Option.some.inj (e2.symm.trans z1)
  subst eo
  refine ⟨"tuple", id, pa, slot, hty, ⟨o2, e2, c2⟩, fun a ea => by cases ea; exact ⟨o2, e2, hd⟩, ?_⟩
  have hA := ha.run cpos pins s1 σ H1 _ I1 q1
  rw [hs] at hA ⊢
  refine Calls.callWith_builtin (by show (false || (backTo cpos (starEach es X.env)).any (·.1)) = false; rw [hplain] <;> rfl) (Calls.evalArgs_plain ?_)
  exact thn hA fun us s2 ⟨vs, H2, I2, r2, q2⟩ => hm pins s2 σ H2 (.ref p) vs (.ref p) us Q I2 rfl r2 q2
theorem i_bmF {σ : L2.St} {H : Hp} {Q : VK} (q : to σ H fun x H1 => (∃ (p : Addr) (o : Obj) (ys : List V), x = .ref p ∧ H1 p = some (.frz o (.tup ys)) ∧ o.dict = none) ∧ t σ H1 fun xs H2 => r x xs H2 Q) : tBMF r to t σ H Q := q
end
theorem Nt.bm {H : Hp} {p : Addr} {ns : List Str} {A : Prop} (h : Nt H p ns) (q : A) : (∃ (p' : Addr) (o : Obj) (ys : List V), V.ref p = .ref p' ∧ H p' = some (.frz o (.tup ys)) ∧ o.dict = none) ∧ A := by
  obtain ⟨o, h1, h2⟩ := h
  exact ⟨⟨p, o, _, rfl, h1, h2⟩, q⟩
theorem i_mk {C : Addr} {sp : Sp} {dvs : List V} {ta : TA} {σ : L2.St} {H : Hp} {Q : XK} (q : ta σ H fun vs H1 => MkEnd C sp dvs Q vs H1) : tMkO C sp dvs ta σ H Q := q
instance {C : Addr} {sp : Sp} {dvs : List V} {ta : TA} {σ : L2.St} {H : Hp} {Q : XK} : Nx (tMkO C sp dvs ta σ H Q) (ta σ H fun vs H1 => MkEnd C sp dvs Q vs H1) := ⟨i_mk⟩
theorem mkA {K : PySem.W.Frag} {C : Addr} {f : Str} {v : V} {H : Hp} {Q : XK} (hC : OexC K C) (hno : PySem.W.findIn K (.ref C) f = some none) (hv : atomB v = true)
    (k : ∀ d H', H d = none → H' d = some (.xd [(f, v)]) → Same H H' → Q (.ref C) (some d) H') : MkEnd C (spInit1 f K) [] Q [v] H :=
  mk1 hC hno (.inl hv) fun v' d H' hd ed pt s => by
    rcases pt with ⟨_, rfl⟩ | ⟨_, _, _, rfl, _⟩
    · exact k d H' hd ed s
    · exact Bool.noConfusion hv
end My
namespace My
open PySem PySem.Spec PyProof.Rows L2
def gAny (K : PySem.W.Frag) (n : Nat) (t : TGs) : TG := fun v σ H Q => gLst K n t v σ H Q ∨ gTup K n t v σ H Q
theorem pg_any {X : Cx} {pos : Pos} {es : List Expr} {k : Nat} {t : TGs} {n : Nat} (hc : X.calm = true) (h : PGs X es t)
    (hn : (assignEach es X.env).length = n := by rfl) (hst : (assignEach es X.env).findIdx? (·.1) = none := by rfl) : PG X (.Tuple es k pos) (gAny X.K n t) := by
  exact ⟨fun pins s σ H v u Q I r hw => hw.elim (fun hw => (pg_lst hc h hn hst).run pins s σ H v u Q I r hw) fun hw => (pg_tup hc h hn hst).run pins s σ H v u Q I r hw⟩
theorem pg_tupK {X : Cx} {K : PySem.W.Frag} {pos : Pos} {es : List Expr} {k : Nat} {t : TGs} {n : Nat} (hK : X.K = K) (hc : X.calm = true) (h : PGs X es t)
    (hn : (assignEach es X.env).length = n := by rfl) (hst : (assignEach es X.env).findIdx? (·.1) = none := by rfl) : PG X (.Tuple es k pos) (gTup K n t) := hK ▸ pg_tup hc h hn hst
theorem gany2 {K : PySem.W.Frag} {i j : Nat} {p : Addr} {x y : V} {σ : L2.St} {H : Hp} {R : L2.St → Hp → Prop} (h : H p = some (.lst [x, y]) ∨ H p = some (.tup [x, y])) (q : R ((σ.set i (some x)).set j (some y)) H) :
    gAny K 2 (gCons (gName i) (gCons (gName j) gNil)) (.ref p) σ H R :=
  h.imp (fun h => ⟨p, _, rfl, sqL h, rfl, x, _, rfl, y, _, rfl, rfl, q⟩) fun h => ⟨p, _, rfl, sqT h, rfl, x, _, rfl, y, _, rfl, rfl, q⟩
theorem gany3 {K : PySem.W.Frag} {i j l : Nat} {p : Addr} {x y z : V} {σ : L2.St} {H : Hp} {R : L2.St → Hp → Prop} (h : H p = some (.lst [x, y, z]) ∨ H p = some (.tup [x, y, z])) (q : R (((σ.set i (some x)).set j (some y)).set l (some z)) H) :
    gAny K 3 (gCons (gName i) (gCons (gName j) (gCons (gName l) gNil))) (.ref p) σ H R :=
  h.imp (fun h => ⟨p, _, rfl, sqL h, rfl, x, _, rfl, y, _, rfl, z, _, rfl, rfl, q⟩) fun h => ⟨p, _, rfl, sqT h, rfl, x, _, rfl, y, _, rfl, z, _, rfl, rfl, q⟩
section
variable {K : PySem.W.Frag} {σ : L2.St} {H : Hp} {Q : VK} {te ta ti tv : TE} {nx bk ct : L2.St → Hp → Prop} {rt : VK}
theorem fa {g : TG} {tb : TS} {a : Addr} {xs : List V} {j : Nat} (hσ : σ[j]? = some (some (.ref a))) (h : H a = some (.lst xs) ∨ H a = some (.tup xs)) (Pv : Nat → L2.St → Hp → Prop) (p0 : Pv 0 σ H) (hk : ∀ i σ' H' u, Pv i σ' H' → H a = some u → H' a = some u)
    (ps : ∀ i x σ' H', xs[i]? = some x → Pv i σ' H' → g x σ' H' fun σ2 H2 => tb ⟨Pv (i + 1), rt, nx, Pv (i + 1)⟩ σ2 H2) (pd : ∀ σ' H', Pv xs.length σ' H' → nx σ' H') : tFor (iAny K (tVar j)) g tb ⟨nx, rt, bk, ct⟩ σ H := by
  rcases h with h | h
  · exact i_forAL (i_forL (i_var hσ (fl (sqL h) Pv p0 (fun i σ' H' _ p => sqL (hk i σ' H' _ p h)) ps pd)))
  · exact i_forAT (i_forT (i_var hσ (ft (sqT h) Pv p0 (fun i σ' H' _ p => sqT (hk i σ' H' _ p h)) ps pd)))
def DInEnd (y x : V) (H : Hp) (Q : VK) : Prop := ∃ a o, x = .ref a ∧ DGet H a y o ∧ Q (.bl o.isSome) H
theorem i_din (q : ti σ H fun y H1 => te σ H1 fun x H2 => DInEnd y x H2 Q) : tDIn ti te σ H Q := q
instance : Nx (tDIn ti te σ H Q) (ti σ H fun y H1 => te σ H1 fun x H2 => DInEnd y x H2 Q) := ⟨i_din⟩
theorem dinK {a : Addr} {kvs : List (Key × V)} {z : Str} (e : H a = some (.dK kvs)) (q : Q (.bl (valV kvs (Sum.inr z)).isSome) H) : DInEnd (.str z) (.ref a) H Q := ⟨a, _, rfl, .k (k := Sum.inr z) e, q⟩
theorem dinT {a b : Addr} {kvs : List (List Key × V)} {k : List Key} (e : H a = some (.dT kvs)) (eb : H b = some (.tup (k.map kV))) (q : Q (.bl (valV kvs k).isSome) H) : DInEnd (.ref b) (.ref a) H Q := ⟨a, _, rfl, .t e eb, q⟩
def DPutEnd (x y v : V) (H3 : Hp) (R : Hp → Prop) : Prop := ∃ a H4, x = .ref a ∧ DPut H3 a y v H4 ∧ R H4
theorem i_dput (q : tv σ H fun v H1 => te σ H1 fun x H2 => ti σ H2 fun y H3 => DPutEnd x y v H3 fun H4 => nx σ H4) : sDPut te ti tv ⟨nx, rt, bk, ct⟩ σ H := q
instance : Nx (sDPut te ti tv ⟨nx, rt, bk, ct⟩ σ H) (tv σ H fun v H1 => te σ H1 fun x H2 => ti σ H2 fun y H3 => DPutEnd x y v H3 fun H4 => nx σ H4) := ⟨i_dput⟩
theorem dputK {a : Addr} {kvs : List (Key × V)} {z : Str} {v : V} {R : Hp → Prop} (e : H a = some (.dK kvs)) (hl : kvs.length ≤ 1000) (q : R (upd H a (.dK (putK kvs (Sum.inr z) v)))) : DPutEnd (.ref a) (.str z) v H R := ⟨a, _, rfl, .k (k := Sum.inr z) e (Nat.lt_of_le_of_lt hl (by decide)), q⟩
theorem dputT {a b : Addr} {kvs : List (List Key × V)} {k : List Key} {v : V} {R : Hp → Prop} (e : H a = some (.dT kvs)) (eb : H b = some (.tup (k.map kV))) (hl : kvs.length ≤ 1000) (q : R (upd H a (.dT (putK kvs k v)))) : DPutEnd (.ref a) (.ref b) v H R := ⟨a, _, rfl, .t e eb (Nat.lt_of_le_of_lt hl (by decide)), q⟩
def DNewK (H : Hp) (Q : VK) : Prop := ∀ p, H p = none → Q (.ref p) (upd H p (.dK []))
def DNewT (H : Hp) (Q : VK) : Prop := ∀ p, H p = none → Q (.ref p) (upd H p (.dT []))
theorem i_dnewK (q : DNewK H Q) : tDNewK σ H Q := q
instance : Nx (tDNewK σ H Q) (DNewK H Q) := ⟨i_dnewK⟩
theorem i_dnewT (q : DNewT H Q) : tDNewT σ H Q := q
instance : Nx (tDNewT σ H Q) (DNewT H Q) := ⟨i_dnewT⟩
def DGetEnd (x y : V) (H : Hp) (Q : VK) : Prop := ∃ a v, x = .ref a ∧ DGet H a y (some v) ∧ Q v H
theorem i_dget (q : te σ H fun x H1 => ti σ H1 fun y H2 => DGetEnd x y H2 Q) : tDGet te ti σ H Q := q
instance : Nx (tDGet te ti σ H Q) (te σ H fun x H1 => ti σ H1 fun y H2 => DGetEnd x y H2 Q) := ⟨i_dget⟩
theorem dgetT {a b : Addr} {kvs : List (List Key × V)} {k : List Key} {v : V} (e : H a = some (.dT kvs)) (eb : H b = some (.tup (k.map kV))) (hv : valV kvs k = some v) (q : Q v H) : DGetEnd (.ref a) (.ref b) H Q := ⟨a, v, rfl, hv ▸ .t e eb, q⟩
/-- the items of a dict that is locked meanwhile -/
theorem i_lockE {t : TE} {d : Addr} {kvs : List (Key × V)} (h : H d = some (.dK kvs)) (q : ∀ od : Obj, t σ (upd H d (.frz od (.dK kvs))) fun v H' => H' d = some (.frz od (.dK kvs)) ∧ Q v (upd H' d (.dK kvs))) : tLockE t σ H Q :=
  ⟨d, .dK kvs, h, True.intro, q⟩
def CI (g : TG) (tt : TT) (te : TE) (vs : List Nat) (σ : L2.St) (Q : VK) : V → Hp → Prop := fun x H1 => ∃ d o kvs, x = .ref d ∧ H1 d = some (.frz o (.dK kvs)) ∧ ∀ D, H1 D = none → ∃ W : Nat → Nat → Hp → Prop, (∃ m, W 0 m (upd H1 D (.lst []))) ∧ ∀ i m H, W i m H →
  ((Iti d o kvs).stop i H ∧ Q (.ref D) H) ∨ ((Iti d o kvs).go i H ∧ ∃ Nx : Hp → Prop, (∀ H', Nx H' → ∃ m', m' < m ∧ W (i + 1) m' H') ∧ ∀ x H', (Iti d o kvs).yld i H x H' → g x (wipe σ vs) H' fun σ2 H2 => wipe σ2 vs = wipe σ vs ∧ tt σ2 H2 fun b H3 =>
    if b = true then te σ2 H3 fun y H4 => ∃ acc, H4 D = some (.lst acc) ∧ acc.length < sizeLine ∧ Nx (upd H4 D (.lst (acc ++ [y]))) else Nx H3)
theorem i_lcI {g : TG} {tt : TT} {vs : List Nat} (q : ta σ H fun x H1 => CI g tt te vs σ Q x H1) : tLc (iItems ta) g tt te vs σ H Q := q
instance {g : TG} {tt : TT} {vs : List Nat} : Nx (tLc (iItems ta) g tt te vs σ H Q) (ta σ H fun x H1 => CI g tt te vs σ Q x H1) := ⟨i_lcI⟩
theorem ci {g : TG} {tt : TT} {vs : List Nat} {d : Addr} {o : Obj} {kvs : List (Key × V)} (h : H d = some (.frz o (.dK kvs))) (Pv : Addr → Nat → Hp → Prop) (p0 : ∀ D, H D = none → Pv D 0 (upd H D (.lst []))) (hl : ∀ D i H', H D = none → Pv D i H' → H' d = some (.frz o (.dK kvs)))
    (ps : ∀ D i T kv H', H D = none → kvs[i]? = some kv → Pv D i H' → H' T = none → g (.ref T) (wipe σ vs) (upd H' T (.tup [kV kv.1, kv.2])) fun σ2 H2 => wipe σ2 vs = wipe σ vs ∧ tt σ2 H2 fun b H3 => if b = true then te σ2 H3 fun y H4 => ∃ acc, H4 D = some (.lst acc) ∧ acc.length < sizeLine ∧ Pv D (i + 1) (upd H4 D (.lst (acc ++ [y]))) else Pv D (i + 1) H3)
    (pd : ∀ D H', H D = none → Pv D kvs.length H' → Q (.ref D) H') : CI g tt te vs σ Q (.ref d) H :=
  ⟨d, o, kvs, rfl, h, fun D hD => lc_it walk_items (Pv D) (p0 D hD) (fun i H' _ p => hl D i H' hD p) (fun i x H' H2 hi p y => by
    obtain ⟨T, k, v, rfl, hT, rfl, e1, e2⟩ := y
    have hkv : kvs[i]? = some kvs[i] := List.getElem?_eq_getElem hi
    dsimp only at e1 e2
    rw [hkv] at e1 e2
    cases e1
    cases e2
    exact ps D i T kvs[i] H' hD hkv p hT) fun H' p => pd D H' hD p⟩
end
theorem valV_none {κ : Type} [DecidableEq κ] {kvs : List (κ × V)} {k : κ} (h : k ∉ kvs.map (·.1)) : valV kvs k = none := by
  unfold valV
  rw [List.find?_eq_none.mpr fun kv hkv e => h (by rw [← of_decide_eq_true e]; exact List.mem_map_of_mem hkv)]
  rfl
theorem valV_some {κ : Type} [DecidableEq κ] {kvs : List (κ × V)} {k : κ} (h : k ∈ kvs.map (·.1)) : (valV kvs k).isSome = true := by
  unfold valV
  cases e : kvs.find? fun kv => decide (kv.1 = k) with
  | some x => rfl
  | none =>
    obtain ⟨kv, h1, h2⟩ := List.mem_map.mp h
    exact absurd (decide_eq_true h2) (List.find?_eq_none.mp e kv h1)
theorem putK_new {κ : Type} [DecidableEq κ] {kvs : List (κ × V)} {k : κ} {v : V} (h : k ∉ kvs.map (·.1)) : putK kvs k v = kvs ++ [(k, v)] := by
  unfold putK
  rw [if_neg]
  intro e
  obtain ⟨kv, h1, h2⟩ := List.any_eq_true.mp e
  exact h (List.mem_map.mpr ⟨kv, h1, of_decide_eq_true h2⟩)
theorem i_lenVA {K : PySem.W.Frag} {H : Hp} {Q : VK} {p : Addr} {ys : List V} (h : H p = some (.lst ys) ∨ H p = some (.tup ys)) (q : Q (.int ys.length) H) : rLenV K [.ref p] H Q :=
  h.elim (fun h => i_lenVL (sqL h) q) fun h => i_lenVT (sqT h) q
theorem cr_sortedPOK {X : Cx} {K : PySem.W.Frag} (h : X.K = K) : CallR X (.builtin "sorted") (rSortedPO K) := h ▸ cr_sortedPO
def numI : Dt → Int
  | .int i => i
  | _ => 0
def isNum : Dt → Bool
  | .int _ => true
  | .bl _ => true
  | _ => false
def inR (lo hi : Int) : Dt → Bool
  | .int i => decide (lo ≤ i) && decide (i ≤ hi)
  | _ => false
def atV : Dt → V
  | .str z => .str z
  | .int i => .int i
  | .bl b => .bl b
  | .seq _ => .non
def isAt : Dt → Bool
  | .seq _ => false
  | _ => true
theorem rp_at {P : Addr → Prop} {H : Hp} {n : Nat} {d : Dt} {v : V} (h : Rp P H n d v) (a : isAt d = true) : v = atV d := by
  cases h with
  | str n z => rfl
  | int n i => rfl
  | bl n b => rfl
  | lst _ _ _ _ _ => exact Bool.noConfusion a
  | tup _ _ _ _ => exact Bool.noConfusion a
/-- a row of atoms, list or tuple -/
theorem rp_row {P : Addr → Prop} {H : Hp} {n : Nat} {ds : List Dt} {v : V} (h : Rp P H n (.seq ds) v) (a : ∀ d ∈ ds, isAt d = true) : ∃ p, v = .ref p ∧ (H p = some (.lst (ds.map atV)) ∨ H p = some (.tup (ds.map atV))) := by
  have key : ∀ {m : Nat} {vs : List V}, vs.length = ds.length → (∀ (i : Nat) (d : Dt) (v : V), ds[i]? = some d → vs[i]? = some v → Rp P H m d v) → vs = ds.map atV := fun {m vs} hl h => by
    refine List.ext_getElem? fun i => ?_
    rw [List.getElem?_map]
    by_cases hi : i < ds.length
    · rw [List.getElem?_eq_getElem hi, List.getElem?_eq_getElem (show i < vs.length by omega)]
      exact congrArg some (rp_at (h i _ _ (List.getElem?_eq_getElem hi) (List.getElem?_eq_getElem (show i < vs.length by omega))) (a _ (List.getElem_mem hi)))
    · rw [List.getElem?_eq_none (by omega), List.getElem?_eq_none (by omega)]
      rfl
  cases h with
  | lst ha pa hl hz h =>
    rw [key hl h] at ha
    exact ⟨_, rfl, .inl ha⟩
  | tup ha hl hz h =>
    rw [key hl h] at ha
    exact ⟨_, rfl, .inr ha⟩
/-- a list or tuple of data -/
theorem rp_seq {P : Addr → Prop} {H : Hp} {n : Nat} {ds : List Dt} {v : V} (h : Rp P H (n + 1) (.seq ds) v) : ∃ (p : Addr) (vs : List V), v = .ref p ∧ (H p = some (.lst vs) ∨ H p = some (.tup vs)) ∧ vs.length = ds.length ∧ vs.length ≤ 1000 ∧ ∀ (i : Nat) (d : Dt) (v : V), ds[i]? = some d → vs[i]? = some v → Rp P H n d v := by
  cases h with
  | lst ha pa hl hz h => exact ⟨_, _, rfl, .inl ha, hl, hz, h⟩
  | tup ha hl hz h => exact ⟨_, _, rfl, .inr ha, hl, hz, h⟩
end My
namespace My
open PySem PySem.Spec PyProof.Rows L2
/-- an own class whose instances have the attributes fs -/
structure Ci (K : PySem.W.Frag) (mg : Str → Option Value) (x : Str) (fs : List Str) : Prop where
  g : mg x = some (.ref (gad K x))
  cl : Cls K (gad K x)
  no : ∀ f ∈ fs, NoAttr K (gad K x) f
section
variable {K : PySem.W.Frag} {σ : L2.St} {H : Hp} {Q : VK} {te ta ti tv : TE} {nx bk ct : L2.St → Hp → Prop} {rt : VK} {f : Str}
def FldEnd (K : PySem.W.Frag) (f : Str) (x : V) (H1 : Hp) (Q : VK) : Prop := ∃ a C dx fs v, x = .ref a ∧ H1 a = some (.ins C dx fs) ∧ Cls K C ∧ NoAttr K C f ∧ fs.lookup f = some v ∧ Q v H1
theorem pe_fldK {X : Cx} {e : Expr} {pos : Pos} (hK : X.K = K) (he : PE X e ta) (hb : attributeBase e f X.env (eval e X.env) = eval e X.env) : PE X (.Attribute e f pos) (tFld K ta f) := hK ▸ pe_fld he hb
theorem i_fld (q : ta σ H fun x H1 => FldEnd K f x H1 Q) : tFld K ta f σ H Q := q
instance : Nx (tFld K ta f σ H Q) (ta σ H fun x H1 => FldEnd K f x H1 Q) := ⟨i_fld⟩
theorem fld_end {a C dx : Addr} {fs : List (Str × V)} {v : V} (h : H a = some (.ins C dx fs)) (c : Cls K C) (n : NoAttr K C f) (l : fs.lookup f = some v) (q : Q v H) : FldEnd K f (.ref a) H Q := ⟨a, C, dx, fs, v, rfl, h, c, n, l, q⟩
def SFldEnd (K : PySem.W.Frag) (f : Str) (y x : V) (H2 : Hp) (R : Hp → Prop) : Prop := ∃ a C dx fs, x = .ref a ∧ H2 a = some (.ins C dx fs) ∧ Cls K C ∧ NoAttr K C f ∧ fs.length < 1000 ∧ R (upd H2 a (.ins C dx (putF f y fs)))
theorem ps_fldK {X : Cx} {o value : Expr} {pos pos' : Pos} (hK : X.K = K) (ha : PE X o ta) (hv : PE X value tv) (hs : swapsWith value (some (.Attribute o f pos')) pos.line X.env = pure false) : PS X (.Assign [.Attribute o f pos'] value pos) (sFld K ta tv f) := hK ▸ ps_fld ha hv hs
theorem i_sfld (q : tv σ H fun y H1 => ta σ H1 fun x H2 => SFldEnd K f y x H2 fun H3 => nx σ H3) : sFld K ta tv f ⟨nx, rt, bk, ct⟩ σ H := q
instance : Nx (sFld K ta tv f ⟨nx, rt, bk, ct⟩ σ H) (tv σ H fun y H1 => ta σ H1 fun x H2 => SFldEnd K f y x H2 fun H3 => nx σ H3) := ⟨i_sfld⟩
theorem sfld_end {a C dx : Addr} {fs : List (Str × V)} {y : V} {R : Hp → Prop} (h : H a = some (.ins C dx fs)) (c : Cls K C) (n : NoAttr K C f) (l : fs.length ≤ 900) (q : R (upd H a (.ins C dx (putF f y fs)))) : SFldEnd K f y (.ref a) H R := ⟨a, C, dx, fs, rfl, h, c, n, by omega, q⟩
end
theorem putF_cons {f g : Str} {v x : V} {r : List (Str × V)} (h : ¬ g = f) : putF f v ((g, x) :: r) = (g, x) :: putF f v r := by
  show (if g = f then _ else _) = _
  rw [if_neg h]
theorem lookup_eq {f : Str} {v : V} {r : List (Str × V)} : List.lookup f ((f, v) :: r) = some v := by
  rw [lookup_put, if_pos rfl]
theorem lookup_ne {f g : Str} {v : V} {r : List (Str × V)} (h : ¬ f = g) : List.lookup f ((g, v) :: r) = List.lookup f r := by
  rw [lookup_put, if_neg h]
/-- a web's attributes -/
def wf (a b c d : V) : List (Str × V) := [("_folk", a), ("_names", b), ("_watches", c), ("_pulls", d)]
theorem put1 {a : V} : putF "_folk" a [] = [(("_folk" : Str), a)] := rfl
theorem put2 {a b : V} : putF "_names" b ([(("_folk" : Str), a)] : List (Str × V)) = [(("_folk" : Str), a), (("_names" : Str), b)] := by
  rw [putF_cons (by decide +kernel)]
  rfl
theorem put3 {a b c : V} : putF "_watches" c ([(("_folk" : Str), a), (("_names" : Str), b)] : List (Str × V)) = [(("_folk" : Str), a), (("_names" : Str), b), (("_watches" : Str), c)] := by
  rw [putF_cons (by decide +kernel), putF_cons (by decide +kernel)]
  rfl
theorem put4 {a b c d : V} : putF "_pulls" d ([(("_folk" : Str), a), (("_names" : Str), b), (("_watches" : Str), c)] : List (Str × V)) = wf a b c d := by
  rw [putF_cons (by decide +kernel), putF_cons (by decide +kernel), putF_cons (by decide +kernel)]
  rfl
theorem lk_folk {a : V} {r : List (Str × V)} : List.lookup (("_folk" : Str)) (((("_folk" : Str)), a) :: r) = some a := lookup_eq
theorem lk_names {a b : V} {r : List (Str × V)} : List.lookup (("_names" : Str)) ((("_folk" : Str), a) :: (("_names" : Str), b) :: r) = some b := by
  rw [lookup_ne (by decide +kernel), lookup_eq]
theorem lk_watches {a b c : V} {r : List (Str × V)} : List.lookup (("_watches" : Str)) ((("_folk" : Str), a) :: (("_names" : Str), b) :: (("_watches" : Str), c) :: r) = some c := by
  rw [lookup_ne (by decide +kernel), lookup_ne (by decide +kernel), lookup_eq]
def Sq2 (K : PySem.W.Frag) (H : Hp) (p : Addr) (vs : List V) : Prop := H p = some (.lst vs) ∨ H p = some (.tup vs) ∨ ∀ H', SqT K H' p vs
theorem Sq2.keep {K : PySem.W.Frag} {H H' : Hp} {p : Addr} {vs : List V} (h : Sq2 K H p vs) (k : ∀ u, H p = some u → H' p = some u) : Sq2 K H' p vs := h.imp (k _) fun h => h.imp (k _) id
theorem i_lenV2 {K : PySem.W.Frag} {H : Hp} {Q : VK} {p : Addr} {ys : List V} (h : Sq2 K H p ys) (q : Q (.int ys.length) H) : rLenV K [.ref p] H Q := by
  rcases h with h | h | h
  · exact i_lenVL (sqL h) q
  · exact i_lenVT (sqT h) q
  · exact i_lenVT (h H) q
theorem fa2 {K : PySem.W.Frag} {σ : L2.St} {H : Hp} {nx bk ct : L2.St → Hp → Prop} {rt : VK} {g : TG} {tb : TS} {a : Addr} {xs : List V} {j : Nat} (hσ : σ[j]? = some (some (.ref a))) (h : Sq2 K H a xs) (Pv : Nat → L2.St → Hp → Prop) (p0 : Pv 0 σ H) (hk : ∀ i σ' H', Pv i σ' H' → ∀ u, (u = .lst xs ∨ u = .tup xs) → H a = some u → H' a = some u)
    (ps : ∀ i x σ' H', xs[i]? = some x → Pv i σ' H' → g x σ' H' fun σ2 H2 => tb ⟨Pv (i + 1), rt, nx, Pv (i + 1)⟩ σ2 H2) (pd : ∀ σ' H', Pv xs.length σ' H' → nx σ' H') : tFor (iAny K (tVar j)) g tb ⟨nx, rt, bk, ct⟩ σ H := by
  rcases h with h | h | h
  · exact i_forAL (i_forL (i_var hσ (fl (sqL h) Pv p0 (fun i σ' H' _ p => sqL (hk i σ' H' p _ (.inl rfl) h)) ps pd)))
  · exact i_forAT (i_forT (i_var hσ (ft (sqT h) Pv p0 (fun i σ' H' _ p => sqT (hk i σ' H' p _ (.inr rfl) h)) ps pd)))
  · exact i_forAT (i_forT (i_var hσ (ft (h H) Pv p0 (fun i σ' H' _ p => h H') ps pd)))
end My
namespace My
open PySem PySem.Spec PyProof.Rows L2
def MethEnd (C : Addr) (m : Str) (sp : Sp) (dvs : List V) (E : XK) (t : TA) (σ : L2.St) (Q : VK) (x : V) (H1 : Hp) : Prop := ∃ a dx fs, x = .ref a ∧ H1 a = some (.ins C dx fs) ∧ fs.lookup m = none ∧ t σ H1 fun vs H2 => sp (x :: (vs ++ dvs)) H2 Q E
theorem i_meth {C : Addr} {m : Str} {sp : Sp} {dvs : List V} {E : XK} {ta : TE} {t : TA} {σ : L2.St} {H : Hp} {Q : VK} (q : ta σ H fun x H1 => MethEnd C m sp dvs E t σ Q x H1) : tMeth C m sp dvs E ta t σ H Q := q
instance {C : Addr} {m : Str} {sp : Sp} {dvs : List V} {E : XK} {ta : TE} {t : TA} {σ : L2.St} {H : Hp} {Q : VK} : Nx (tMeth C m sp dvs E ta t σ H Q) (ta σ H fun x H1 => MethEnd C m sp dvs E t σ Q x H1) := ⟨i_meth⟩
end My
namespace My
open PySem PySem.Spec PySem.Calls PyProof.Rows PySem.W L2
section
variable {prog : Program} {w : World} {A : Around} {E : Value → Shared → Prop} {s : Shared} {K : Frag} {x D : Addr} {ox : Obj} {od : Option Obj}
theorem cls_at (T : ExcC K D) : findObj K D od "__class__" = some (.bind (.builtin "getset_descriptor.__get__") (.builtin "object.__class__")) := by
  obtain ⟨cd, hc, _⟩ := any_some T.hd
  cases od with
  | none => exact findObj_dataN (by rw [hc]; rfl) T.ha T.hn T.ht
  | some o => exact findObj_data (by rw [hc]; rfl) T.ha T.hn T.ht
theorem cls_asked {Q : Option Value → Shared → Prop} (T : ExcC K D) (X : K.In s.heap) (I : InstAt s.heap x ox D od) (h : Q (some (.ref D)) { s with toks := s.toks + 1 }) : wpAny (model prog w) A (getAttr? (.ref x) "__class__") Q E s := by
  obtain ⟨hp, g, d, t, os⟩ := s
  have L0 := I.type (M := model prog w); have L1 := looks_findIn (M := model prog w) X T.hg; have L2 := looks_findIn (M := model prog w) X T.hk
  have L3 := looks_find (M := model prog w) X I (cls_at (od := od) T); have sub : Looks (model prog w) hp (isInstance (.ref x) (.type "BaseException")) true := L0.andThen (looks_subIn X T.hs)
  have z2 : (Value.builtin "BaseException.__getattribute__" == Value.builtin "object.__getattribute__") = false := by decide +kernel
  have z1 : (onTheHeap (Value.ref D) && Value.builtin "BaseException.__getattribute__" == Value.builtin "object.__getattribute__") = false := by rw [z2]; rfl
  unfold getAttr? getAttrBy? getAttrBy; refine wpAny_bind (wpAny_mkText (wpAny_bind (wpAny_attempt (wpAny_holding (wpAny_bind (L0.at (wpAny_bind (L1.at ?_))))))))
  show wpAny _ _ (if (onTheHeap (Value.ref D) && Value.builtin "BaseException.__getattribute__" == Value.builtin "object.__getattribute__") = true then _ else _) _ _ _; rw [z1, if_neg Bool.false_ne_true]
  unfold getAttrByItsOwn hookBefore; refine wpAny_bind ?_; rw [if_pos (show onTheHeap (Value.ref D) = true from rfl)]
  refine L2.at (wpAny_bind (wpAny_attempt (wpAny_holding ?_))); unfold callGetattribute
  rw [show (false && onTheHeap (Value.builtin "BaseException.__getattribute__")) = false from rfl, if_neg Bool.false_ne_true]
  unfold boundAndCalled; rw [PySem.F.excAttr_ValueError.ga.bind (.ref x)]
  refine wpAny_bind (wpAny_pure ?_); show wpAny _ _ (call (.builtin "BaseException.__getattribute__") [.ref x, .str "__class__" t]) _ _ _
  refine wpAny_call (codeAny_call_builtin PySem.F.excAttr_ValueError.ga.plain PySem.F.entry_bexc_ga (@check_slot (model prog w) _ _ ⟨hp, g, d, t + 1, os⟩ "BaseException.__getattribute__" "BaseException" "__getattribute__" (.ref x) [.str "__class__" t] [] _ (by decide +kernel) (by decide +kernel) sub (PySem.F.args_bexc_ga (.ref x) (.str "__class__" t)) ?_))
  unfold Builtin.«object.__getattribute__»; refine wpAny_bind (wpAny_of_eq (a := ((Value.ref x : Value), [Value.str "__class__" t])) (by first | rfl | (simp only [slotArgs]; rfl)) (wpAny_bind (wpAny_pure (wpAny_bind (L0.at (wpAny_bind (L3.at ?_)))))))
  show wpAny _ _ (holding [Value.builtin "object.__class__"] (call (.builtin "getset_descriptor.__get__") [.builtin "object.__class__", .ref x, .ref D]) >>= ret) _ _ _; refine wpAny_bind (wpAny_holding (wpAny_call (class_get (s := ⟨hp, g, d, t + 1, os⟩) (ox := ox) (od := od) X I T.hm (wpAny_pure ?_))))
  show wpAny _ _ (handedOut (.ref D)) _ _ _; rw [handedOut_of (v := .ref D) rfl]
  (first | exact wpAny_pure (wpAny_pure h) | exact wpAny_pure h | exact wpAny_pure (wpAny_bind (wpAny_pure (wpAny_pure h))))
theorem kitx_exc (T : ExcC K D) : KitX K (.ref x) (.ref D) (fun h => InstAt h x ox D od) where
  ty := fun _ _ _ I => I.type
  it := fun _ _ X _ => by
    obtain ⟨cdD, hcD, _⟩ := any_some T.hd; unfold clsIn at hcD
    split at hcD
    · rename_i c' d' cd' sl' ho; intro A' Q' E' s' k q; unfold isType loadHead
      exact wpAny_bind (wpAny_loadPart (k _ _ (X _ _ ho)) (wpAny_pure q))
    · cases hcD
  ne := fun h tp dd its n sl X htp => by
    obtain ⟨cdD, hcD, _⟩ := any_some T.hd; refine Bool.eq_false_iff.mpr fun q => ?_
    have e : D = tp := Value.ref.inj (beq_iff_eq.mp q); subst e; unfold clsIn at hcD
    split at hcD
    · rename_i c' d' cd' sl' ho; cases (X _ _ ho).symm.trans htp
    · cases hcD
  ca := fun X I k => cls_asked T X I k
end
/-- isinstance(e, c), isinstance(e, (c, d, ..)), e the exception that the suite holds -/
def rIsX (K : Frag) (a : Addr) (cls : Value) (d : Option Addr) : List V → Hp → VK → Prop := fun xs H Q => ∃ (D : Addr) (b : Bool), cls = .ref D ∧ ExcC K D ∧ (d = none ∨ ∃ dd fs, d = some dd ∧ H dd = some (.xd fs)) ∧
  ((∃ c cv, xs = [.ref a, c] ∧ ClsV c cv ∧ kitOne K (.ref D) cv = some b) ∨ ∃ tp cs ws, xs = [.ref a, .ref tp] ∧ H tp = some (.tup cs) ∧ Paired ClsV cs ws ∧ kitAny K (.ref D) ws = some b) ∧ Q (.bl b) H
theorem call_isX {X : Cx} {K : Frag} {a : Addr} {cls : Value} {d : Option Addr} {oe : Obj} {pn : List (Addr × Obj)} (hK : X.K = K) (hz : Zc cls d oe) (hf : ∃ vs, oe.data = .fields vs) : CallR (X.suite a ((a, oe) :: pn)) (.builtin "isinstance") (rIsX K a cls d) := by
  subst hK
  intro pins s σ H xs us Q I r h
  obtain ⟨D, b, rfl, T, hd, h, q⟩ := h
  obtain ⟨hget, _⟩ := I.pin (a, oe) (List.mem_append.mpr (.inl List.mem_cons_self))
  obtain ⟨vs, hv⟩ := hf
  have J : ∃ od, InstAt s.heap a oe D od := by
    obtain ⟨oc, ode, oda, osl⟩ := oe
    obtain ⟨h1, h2⟩ := hz
    dsimp only at h1 h2 hv
    subst h1 h2 hv
    rcases hd with rfl | ⟨dd, fs, rfl, hdd⟩
    · exact ⟨none, hget, rfl, rfl, trivial⟩
    · obtain ⟨mA, hns, _⟩ := (show ObjOk X.prog X.w H s.heap dd (.xd fs) from I.hok dd _ hdd)
      obtain ⟨od, ho, _⟩ := lookIn_ns hns
      exact ⟨some od, hget, rfl, rfl, ho⟩
  obtain ⟨od, J⟩ := J
  rcases h with ⟨c, cv, rfl, kc, e⟩ | ⟨tp, cs, ws, rfl, hT, k, e⟩
  · obtain ⟨u1, u2, rfl, r1, r2⟩ := vals2 r
    cases (show u1 = Value.ref a from r1)
    have e2 := kc.eq r2
    subst e2
    exact kia_one (kitx_exc T) I.kIn J e (fun z => nomatch z) fun tk => ⟨.bl b, H, I.tok tk, rfl, q⟩
  · obtain ⟨u1, u2, rfl, r1, r2⟩ := vals2 r
    cases (show u1 = Value.ref a from r1)
    cases (show u2 = Value.ref tp from r2)
    obtain ⟨_, its, rv, o, h1, h2, n, h3⟩ := (show ObjOk X.prog X.w H s.heap tp (.tup cs) from I.hok tp _ hT)
    have e3 := ClsV.all k rv
    subst e3
    obtain ⟨oc, od', dt, sl⟩ := o
    simp only at h2 h3
    subst h2 h3
    exact kia_tup (kitx_exc T) I.kIn J h1 e (fun z => nomatch z) fun tk => ⟨.bl b, H, I.tok tk, rfl, q⟩
end My
namespace My
open PySem PySem.Spec PyProof.Rows L2
theorem op_catAK {X : Cx} {K : PySem.W.Frag} (h : X.K = K) : OpR X (binaryOp .Add) (rCatA K) := h ▸ op_catA
theorem i_catNil {K : PySem.W.Frag} {H : Hp} {Q : VK} {a b : Addr} {ys : List V} (h1 : SqT K H a []) (h2 : SqT K H b ys) (l : ys.length ≤ 100000) (q : Q (.ref b) H) : rCatA K (.ref a) (.ref b) H Q :=
  ⟨a, b, [], ys, rfl, rfl, h1, h2, Nat.le_trans (by simpa using l) (by decide), fun _ => q, fun e => absurd rfl e, fun e => absurd rfl e⟩
theorem rd_sq {K : PySem.W.Frag} {H : Hp} {a : Addr} {xs : List V} (h : Rd H a (.tup xs)) : SqT K H a xs := .inl h
end My
namespace My
open PySem PySem.Spec PyProof.Rows L2
theorem pi_tupK {X : Cx} {K : PySem.W.Frag} {tg l : Expr} {te : TE} (h : X.K = K) (hl : PE X l te) : PI X tg l (iTup K te) := by
  subst h
  exact pi_tup hl
end My
namespace My
open PySem PySem.Spec PyProof.Rows L2
section
variable {X : Cx} {CX : CXT} {k : Nat} {f C : Addr} {fd : FuncData} {ps : List Str} {sp : Sp} {dvs : List V} {ds : List Value} {W : WX} {x m : Str} {p pos apos : Pos} {e o : Expr} {es : List Expr} {ta : TE} {t : TA}
def tMethA (C : Addr) (m : Str) (sp : Sp) (dvs : List V) (W : WX) (ta : TE) (t : TA) : TE := fun σ H Q => ta σ H fun x H1 => MethEnd C m sp dvs (fun c d H' => W c d σ H') t σ Q x H1
def MakeEnd (C : Addr) (sp : Sp) (dvs : List V) (E : XK) (Q : VK) (vs : List V) (H1 : Hp) : Prop := ∀ x dx, H1 x = none → H1 dx = none → dx ≠ x → sp (.ref x :: (vs ++ dvs)) (upd (upd H1 dx (.own x)) x (.ins C dx [])) (fun v H2 => v = .non ∧ Q (.ref x) H2) E
def tMakeA (C : Addr) (sp : Sp) (dvs : List V) (W : WX) (t : TA) : TE := fun σ H Q => t σ H fun vs H1 => MakeEnd C sp dvs (fun c d H' => W c d σ H') Q vs H1
end
section
variable {K : PySem.W.Frag} {σ : L2.St} {H : Hp} {Q : VK} {ta te : TE} {t : TA} {nx bk ct : L2.St → Hp → Prop} {rt : VK}
theorem i_methA {C : Addr} {m : Str} {sp : Sp} {dvs : List V} {W : WX} (q : ta σ H fun x H1 => MethEnd C m sp dvs (fun c d H' => W c d σ H') t σ Q x H1) : tMethA C m sp dvs W ta t σ H Q := q
instance {C : Addr} {m : Str} {sp : Sp} {dvs : List V} {W : WX} : Nx (tMethA C m sp dvs W ta t σ H Q) (ta σ H fun x H1 => MethEnd C m sp dvs (fun c d H' => W c d σ H') t σ Q x H1) := ⟨i_methA⟩
theorem i_makeA {C : Addr} {sp : Sp} {dvs : List V} {W : WX} (q : t σ H fun vs H1 => MakeEnd C sp dvs (fun c d H' => W c d σ H') Q vs H1) : tMakeA C sp dvs W t σ H Q := q
instance {C : Addr} {sp : Sp} {dvs : List V} {W : WX} : Nx (tMakeA C sp dvs W t σ H Q) (t σ H fun vs H1 => MakeEnd C sp dvs (fun c d H' => W c d σ H') Q vs H1) := ⟨i_makeA⟩
theorem i_make {C : Addr} {sp : Sp} {dvs : List V} {E : XK} (q : t σ H fun vs H1 => MakeEnd C sp dvs E Q vs H1) : tMake C sp dvs E t σ H Q := q
instance {C : Addr} {sp : Sp} {dvs : List V} {E : XK} : Nx (tMake C sp dvs E t σ H Q) (t σ H fun vs H1 => MakeEnd C sp dvs E Q vs H1) := ⟨i_make⟩
theorem i_callSD {sp : Sp} {dvs : List V} {W : WX} (q : t σ H fun vs H1 => sp (vs ++ dvs) H1 Q (fun c d H' => W c d σ H')) : tCallSD sp dvs (fun σ c d H' => W c d σ H') t σ H Q := q
instance {sp : Sp} {dvs : List V} {W : WX} : Nx (tCallSD sp dvs (fun σ c d H' => W c d σ H') t σ H Q) (t σ H fun vs H1 => sp (vs ++ dvs) H1 Q (fun c d H' => W c d σ H')) := ⟨i_callSD⟩
def PropEnd (C : Addr) (sp : Sp) (dvs : List V) (E : XK) (Q : VK) (x : V) (H1 : Hp) : Prop := ∃ a dx fs, x = .ref a ∧ H1 a = some (.ins C dx fs) ∧ sp (.ref a :: dvs) H1 Q E
theorem i_prop {C : Addr} {sp : Sp} {dvs : List V} {E : XK} (q : ta σ H fun x H1 => PropEnd C sp dvs E Q x H1) : tProp C sp dvs E ta σ H Q := q
instance {C : Addr} {sp : Sp} {dvs : List V} {E : XK} : Nx (tProp C sp dvs E ta σ H Q) (ta σ H fun x H1 => PropEnd C sp dvs E Q x H1) := ⟨i_prop⟩
theorem prop_end {C a dx : Addr} {fs : List (Str × V)} {sp : Sp} {dvs : List V} {E : XK} (h : H a = some (.ins C dx fs)) (q : sp (.ref a :: dvs) H Q E) : PropEnd C sp dvs E Q (.ref a) H := ⟨a, dx, fs, rfl, h, q⟩
theorem was_yes {c cls : Value} {d : Option Addr} {i : Nat} {ts : Addr → Value → Option Addr → TS} {Wout : WX} (h : PySem.W.exmOne K cls c = some true)
    (q : ∀ a, H a = none → ts a cls d { nx := fun σ' H' => nx (σ'.set i none) H', rt := rt, bk := fun σ' H' => bk (σ'.set i none) H', ct := fun σ' H' => ct (σ'.set i none) H' } (σ.set i (some (.ref a))) H) : wAs K c i ts Wout ⟨nx, rt, bk, ct⟩ cls d σ H :=
  ⟨true, h, fun _ => q, fun z => Bool.noConfusion z⟩
def XfEnd (a : Addr) (cls : Value) (d : Option Addr) (C : Addr) (f : Str) (Q : VK) (x : V) (H1 : Hp) : Prop := x = .ref a ∧ cls = .ref C ∧ ∃ (dd : Addr) (fs : List (Str × V)) (v : V), d = some dd ∧ H1 dd = some (.xd fs) ∧ fs.lookup f = some v ∧ Q v H1
theorem i_xf {a C : Addr} {cls : Value} {d : Option Addr} {f : Str} (q : te σ H fun x H1 => XfEnd a cls d C f Q x H1) : tXf a cls d C f te σ H Q := q
instance {a C : Addr} {cls : Value} {d : Option Addr} {f : Str} : Nx (tXf a cls d C f te σ H Q) (te σ H fun x H1 => XfEnd a cls d C f Q x H1) := ⟨i_xf⟩
theorem isX1 {a D E : Addr} {d : Option Addr} {b : Bool} (T : ExcC K D) (hd : d = none ∨ ∃ dd fs, d = some dd ∧ H dd = some (.xd fs)) (k : PySem.W.kitOne K (.ref D) (.ref E) = some b) (q : Q (.bl b) H) : rIsX K a (.ref D) d [.ref a, .ref E] H Q :=
  ⟨D, b, rfl, T, hd, .inl ⟨_, _, rfl, .own E, k⟩, q⟩
theorem isXT {a D tp : Addr} {cs : List V} {ws : List Value} {d : Option Addr} {b : Bool} (T : ExcC K D) (hd : d = none ∨ ∃ dd fs, d = some dd ∧ H dd = some (.xd fs)) (ht : H tp = some (.tup cs)) (p : Paired ClsV cs ws) (k : PySem.W.kitAny K (.ref D) ws = some b) (q : Q (.bl b) H) : rIsX K a (.ref D) d [.ref a, .ref tp] H Q :=
  ⟨D, b, rfl, T, hd, .inr ⟨tp, cs, ws, rfl, ht, p, k⟩, q⟩
theorem kitAny_no {t c : Value} {cs : List Value} {r : Bool} (h : PySem.W.kitOne K t c = some false) (hr : PySem.W.kitAny K t cs = some r) : PySem.W.kitAny K t (c :: cs) = some r := kitAny_cons h (fun _ => hr) fun z => Bool.noConfusion z
end
/-- what an error class says, so that its instances are asked rightly -/
structure Ee (K : PySem.W.Frag) (mg : Str → Option Value) (x : Str) : Prop where
  g : mg x = some (.ref (gad K x))
  exc : ExcC K (gad K x)
  xf : XfC K (gad K x)
end My
namespace My
open PySem PySem.Spec PyProof.Rows L2
/-- a def with defaults -/
structure Dw (K : PySem.W.Frag) (x qual : Str) (st : Stmt) (dvs : List V) (ps : List Str) (f : Addr) (fd : FuncData) : Prop where
  F : FunD K x qual (defArgs st) (defBody st) (defScope st) dvs [] f fd
  b : Binds K fd ps []
theorem Dw.okX {P : Program} {w : World} {K : PySem.W.Frag} {mg : Str → Option Value} {base : Heap} {x qual : Str} {st : Stmt} {dvs : List V} {ps0 : List Str} {f : Addr} {fd : FuncData} {N ps : List Str} {k : Nat} {sp : Sp} (D : Dw K x qual st dvs ps0 f fd) (S : FnScope N ps (defScope st)) (len : ∀ vs H Q E, sp vs H Q E → vs.length = ps.length)
    (hbody : ∀ (cdv : Value) (A : Around) (outer : List Env) (s : Shared) (H : Hp) (vs : List V) (Q : VK) (E : XK), Room k (A.deeper (envOfC qual (defScope st) s.heap.objs.size f cdv)) → sp vs H Q E →
      ∃ t, PSs (cxOf (L2.CX P w) P w K mg base N qual (defScope st) f cdv A outer s H E) (defBody st) t ∧ t { nx := fun _ H' => Q .non H', rt := Q } (start N vs) H) : FnOk P w K mg base (L2.CX P w) (k + 1) f fd ps sp := D.F.ok S len hbody
theorem dw_mk {K : PySem.W.Frag} {x qual : Str} {st : Stmt} {f T : Addr} {oc o : Value} {od an d2 : Option Addr} {osl sl2 : Array (Option Value)} {kV doc pm cdv ct : Value} {its : List Value} {n2 : Nat} {dvs : List V} (l : K.lookup f = some ⟨oc, od, .func (PySem.W.fnOf x qual (defArgs st) (defBody st) (defScope st) (.ref T) kV doc pm an cdv ct), osl⟩)
    (c : PySem.W.codeIn K cdv qual = true) (k : PySem.W.keepIn K (.ref f) = true) (lT : K.lookup T = some ⟨o, d2, .seq its.toArray n2, sl2⟩) (hv : Vals dvs its) (hd : dvs ≠ []) : FunD K x qual (defArgs st) (defBody st) (defScope st) dvs [] f (PySem.W.fnOf x qual (defArgs st) (defBody st) (defScope st) (.ref T) kV doc pm an cdv ct) :=
  ⟨⟨oc, od, .ref T, kV, doc, pm, an, cdv, ct, osl, rfl, l, c, .inr ⟨hd, T, _, its, n2, rfl, lT, rfl, hv⟩, .inl rfl⟩, k⟩
theorem dw_binds {K : PySem.W.Frag} {x qual : Str} {params : Arguments} {body : List Stmt} {scope : Scope} {dvs : List V} {f : Addr} {fd : FuncData} {ps : List Str} (F : FunD K x qual params body scope dvs [] f fd) (n j : Nat) (hd : dvs ≠ []) (hj : j = dvs.length) (hn : n = ps.length)
    (h : ∀ (T : Addr) (kV doc pm : Value) (an : Option Addr) (cdv ct : Value) (us its : List Value), us.length = n → its.length = dvs.length → ∃ k, bindArgs (PySem.W.fnOf x qual params body scope (.ref T) kV doc pm an cdv ct) ⟨us, []⟩ = seqItems? (.ref T) >>= k ∧ k (some its.toArray) = pure (ps.zip (us ++ its.drop j))) : Binds K fd ps [] := by
  obtain ⟨ds, hv, hb⟩ := F.binds1 n j hd (by omega) h
  rw [hj, List.drop_length] at hv
  cases hv
  exact hb
theorem sqT_written {K : PySem.W.Frag} {t : Addr} {d : Option Addr} {n : Nat} {sl : Array (Option Value)} (l : K.lookup t = some ⟨.type "tuple", d, .seq #[] n, sl⟩) (H : Hp) : SqT K H t [] := .inr ⟨_, #[], n, l, rfl, rfl, Nat.zero_le _, .nil⟩
theorem kit_ref {K : PySem.W.Frag} {D C : Addr} {b : Bool} (h : PySem.W.subIn K (.ref D) (.ref C) = some b) (hc : PySem.W.isClsIn K C = true) (ht : PySem.W.typeIn K (.ref C) = some (.type "type")) (hs : PySem.W.subIn K (.ref C) (.ref C) = some true) : PySem.W.kitOne K (.ref D) (.ref C) = some b := by
  unfold PySem.W.kitOne
  split
  · rename_i e
    have e : D = C := Value.ref.inj (beq_iff_eq.mp e)
    subst e
    exact hs.symm.trans h
  · have e2 : ((PySem.W.clsIn K C).isSome && PySem.W.typeIn K (.ref C) == some (.type "type")) = true := by
      have hc' : (PySem.W.clsIn K C).isSome = true := hc
      rw [hc', ht] <;> rfl
    show (if ((PySem.W.clsIn K C).isSome && PySem.W.typeIn K (.ref C) == some (.type "type")) = true then PySem.W.subIn K (.ref D) (.ref C) else none) = some b
    rw [if_pos e2]
    exact h
end My
namespace My
open PySem PySem.Spec PyProof.Rows L2
def dV : V → Dt
  | .str z => .str z
  | .int i => .int i
  | .bl b => .bl b
  | _ => .str ⟨#[]⟩
theorem rp_atom {P : Addr → Prop} {H : Hp} {n : Nat} {v : V} (h : atomB v = true) : Rp P H n (dV v) v := by
  cases v with
  | str z => exact .str n z
  | int i => exact .int n i
  | bl b => exact .bl n b
  | _ => exact Bool.noConfusion h
def rowsD (rs : List (List V)) : Dt := .seq (rs.map fun r => .seq (r.map dV))
theorem rp_rows {P : Addr → Prop} {H : Hp} {n : Nat} {p : Addr} {xs : List V} {rs : List (List V)} (h : (H p = some (.lst xs) ∧ P p) ∨ H p = some (.tup xs)) (r : Rows H xs rs) (at_ : ∀ r ∈ rs, r.length ≤ 1000 ∧ ∀ v ∈ r, atomB v = true) (l : rs.length ≤ 1000) : Rp P H (n + 2) (rowsD rs) (.ref p) := by
  have hl := r.len
  have el : ∀ (i : Nat) (d : Dt) (v : V), (rs.map fun r => Dt.seq (r.map dV))[i]? = some d → xs[i]? = some v → Rp P H (n + 1) d v := fun i d v hd hv => by
    obtain ⟨t, q, rfl, hq, ht⟩ := r.get hv
    rw [List.getElem?_map, hq] at hd
    cases hd
    have a := at_ q (List.mem_of_getElem? hq)
    refine .tup ht (by rw [List.length_map]) a.1 fun j d v hd hv => ?_
    rw [List.getElem?_map, hv] at hd
    cases hd
    exact rp_atom (a.2 v (List.mem_of_getElem? hv))
  rcases h with ⟨h, hp⟩ | h
  · exact .lst h hp (by rw [List.length_map]; exact hl) (by omega) el
  · exact .tup h (by rw [List.length_map]; exact hl) (by omega) el
/-- two tuples of the same data are the same -/
theorem Rp.sm {H : Hp} : ∀ {n : Nat} {d : Dt} {v v' : V}, Rp (fun _ => False) H n d v → Rp (fun _ => False) H n d v' → Sm H n v v' := by
  intro n d v v' h
  induction h generalizing v' with
  | str n z => intro h'; cases h'; exact .str n z
  | int n z => intro h'; cases h'; exact .int n z
  | bl n z => intro h'; cases h'; exact .bl n z
  | lst _ pa _ _ _ _ => exact pa.elim
  | tup ha hl hz h ih =>
    intro h'
    cases h' with
    | lst _ pa _ _ _ => exact pa.elim
    | tup hb hl' hz' h' =>
      refine .tup (.inl ha) (.inl hb) (by omega) (by omega) fun i x y hx hy => ?_
      have hi := (List.getElem?_eq_some_iff.mp hx).1
      obtain ⟨d, hd⟩ : ∃ d, _ = some d := ⟨_, List.getElem?_eq_getElem (l := _) (i := i) (by rw [← hl]; exact hi)⟩
      exact ih i d x hd hx (h' i d y hd hy)
end My
namespace My
open PySem PySem.Spec PyProof.Rows L2
theorem Rp.imp {P P' : Addr → Prop} {H : Hp} {n : Nat} {d : Dt} {v : V} (i : ∀ a, P a → P' a) (h : Rp P H n d v) : Rp P' H n d v := h.keep i (fun _ _ _ e => e) Tk.refl
theorem Fr.cl {s : Addr} {P : Addr → Prop} {HB H H' : Hp} (f : Fr s HB H) (hst : StOk HB s) (c : Cl P H H') (n : ∀ b, P b → HB b = none) : Fr s HB H' := by
  obtain ⟨o, ho⟩ := hst.some
  have ns : ¬ P s := fun p => by rw [n s p] at ho; cases ho
  refine ⟨fun b o hb nb => c.keep b o (f.1 b o hb nb) fun p => ?_, fun q r hq => ?_⟩
  · rw [n b p] at hb
    cases hb
  · obtain ⟨r', e⟩ := f.2 q r hq
    exact ⟨r', c.keep _ _ e ns⟩
theorem StOk.cl {s : Addr} {P : Addr → Prop} {HB H H' : Hp} (h0 : StOk HB s) (f : Fr s HB H) (h : StOk H s) (c : Cl P H H') (n : ∀ b, P b → HB b = none) : StOk H' s := by
  obtain ⟨q0, ns0, a1, a2, a3, a4, a5, a6, g1, g2, g3, g4⟩ := h0
  obtain ⟨q, ns, i1, n2, i3, i4, i5, i6, h1, h2, h3, h4⟩ := h
  obtain ⟨r, e⟩ := f.2 _ _ g1
  rw [h1] at e
  cases e
  exact ⟨q0, ns, i1, n2, i3, i4, i5, i6, c.keep _ _ h1 fun p => (by rw [n _ p] at g1; cases g1), c.keep _ _ h2 fun p => (by rw [n _ p] at g2; cases g2), h3, h4⟩
/-- all but lists stands -/
def Nk (H H' : Hp) : Prop := ∀ b o, H b = some o → (∀ xs, o ≠ .lst xs) → H' b = some o
theorem Nk.refl {H : Hp} : Nk H H := fun _ _ h _ => h
theorem Nk.trans {H H1 H2 : Hp} (a : Nk H H1) (b : Nk H1 H2) : Nk H H2 := fun c o h n => b c o (a c o h n) n
theorem Nk.same {H H1 : Hp} (s : Same H H1) : Nk H H1 := fun c o h _ => s c o h
theorem Nk.fr {s : Addr} {H H1 : Hp} (f : Fr s H H1) (h : StOk H s) : Nk H H1 := fun c o e n => f.1 c o e fun z => by
  obtain ⟨q, ns, i1, n2, i3, i4, i5, i6, h1, _⟩ := h
  rw [z, h1] at e
  exact n _ (Option.some.inj e).symm
theorem Nk.cl {P : Addr → Prop} {H H1 : Hp} (c : Cl P H H1) (l : ∀ b, P b → ∃ xs, H b = some (.lst xs)) : Nk H H1 := fun b o e n => c.keep b o e fun p => by
  obtain ⟨xs, h⟩ := l b p
  rw [e] at h
  exact n _ (Option.some.inj h)
theorem Nk.tk {H H1 : Hp} (k : Nk H H1) : Tk H H1 := fun t d h => k t _ h fun xs z => nomatch z
end My
namespace My
open PySem PySem.Spec PyProof.Rows L2
theorem bor_nat (a b : Nat) : Builtin.bitOr (a : Int) (b : Int) = ((a ||| b : Nat) : Int) := by
  rw [Bits.bitOr_pp (Int.natCast_nonneg a) (Int.natCast_nonneg b), Int.toNat_natCast, Int.toNat_natCast]
theorem bxor_nat (a b : Nat) : Builtin.bitXor (a : Int) (b : Int) = ((a ^^^ b : Nat) : Int) := by
  rw [Bits.bitXor_pp (Int.natCast_nonneg a) (Int.natCast_nonneg b), Int.toNat_natCast, Int.toNat_natCast]
theorem i_band {H : Hp} {Q : VK} {a b : Nat} (q : Q (.int ((a &&& b : Nat) : Int)) H) : rI0 (fun i j => .int (Builtin.bitAnd i j)) (.int (a : Int)) (.int (b : Int)) H Q := ⟨_, _, rfl, rfl, by show Q (.int (Builtin.bitAnd (a : Int) (b : Int))) H; rw [PySem.W.os_band]; exact q⟩
instance {H : Hp} {Q : VK} {a b : Nat} : Nx (rI0 (fun i j => .int (Builtin.bitAnd i j)) (.int (a : Int)) (.int (b : Int)) H Q) (Q (.int ((a &&& b : Nat) : Int)) H) := ⟨i_band⟩
theorem i_bor {H : Hp} {Q : VK} {a b : Nat} (q : Q (.int ((a ||| b : Nat) : Int)) H) : rI0 (fun i j => .int (Builtin.bitOr i j)) (.int (a : Int)) (.int (b : Int)) H Q := ⟨_, _, rfl, rfl, by show Q (.int (Builtin.bitOr (a : Int) (b : Int))) H; rw [bor_nat]; exact q⟩
instance {H : Hp} {Q : VK} {a b : Nat} : Nx (rI0 (fun i j => .int (Builtin.bitOr i j)) (.int (a : Int)) (.int (b : Int)) H Q) (Q (.int ((a ||| b : Nat) : Int)) H) := ⟨i_bor⟩
theorem i_bxor {H : Hp} {Q : VK} {a b : Nat} (q : Q (.int ((a ^^^ b : Nat) : Int)) H) : rI0 (fun i j => .int (Builtin.bitXor i j)) (.int (a : Int)) (.int (b : Int)) H Q := ⟨_, _, rfl, rfl, by show Q (.int (Builtin.bitXor (a : Int) (b : Int))) H; rw [bxor_nat]; exact q⟩
instance {H : Hp} {Q : VK} {a b : Nat} : Nx (rI0 (fun i j => .int (Builtin.bitXor i j)) (.int (a : Int)) (.int (b : Int)) H Q) (Q (.int ((a ^^^ b : Nat) : Int)) H) := ⟨i_bxor⟩
theorem i_shrN {H : Hp} {Q : VK} {m k : Nat} (q : Q (.int ((m >>> k : Nat) : Int)) H) : rI (fun _ j => 0 ≤ j) (fun i j => .int (i / 2 ^ j.toNat)) (.int (m : Int)) (.int (k : Int)) H Q :=
  ⟨_, _, rfl, rfl, Int.natCast_nonneg k, by
    show Q (.int ((m : Int) / 2 ^ ((k : Int)).toNat)) H
    rw [Int.toNat_natCast]
    have e : ((m >>> k : Nat) : Int) = (m : Int) / (2 : Int) ^ k := by rw [Nat.shiftRight_eq_div_pow, Int.natCast_ediv, Int.natCast_pow]; rfl
    rw [← e]
    exact q⟩
theorem i_bits {te : TE} {σ : L2.St} {H : Hp} {Q : VK} (q : te σ H fun x H1 => ∃ i, x = .int i ∧ Q (.int (Builtin.Int.intBits i : Nat)) H1) : tBits te σ H Q := q
theorem nth_plc {ns : List Str} {a : Str} (h : a ∈ ns) : nth ns (plc ns a) = a := by
  have h1 := nth_get (plc_lt h)
  rw [plc_at h] at h1
  exact (Option.some.inj h1).symm
end My
namespace My
open PySem PySem.Spec PyProof.Rows L2
theorem i_band1 {H : Hp} {Q : VK} {a : Nat} (q : Q (.int ((a &&& 1 : Nat) : Int)) H) : rI0 (fun i j => .int (Builtin.bitAnd i j)) (.int (a : Int)) (.int 1) H Q := i_band (b := 1) q
instance {H : Hp} {Q : VK} {a : Nat} : Nx (rI0 (fun i j => .int (Builtin.bitAnd i j)) (.int (a : Int)) (.int 1) H Q) (Q (.int ((a &&& 1 : Nat) : Int)) H) := ⟨i_band1⟩
/-- a list or a tuple -/
def Lt2 (H : Hp) (p : Addr) (vs : List V) : Prop := H p = some (.lst vs) ∨ H p = some (.tup vs)
theorem Lt2.same {H H' : Hp} {p : Addr} {vs : List V} (h : Lt2 H p vs) (s : Same H H') : Lt2 H' p vs := h.imp (s _ _) (s _ _)
section
open PySem.W
section
variable {X : Cx} {k : Nat} {f : Addr} {fd : FuncData} {ps : List Str} {sp : Addr → Value → Option Addr → Sp} {x : Str} {q pos : Pos} {e : Expr} {es : List Expr} {t : TA} {a : Addr} {cls : Value} {d : Option Addr} {oe : Obj} {pn : List (Addr × Obj)}
def tCallE (sp : Addr → Value → Option Addr → Sp) (a : Addr) (cls : Value) (d : Option Addr) (t : TA) : TE := fun σ H Q => t σ H fun vs H1 => sp a cls d vs H1 Q E0
theorem i_callE {σ : L2.St} {H : Hp} {Q : VK} (q : t σ H fun vs H1 => sp a cls d vs H1 Q E0) : tCallE sp a cls d t σ H Q := q
instance {σ : L2.St} {H : Hp} {Q : VK} : Nx (tCallE sp a cls d t σ H Q) (t σ H fun vs H1 => sp a cls d vs H1 Q E0) := ⟨i_callE⟩
end
end
end My
namespace My
open PySem PySem.Spec PyProof.Rows L2
section
variable {X : Cx} {K : PySem.W.Frag} {H : Hp} {Q : VK} {a b : Addr} {xs : List V}
def rEqN (K : PySem.W.Frag) : R2 := fun x y H Q => ∃ a b xs, x = .ref a ∧ y = .ref b ∧ SqL K H a xs ∧ SqL K H b [] ∧ Q (.bl xs.isEmpty) H
theorem op_eqN (hK : X.K = K) (hu : X.A.units + 64 < cLine) : OpR X (compareOp .Eq) (rEqN K) := by
  subst hK
  intro pins s σ H x y v u Q I rx ry h
  obtain ⟨a, b, xs, rfl, rfl, ha, hb, q⟩ := h
  cases (show v = Value.ref a from rx)
  cases (show u = Value.ref b from ry)
  obtain ⟨us, r1, p1, _⟩ := I.list ha
  obtain ⟨ws, r2, p2, _⟩ := I.list hb
  cases r2
  cases r1 with
  | nil => exact PySem.SeqAt.RcAt.lists (e := fun _ => true) p1.isList p2.isList rfl (by omega) (fun j h1 _ => absurd h1 (Nat.not_lt_zero j)) _ _ _ _ ⟨.bl true, H, I, rfl, q⟩
  | cons h t => exact PySem.SeqAt.RcAt.lists_lengths p1.isList p2.isList (by simp) (by omega) _ _ _ _ ⟨.bl false, H, I, rfl, q⟩
theorem i_eqN (h : SqL K H a xs) (h2 : SqL K H b []) (q : Q (.bl xs.isEmpty) H) : rEqN K (.ref a) (.ref b) H Q := ⟨a, b, xs, rfl, rfl, h, h2, q⟩
end
def rInsert : V → List V → Hp → VK → Prop := fun x vs H Q => ∃ (l : Addr) (xs : List V) (i : Int) (y : V), x = .ref l ∧ vs = [.int i, y] ∧ H l = some (.lst xs) ∧ xs.length < sizeLine ∧ 0 ≤ i ∧ i < 2 ^ 63 ∧ Q .non (upd H l (.lst (xs.take i.toNat ++ [y] ++ xs.drop i.toNat)))
theorem mt_insertR {X : Cx} : MtR X "list.insert" rInsert := mt_insert
theorem i_insert {p : Addr} {xs : List V} {i : Int} {y : V} {H : Hp} {Q : VK} (h : H p = some (.lst xs)) (l : xs.length ≤ 1000) (h0 : 0 ≤ i) (h1 : i ≤ 1000) (q : Q .non (upd H p (.lst (xs.take i.toNat ++ [y] ++ xs.drop i.toNat)))) : rInsert (.ref p) [.int i, y] H Q :=
  ⟨p, xs, i, y, rfl, rfl, h, Nat.lt_of_le_of_lt l (by decide), h0, by omega, q⟩
end My
namespace PySem
open Sem (wp)
open AutoSeq1 (wpAny_loadPart')
end PySem
namespace My
open PySem PySem.Spec PyProof.Rows L2
def Iet (K : PySem.W.Frag) (a : Addr) : It :=
  ⟨fun i H => ∃ (xs : List V) (x : V), SqT K H a xs ∧ xs[i]? = some x, fun i H v H' => ∃ T x, v = .ref T ∧ H T = none ∧ H' = upd H T (.tup [.int (i : Nat), x]) ∧ ∀ xs, SqT K H a xs → xs[i]? = some x, fun i H => ∃ xs : List V, SqT K H a xs ∧ xs.length = i⟩
def iEnT (K : PySem.W.Frag) (ta : TA) : TI := fun σ H R => ta σ H fun vs H1 => ∃ a xs, vs = [.ref a] ∧ SqT K H1 a xs ∧ R (Iet K a) H1
section
variable {K : PySem.W.Frag} {σ : L2.St} {H : Hp} {Q : VK} {ta : TA} {te : TE} {tt : TT} {g : TG} {vs : List Nat}
def CE (K : PySem.W.Frag) (g : TG) (tt : TT) (te : TE) (vs : List Nat) (σ : L2.St) (Q : VK) : List V → Hp → Prop := fun us H1 => tLc (iEnT K fun _ H R => R us H) g tt te vs σ H1 Q
theorem i_lcE (q : ta σ H fun us H1 => CE K g tt te vs σ Q us H1) : tLc (iEnT K ta) g tt te vs σ H Q := q
instance : Nx (tLc (iEnT K ta) g tt te vs σ H Q) (ta σ H fun us H1 => CE K g tt te vs σ Q us H1) := ⟨i_lcE⟩
end
end My
namespace My
open PySem PySem.Spec PyProof.Rows L2
theorem pe_bmK {X : Cx} {K : PySem.W.Frag} {T name : String} {id : String} {r : V → List V → Hp → VK → Prop} {o e : Expr} {es : List Expr} {to : TE} {t : TA} {apos cpos : Pos} (hK : X.K = K) (pa : PlainAttrs T) (slot : Slot T name id) (hty : typeOf (.builtin id) = pure (.type "method_descriptor")) (hm : MtR X id r) (ho : PE X o to) (ha : PA X (e :: es) t) (hbase : attributeBase o name X.env (eval o X.env) = eval o X.env := by rfl)
    (hfew : ((backTo cpos (starEach (e :: es) X.env)).all (fun x => !x.1) && (backToKw cpos (keywordEach [] X.env)).all (fun x => x.1.isSome) && decide ((e :: es).length + ([] : List Keyword).length + (if ([] : List Keyword).isEmpty then 0 else 1) < 30)) = true := by rfl) (hline : (apos.endLine == cpos.line) = true := by rfl)
    (hs : starEach (e :: es) X.env = (false, eval e X.env) :: starEach es X.env := by rfl) (hplain : (backTo cpos (starEach es X.env)).any (·.1) = false := by rfl) : PE X (.Call (.Attribute o name apos) (e :: es) [] cpos) (tBM K T r to t) := hK ▸ pe_bm pa slot hty hm ho ha hbase hfew hline hs hplain
end My
namespace My
open PySem PySem.Spec PyProof.Rows L2
section
variable {K : PySem.W.Frag} {H H' : Hp} {Q : VK} {p : Addr} {z : Str} {ns : List Str} {xs : List V}
theorem i_inLt (h : Lt2 H p (ns.map V.str)) (q : Q (.bl (decide (z ∈ ns))) H) : rIn K false (.str z) (.ref p) H Q := h.elim (fun h => i_inStr (sqL h) q) fun h => i_inStrT (sqT h) q
theorem i_ninLt (h : Lt2 H p (ns.map V.str)) (q : Q (.bl (!decide (z ∈ ns))) H) : rIn K true (.str z) (.ref p) H Q := h.elim (fun h => i_notInStr (sqL h) q) fun h => i_notInStrT (sqT h) q
theorem list_endLt (h : Lt2 H p xs) (k : ∀ l H1, H l = none → Same H H1 → H1 l = some (.lst xs) → Q (.ref l) H1) : rListOf K [.ref p] H Q := h.elim (fun h => list_end (sqL h) k) fun h => list_endT (sqT h) k
theorem i_lenVLt (h : Lt2 H p xs) (q : Q (.int xs.length) H) : rLenV K [.ref p] H Q := h.elim (fun h => i_lenVL (sqL h) q) fun h => i_lenVT (sqT h) q
theorem Lt2.fr {s : Addr} (h : Lt2 H p xs) (n : p ≠ s) (f : Fr s H H') : Lt2 H' p xs := h.imp (fun h => f.1 _ _ h n) fun h => f.1 _ _ h n
end
end My
namespace My
open PySem PySem.Spec PyProof.Rows L2
/-- a comprehension over a list or a tuple that stands in a name -/
theorem lcLt {K : PySem.W.Frag} {σ : L2.St} {H : Hp} {Q : VK} {te : TE} {tt : TT} {vs : List Nat} {a : Addr} {xs : List V} {j j0 : Nat} (hσ : σ[j0]? = some (some (.ref a))) (h : Lt2 H a xs) (Pv : Addr → Nat → Hp → Prop) (p0 : ∀ D, H D = none → Pv D 0 (upd H D (.lst [])))
    (hk : ∀ D i H' u, H D = none → Pv D i H' → H a = some u → H' a = some u) (ps : ∀ D i x H', H D = none → xs[i]? = some x → Pv D i H' → LT j tt te vs σ D (Pv D (i + 1)) x H') (pd : ∀ D H', H D = none → Pv D xs.length H' → Q (.ref D) H') :
    tLc (iAny K (tVar j0)) (gName j) tt te vs σ H Q := by
  rcases h with h | h
  · exact i_lcAL (i_lcL (i_var hσ (cl (sqL h) Pv p0 (fun D i H' hD _ p => sqL (hk D i H' _ hD p h)) ps pd)))
  · exact i_lcAT (i_lcT (i_var hσ (ct_g (sqT h) Pv p0 (fun D i H' hD _ p => sqT (hk D i H' _ hD p h)) (fun D i x H' hD hx p => ps D i x H' hD hx p) pd)))
end My
namespace My
open PySem PySem.Spec PyProof.Rows L2
section
variable {H : Hp} {Q : VK} {a b : Bool}
instance : Nx (rIsB (.bl a) (.bl b) H Q) (Q (.bl (decide (a = b))) H) := ⟨fun q => ⟨a, b, rfl, rfl, q⟩⟩
instance : Nx (rNotB (.bl a) (.bl b) H Q) (Q (.bl (!decide (a = b))) H) := ⟨fun q => ⟨a, b, rfl, rfl, q⟩⟩
end
end My
namespace My
open PySem PySem.Spec PyProof.Rows L2
/-- what the class at C says, so that its == and isinstance of its objects are asked rightly -/
structure EqW (K : PySem.W.Frag) (C fi : Addr) : Prop where
  eq : PySem.W.findIn K (.ref C) "__eq__" = some (some (.ref fi))
  fn : PySem.W.isFn K (.ref fi) = true
  ca : PySem.W.findIn K (.ref C) "__class__" = some (some (.builtin "object.__class__"))
  gc : PySem.W.specialIn K (.builtin "object.__class__") "__get__" = some (some (.builtin "getset_descriptor.__get__"))
  tc : PySem.W.takesIn K (.builtin "object.__class__") = some true
  mr : PySem.W.mroIn K C (.type "object") = some true
  kt : PySem.W.kitOne K (.ref C) (.ref C) = some true
theorem EqW.ty {K : PySem.W.Frag} {C f a dx : Addr} {fs : List (Str × V)} {H : Hp} (e : EqW K C f) (cl : Cls K C) (h : H a = some (.ins C dx fs)) : TyX K H (.ref a) (.ref C) := .base (.ins h cl e.ca e.gc e.tc e.mr)
end My
namespace My
open PySem PySem.Spec PyProof.Rows L2
/-- lists that hold these rows -/
def RowsS (K : PySem.W.Frag) (H : Hp) (xs : List V) (rs : List (List Str)) : Prop := xs.length = rs.length ∧ ∀ (i : Nat) v r, xs[i]? = some v → rs[i]? = some r → ∃ p, v = .ref p ∧ SqL K H p (r.map V.str)
theorem RowsS.nil {K : PySem.W.Frag} {H : Hp} : RowsS K H [] [] := ⟨rfl, fun i v r h _ => by simp at h⟩
theorem RowsS.cons {K : PySem.W.Frag} {H : Hp} {p : Addr} {r : List Str} {xs : List V} {rs : List (List Str)} (h : SqL K H p (r.map V.str)) (t : RowsS K H xs rs) : RowsS K H (.ref p :: xs) (r :: rs) := ⟨by rw [List.length_cons, List.length_cons, t.1], fun i v r' hv hr => by
  cases i with
  | zero =>
    cases hv
    cases hr
    exact ⟨p, rfl, h⟩
  | succ i => exact t.2 i v r' hv hr⟩
end My
namespace My
open PySem PySem.Spec PyProof.Rows L2
structure Dk (K : PySem.W.Frag) (mg : Str → Option Value) (x : Str) (st : Stmt) (ps : List Str) (n : Nat) (kws : List (Str × V)) (f : Addr) (fd : FuncData) : Prop where
  F : FunD K x x (defArgs st) (defBody st) (defScope st) [] kws f fd
  m : mg x = some (.ref f)
  b0 : ∃ ds, Vals (kws.map (·.2)) ds ∧ Binds K fd ps ds
  bk : KBn K fd ps n (kws.map (·.1)) (fun us ws => us ++ ws) (fun vs zs => vs ++ zs)
theorem Dk.okX {P : Program} {w : World} {K : PySem.W.Frag} {mg : Str → Option Value} {base : Heap} {x : Str} {st : Stmt} {n : Nat} {kws : List (Str × V)} {ps0 : List Str} {f : Addr} {fd : FuncData} {N ps : List Str} {k : Nat} {sp : Sp} (D : Dk K mg x st ps0 n kws f fd) (S : FnScope N ps (defScope st)) (len : ∀ vs H Q E, sp vs H Q E → vs.length = ps.length)
    (hbody : ∀ (cdv : Value) (A : Around) (outer : List Env) (s : Shared) (H : Hp) (vs : List V) (Q : VK) (E : XK), Room k (A.deeper (envOfC x (defScope st) s.heap.objs.size f cdv)) → sp vs H Q E →
      ∃ t, PSs (cxOf (L2.CX P w) P w K mg base N x (defScope st) f cdv A outer s H E) (defBody st) t ∧ t { nx := fun _ H' => Q .non H', rt := Q } (start N vs) H) : FnOk P w K mg base (L2.CX P w) (k + 1) f fd ps sp := D.F.ok S len hbody
section
variable {X : Cx} {CX : CXT} {k n : Nat} {f : Addr} {fd : FuncData} {ps ks : List Str} {sp : Sp} {W : WX} {x : Str} {p pos : Pos} {e : Expr} {es : List Expr} {kws : List Keyword} {t tk : TA} {g : List Value → List Value → List Value} {gV : List V → List V → List V}
def tCallNS (n m : Nat) (sp : Sp) (gV : List V → List V → List V) (W : WX) (t tk : TA) : TE := fun σ H Q => t σ H fun vs H1 => tk σ H1 fun zs H2 => vs.length = n ∧ zs.length = m ∧ sp (gV vs zs) H2 Q (fun c d H' => W c d σ H')
instance {σ : L2.St} {H : Hp} {Q : VK} : Nx (tCallNS n ks.length sp gV W t tk σ H Q) (t σ H fun vs H1 => tk σ H1 fun zs H2 => vs.length = n ∧ zs.length = ks.length ∧ sp (gV vs zs) H2 Q (fun c d H' => W c d σ H')) := ⟨fun q => q⟩
end
end My
namespace My
open PySem PySem.Spec PyProof.Rows L2
def topS (i : Nat) : Stmt := PySem.Challenge.pw_drowsefolk_k08_first_line_at_fault.main.body.getD i (.Pass ⟨0, 0, 0, 0⟩)
abbrev s_plain : Stmt := topS 2
abbrev n_plain : List Str := ["value", "part"]
abbrev p_plain : List Str := ["value"]
theorem sc_plain : FnScope n_plain p_plain (defScope s_plain) := ⟨rfl, rfl, rfl, by decide +kernel, rfl, by decide +kernel, by decide +kernel⟩
abbrev s_BadName__init : Stmt := inClass (topS 4) 0
abbrev n_BadName__init : List Str := ["self", "name"]
abbrev p_BadName__init : List Str := ["self", "name"]
theorem sc_BadName__init : FnScope n_BadName__init p_BadName__init (defScope s_BadName__init) := ⟨rfl, rfl, rfl, by decide +kernel, rfl, by decide +kernel, by decide +kernel⟩
abbrev s_BadNumber__init : Stmt := inClass (topS 5) 0
abbrev n_BadNumber__init : List Str := ["self", "value"]
abbrev p_BadNumber__init : List Str := ["self", "value"]
theorem sc_BadNumber__init : FnScope n_BadNumber__init p_BadNumber__init (defScope s_BadNumber__init) := ⟨rfl, rfl, rfl, by decide +kernel, rfl, by decide +kernel, by decide +kernel⟩
abbrev s_BadCount__init : Stmt := inClass (topS 6) 0
abbrev n_BadCount__init : List Str := ["self", "what", "number"]
abbrev p_BadCount__init : List Str := ["self", "what", "number"]
theorem sc_BadCount__init : FnScope n_BadCount__init p_BadCount__init (defScope s_BadCount__init) := ⟨rfl, rfl, rfl, by decide +kernel, rfl, by decide +kernel, by decide +kernel⟩
abbrev s_Repeated__init : Stmt := inClass (topS 7) 0
abbrev n_Repeated__init : List Str := ["self", "value"]
abbrev p_Repeated__init : List Str := ["self", "value"]
theorem sc_Repeated__init : FnScope n_Repeated__init p_Repeated__init (defScope s_Repeated__init) := ⟨rfl, rfl, rfl, by decide +kernel, rfl, by decide +kernel, by decide +kernel⟩
abbrev s_UnknownFolk__init : Stmt := inClass (topS 8) 0
abbrev n_UnknownFolk__init : List Str := ["self", "name"]
abbrev p_UnknownFolk__init : List Str := ["self", "name"]
theorem sc_UnknownFolk__init : FnScope n_UnknownFolk__init p_UnknownFolk__init (defScope s_UnknownFolk__init) := ⟨rfl, rfl, rfl, by decide +kernel, rfl, by decide +kernel, by decide +kernel⟩
abbrev s_SelfWatch__init : Stmt := inClass (topS 9) 0
abbrev n_SelfWatch__init : List Str := ["self", "name"]
abbrev p_SelfWatch__init : List Str := ["self", "name"]
theorem sc_SelfWatch__init : FnScope n_SelfWatch__init p_SelfWatch__init (defScope s_SelfWatch__init) := ⟨rfl, rfl, rfl, by decide +kernel, rfl, by decide +kernel, by decide +kernel⟩
abbrev s_BadText__init : Stmt := inClass (topS 10) 0
abbrev n_BadText__init : List Str := ["self", "line"]
abbrev p_BadText__init : List Str := ["self", "line"]
theorem sc_BadText__init : FnScope n_BadText__init p_BadText__init (defScope s_BadText__init) := ⟨rfl, rfl, rfl, by decide +kernel, rfl, by decide +kernel, by decide +kernel⟩
abbrev s_BorderWatch__init : Stmt := inClass (topS 11) 0
abbrev n_BorderWatch__init : List Str := ["self", "watcher", "watched"]
abbrev p_BorderWatch__init : List Str := ["self", "watcher", "watched"]
theorem sc_BorderWatch__init : FnScope n_BorderWatch__init p_BorderWatch__init (defScope s_BorderWatch__init) := ⟨rfl, rfl, rfl, by decide +kernel, rfl, by decide +kernel, by decide +kernel⟩
abbrev s_is_name : Stmt := topS 19
abbrev n_is_name : List Str := ["text", "sign"]
abbrev p_is_name : List Str := ["text"]
theorem sc_is_name : FnScope n_is_name p_is_name (defScope s_is_name) := ⟨rfl, rfl, rfl, by decide +kernel, rfl, by decide +kernel, by decide +kernel⟩
abbrev s_is_number : Stmt := topS 20
abbrev n_is_number : List Str := ["value", "low", "high"]
abbrev p_is_number : List Str := ["value", "low", "high"]
theorem sc_is_number : FnScope n_is_number p_is_number (defScope s_is_number) := ⟨rfl, rfl, rfl, by decide +kernel, rfl, by decide +kernel, by decide +kernel⟩
abbrev s_check_number : Stmt := topS 22
abbrev n_check_number : List Str := ["value", "low", "high"]
abbrev p_check_number : List Str := ["value", "low", "high"]
theorem sc_check_number : FnScope n_check_number p_check_number (defScope s_check_number) := ⟨rfl, rfl, rfl, by decide +kernel, rfl, by decide +kernel, by decide +kernel⟩
abbrev s_check_count : Stmt := topS 23
abbrev n_check_count : List Str := ["what", "number", "low", "high"]
abbrev p_check_count : List Str := ["what", "number", "low", "high"]
theorem sc_check_count : FnScope n_check_count p_check_count (defScope s_check_count) := ⟨rfl, rfl, rfl, by decide +kernel, rfl, by decide +kernel, by decide +kernel⟩
abbrev s_check_new_name : Stmt := topS 24
abbrev n_check_new_name : List Str := ["name"]
abbrev p_check_new_name : List Str := ["name"]
theorem sc_check_new_name : FnScope n_check_new_name p_check_new_name (defScope s_check_new_name) := ⟨rfl, rfl, rfl, by decide +kernel, rfl, by decide +kernel, by decide +kernel⟩
abbrev s_place_in : Stmt := topS 25
abbrev n_place_in : List Str := ["names", "name"]
abbrev p_place_in : List Str := ["names", "name"]
theorem sc_place_in : FnScope n_place_in p_place_in (defScope s_place_in) := ⟨rfl, rfl, rfl, by decide +kernel, rfl, by decide +kernel, by decide +kernel⟩
abbrev s_examined_folk : Stmt := topS 27
abbrev n_examined_folk : List Str := ["taken", "folk", "needs", "name", "need"]
abbrev p_examined_folk : List Str := ["taken", "folk"]
theorem sc_examined_folk : FnScope n_examined_folk p_examined_folk (defScope s_examined_folk) := ⟨rfl, rfl, rfl, by decide +kernel, rfl, by decide +kernel, by decide +kernel⟩
abbrev s_examined_watches : Stmt := topS 28
abbrev n_examined_watches : List Str := ["border", "outer", "watches", "names", "weights", "watcher", "watched", "weight", "watcher_place", "watched_place", "pair"]
abbrev p_examined_watches : List Str := ["border", "outer", "watches"]
theorem sc_examined_watches : FnScope n_examined_watches p_examined_watches (defScope s_examined_watches) := ⟨rfl, rfl, rfl, by decide +kernel, rfl, by decide +kernel, by decide +kernel⟩
abbrev s_all_pulls : Stmt := topS 29
abbrev n_all_pulls : List Str := ["names", "watches", "name", "row"]
abbrev p_all_pulls : List Str := ["names", "watches"]
theorem sc_all_pulls : FnScope n_all_pulls p_all_pulls (defScope s_all_pulls) := ⟨rfl, rfl, rfl, by decide +kernel, rfl, by decide +kernel, by decide +kernel⟩
abbrev s_Web__init : Stmt := inClass (topS 30) 0
abbrev n_Web__init : List Str := ["self", "folk", "watches", "row"]
abbrev p_Web__init : List Str := ["self", "folk", "watches"]
theorem sc_Web__init : FnScope n_Web__init p_Web__init (defScope s_Web__init) := ⟨rfl, rfl, rfl, by decide +kernel, rfl, by decide +kernel, by decide +kernel⟩
abbrev s_Web_folk : Stmt := inClass (topS 30) 2
abbrev n_Web_folk : List Str := ["self"]
abbrev p_Web_folk : List Str := ["self"]
theorem sc_Web_folk : FnScope n_Web_folk p_Web_folk (defScope s_Web_folk) := ⟨rfl, rfl, rfl, by decide +kernel, rfl, by decide +kernel, by decide +kernel⟩
abbrev s_Web_watches : Stmt := inClass (topS 30) 3
abbrev n_Web_watches : List Str := ["self"]
abbrev p_Web_watches : List Str := ["self"]
theorem sc_Web_watches : FnScope n_Web_watches p_Web_watches (defScope s_Web_watches) := ⟨rfl, rfl, rfl, by decide +kernel, rfl, by decide +kernel, by decide +kernel⟩
abbrev s_is_written_number : Stmt := topS 33
abbrev n_is_written_number : List Str := ["word", "sign"]
abbrev p_is_written_number : List Str := ["word"]
theorem sc_is_written_number : FnScope n_is_written_number p_is_written_number (defScope s_is_written_number) := ⟨rfl, rfl, rfl, by decide +kernel, rfl, by decide +kernel, by decide +kernel⟩
abbrev s_web_text : Stmt := topS 34
abbrev n_web_text : List Str := ["web", "lines", "name", "need", "watcher", "watched", "weight"]
abbrev p_web_text : List Str := ["web"]
theorem sc_web_text : FnScope n_web_text p_web_text (defScope s_web_text) := ⟨rfl, rfl, rfl, by decide +kernel, rfl, by decide +kernel, by decide +kernel⟩
abbrev s_is_folk_line : Stmt := topS 35
abbrev n_is_folk_line : List Str := ["words", "folk", "watches", "row"]
abbrev p_is_folk_line : List Str := ["words", "folk", "watches"]
theorem sc_is_folk_line : FnScope n_is_folk_line p_is_folk_line (defScope s_is_folk_line) := ⟨rfl, rfl, rfl, by decide +kernel, rfl, by decide +kernel, by decide +kernel⟩
abbrev s_is_watch_line : Stmt := topS 36
abbrev n_is_watch_line : List Str := ["words", "folk", "watches", "names", "row"]
abbrev p_is_watch_line : List Str := ["words", "folk", "watches"]
theorem sc_is_watch_line : FnScope n_is_watch_line p_is_watch_line (defScope s_is_watch_line) := ⟨rfl, rfl, rfl, by decide +kernel, rfl, by decide +kernel, by decide +kernel⟩
abbrev s_read_web : Stmt := topS 37
abbrev n_read_web : List Str := ["text", "folk", "watches", "at", "line", "words"]
abbrev p_read_web : List Str := ["text"]
theorem sc_read_web : FnScope n_read_web p_read_web (defScope s_read_web) := ⟨rfl, rfl, rfl, by decide +kernel, rfl, by decide +kernel, by decide +kernel⟩
abbrev s_law_store : Stmt := topS 39
abbrev n_law_store : List Str := ["script", "total", "cell"]
abbrev p_law_store : List Str := ["script"]
theorem sc_law_store : FnScope n_law_store p_law_store (defScope s_law_store) := ⟨rfl, rfl, rfl, by decide +kernel, rfl, by decide +kernel, by decide +kernel⟩
abbrev s_law_next : Stmt := topS 40
abbrev n_law_next : List Str := ["store", "cell"]
abbrev p_law_next : List Str := ["store"]
theorem sc_law_next : FnScope n_law_next p_law_next (defScope s_law_next) := ⟨rfl, rfl, rfl, by decide +kernel, rfl, by decide +kernel, by decide +kernel⟩
abbrev s_law_raw : Stmt := topS 41
abbrev n_law_raw : List Str := ["store", "one", "two"]
abbrev p_law_raw : List Str := ["store"]
theorem sc_law_raw : FnScope n_law_raw p_law_raw (defScope s_law_raw) := ⟨rfl, rfl, rfl, by decide +kernel, rfl, by decide +kernel, by decide +kernel⟩
abbrev s_law_take : Stmt := topS 42
abbrev n_law_take : List Str := ["store", "many", "number", "size", "k"]
abbrev p_law_take : List Str := ["store", "many"]
theorem sc_law_take : FnScope n_law_take p_law_take (defScope s_law_take) := ⟨rfl, rfl, rfl, by decide +kernel, rfl, by decide +kernel, by decide +kernel⟩
abbrev s_law_some : Stmt := topS 43
abbrev n_law_some : List Str := ["store", "low", "high", "pick"]
abbrev p_law_some : List Str := ["store", "low", "high"]
theorem sc_law_some : FnScope n_law_some p_law_some (defScope s_law_some) := ⟨rfl, rfl, rfl, by decide +kernel, rfl, by decide +kernel, by decide +kernel⟩
abbrev s_law_pick : Stmt := topS 44
abbrev n_law_pick : List Str := ["store", "row"]
abbrev p_law_pick : List Str := ["store", "row"]
theorem sc_law_pick : FnScope n_law_pick p_law_pick (defScope s_law_pick) := ⟨rfl, rfl, rfl, by decide +kernel, rfl, by decide +kernel, by decide +kernel⟩
abbrev s_law_mixed : Stmt := topS 45
abbrev n_law_mixed : List Str := ["store", "row", "left", "pick", "out", "k"]
abbrev p_law_mixed : List Str := ["store", "row"]
theorem sc_law_mixed : FnScope n_law_mixed p_law_mixed (defScope s_law_mixed) := ⟨rfl, rfl, rfl, by decide +kernel, rfl, by decide +kernel, by decide +kernel⟩
abbrev s_law_same : Stmt := topS 46
abbrev n_law_same : List Str := ["one", "other", "k"]
abbrev p_law_same : List Str := ["one", "other"]
theorem sc_law_same : FnScope n_law_same p_law_same (defScope s_law_same) := ⟨rfl, rfl, rfl, by decide +kernel, rfl, by decide +kernel, by decide +kernel⟩
abbrev s_law_unlike : Stmt := topS 47
abbrev n_law_unlike : List Str := ["name", "taken", "k", "other"]
abbrev p_law_unlike : List Str := ["name", "taken"]
theorem sc_law_unlike : FnScope n_law_unlike p_law_unlike (defScope s_law_unlike) := ⟨rfl, rfl, rfl, by decide +kernel, rfl, by decide +kernel, by decide +kernel⟩
abbrev s_law_name : Stmt := topS 48
abbrev n_law_name : List Str := ["store", "words", "signs", "name", "k"]
abbrev p_law_name : List Str := ["store"]
theorem sc_law_name : FnScope n_law_name p_law_name (defScope s_law_name) := ⟨rfl, rfl, rfl, by decide +kernel, rfl, by decide +kernel, by decide +kernel⟩
abbrev s_law_names : Stmt := topS 49
abbrev n_law_names : List Str := ["store", "many", "signs", "form", "start", "stem", "place", "out", "k", "name"]
abbrev p_law_names : List Str := ["store", "many"]
theorem sc_law_names : FnScope n_law_names p_law_names (defScope s_law_names) := ⟨rfl, rfl, rfl, by decide +kernel, rfl, by decide +kernel, by decide +kernel⟩
abbrev s_law_bad_name : Stmt := topS 50
abbrev n_law_bad_name : List Str := ["store", "wrong", "name", "pick", "place", "sign"]
abbrev p_law_bad_name : List Str := ["store"]
theorem sc_law_bad_name : FnScope n_law_bad_name p_law_bad_name (defScope s_law_bad_name) := ⟨rfl, rfl, rfl, by decide +kernel, rfl, by decide +kernel, by decide +kernel⟩
abbrev s_law_is_name : Stmt := topS 51
abbrev n_law_is_name : List Str := ["text", "sign"]
abbrev p_law_is_name : List Str := ["text"]
theorem sc_law_is_name : FnScope n_law_is_name p_law_is_name (defScope s_law_is_name) := ⟨rfl, rfl, rfl, by decide +kernel, rfl, by decide +kernel, by decide +kernel⟩
abbrev s_law_fresh : Stmt := topS 52
abbrev n_law_fresh : List Str := ["store", "names"]
abbrev p_law_fresh : List Str := ["store", "names"]
theorem sc_law_fresh : FnScope n_law_fresh p_law_fresh (defScope s_law_fresh) := ⟨rfl, rfl, rfl, by decide +kernel, rfl, by decide +kernel, by decide +kernel⟩
abbrev s_law_names_of : Stmt := topS 53
abbrev n_law_names_of : List Str := ["folk", "pair"]
abbrev p_law_names_of : List Str := ["folk"]
theorem sc_law_names_of : FnScope n_law_names_of p_law_names_of (defScope s_law_names_of) := ⟨rfl, rfl, rfl, by decide +kernel, rfl, by decide +kernel, by decide +kernel⟩
abbrev s_law_pairs : Stmt := topS 54
abbrev n_law_pairs : List Str := ["names", "out", "watched", "watcher"]
abbrev p_law_pairs : List Str := ["names"]
theorem sc_law_pairs : FnScope n_law_pairs p_law_pairs (defScope s_law_pairs) := ⟨rfl, rfl, rfl, by decide +kernel, rfl, by decide +kernel, by decide +kernel⟩
abbrev s_law_pair_order : Stmt := topS 55
abbrev n_law_pair_order : List Str := ["names", "watches", "row", "triple", "x"]
abbrev p_law_pair_order : List Str := ["names", "watches"]
theorem sc_law_pair_order : FnScope n_law_pair_order p_law_pair_order (defScope s_law_pair_order) := ⟨rfl, rfl, rfl, by decide +kernel, rfl, by decide +kernel, by decide +kernel⟩
abbrev s_law_web_lines : Stmt := topS 56
abbrev n_law_web_lines : List Str := ["folk", "watches", "out", "pair", "x"]
abbrev p_law_web_lines : List Str := ["folk", "watches"]
theorem sc_law_web_lines : FnScope n_law_web_lines p_law_web_lines (defScope s_law_web_lines) := ⟨rfl, rfl, rfl, by decide +kernel, rfl, by decide +kernel, by decide +kernel⟩
abbrev s_law_bent_number : Stmt := topS 57
abbrev n_law_bent_number : List Str := ["store", "row"]
abbrev p_law_bent_number : List Str := ["store"]
theorem sc_law_bent_number : FnScope n_law_bent_number p_law_bent_number (defScope s_law_bent_number) := ⟨rfl, rfl, rfl, by decide +kernel, rfl, by decide +kernel, by decide +kernel⟩
abbrev s_law_bent_spaces : Stmt := topS 58
abbrev n_law_bent_spaces : List Str := ["store", "line", "pick", "place"]
abbrev p_law_bent_spaces : List Str := ["store", "line"]
theorem sc_law_bent_spaces : FnScope n_law_bent_spaces p_law_bent_spaces (defScope s_law_bent_spaces) := ⟨rfl, rfl, rfl, by decide +kernel, rfl, by decide +kernel, by decide +kernel⟩
abbrev s_law_bad_watch_line : Stmt := topS 59
abbrev n_law_bad_watch_line : List Str := ["store", "names", "one", "other", "fresh", "pick"]
abbrev p_law_bad_watch_line : List Str := ["store", "names"]
theorem sc_law_bad_watch_line : FnScope n_law_bad_watch_line p_law_bad_watch_line (defScope s_law_bad_watch_line) := ⟨rfl, rfl, rfl, by decide +kernel, rfl, by decide +kernel, by decide +kernel⟩
abbrev s_law_late_folk : Stmt := topS 60
abbrev n_law_late_folk : List Str := ["store", "lines", "names", "many", "known", "place", "k"]
abbrev p_law_late_folk : List Str := ["store", "lines", "names", "many"]
theorem sc_law_late_folk : FnScope n_law_late_folk p_law_late_folk (defScope s_law_late_folk) := ⟨rfl, rfl, rfl, by decide +kernel, rfl, by decide +kernel, by decide +kernel⟩
abbrev s_law_drawn : Stmt := topS 61
abbrev n_law_drawn : List Str := ["store", "names", "pairs", "watches", "pair", "name"]
abbrev p_law_drawn : List Str := ["store"]
theorem sc_law_drawn : FnScope n_law_drawn p_law_drawn (defScope s_law_drawn) := ⟨rfl, rfl, rfl, by decide +kernel, rfl, by decide +kernel, by decide +kernel⟩
abbrev s_law_word : Stmt := topS 62
abbrev n_law_word : List Str := ["store", "word", "row", "pick"]
abbrev p_law_word : List Str := ["store", "word"]
theorem sc_law_word : FnScope n_law_word p_law_word (defScope s_law_word) := ⟨rfl, rfl, rfl, by decide +kernel, rfl, by decide +kernel, by decide +kernel⟩
abbrev s_law_spoilt : Stmt := topS 63
abbrev n_law_spoilt : List Str := ["store", "names", "lines", "out", "place", "pick", "other", "line", "words", "at", "new"]
abbrev p_law_spoilt : List Str := ["store", "names", "lines"]
theorem sc_law_spoilt : FnScope n_law_spoilt p_law_spoilt (defScope s_law_spoilt) := ⟨rfl, rfl, rfl, by decide +kernel, rfl, by decide +kernel, by decide +kernel⟩
abbrev s_law_number_fine : Stmt := topS 64
abbrev n_law_number_fine : List Str := ["word", "sign"]
abbrev p_law_number_fine : List Str := ["word"]
theorem sc_law_number_fine : FnScope n_law_number_fine p_law_number_fine (defScope s_law_number_fine) := ⟨rfl, rfl, rfl, by decide +kernel, rfl, by decide +kernel, by decide +kernel⟩
abbrev s_law_folk_line : Stmt := topS 65
abbrev n_law_folk_line : List Str := ["words", "folk", "watches"]
abbrev p_law_folk_line : List Str := ["words", "folk", "watches"]
theorem sc_law_folk_line : FnScope n_law_folk_line p_law_folk_line (defScope s_law_folk_line) := ⟨rfl, rfl, rfl, by decide +kernel, rfl, by decide +kernel, by decide +kernel⟩
abbrev s_law_watch_line : Stmt := topS 66
abbrev n_law_watch_line : List Str := ["words", "folk", "watches", "names", "triple"]
abbrev p_law_watch_line : List Str := ["words", "folk", "watches"]
theorem sc_law_watch_line : FnScope n_law_watch_line p_law_watch_line (defScope s_law_watch_line) := ⟨rfl, rfl, rfl, by decide +kernel, rfl, by decide +kernel, by decide +kernel⟩
abbrev s_law_read : Stmt := topS 67
abbrev n_law_read : List Str := ["text", "folk", "watches", "lines", "k", "words"]
abbrev p_law_read : List Str := ["text"]
theorem sc_law_read : FnScope n_law_read p_law_read (defScope s_law_read) := ⟨rfl, rfl, rfl, by decide +kernel, rfl, by decide +kernel, by decide +kernel⟩
abbrev s_law_told : Stmt := topS 68
abbrev n_law_told : List Str := ["text", "web", "e"]
abbrev p_law_told : List Str := ["text"]
theorem sc_law_told : FnScope n_law_told p_law_told (defScope s_law_told) := ⟨rfl, rfl, rfl, by decide +kernel, rfl, by decide +kernel, by decide +kernel⟩
abbrev s_law : Stmt := topS 69
abbrev n_law : List Str := ["script", "store", "drawn", "names", "lines", "texts", "k", "spoilt", "turn", "text"]
abbrev p_law : List Str := ["script"]
theorem sc_law : FnScope n_law p_law (defScope s_law) := ⟨rfl, rfl, rfl, by decide +kernel, rfl, by decide +kernel, by decide +kernel⟩
structure Txt (K : PySem.W.Frag) (mg : Str → Option Value) : Prop where
  b_all : mg "all" = none
  b_bool : mg "bool" = none
  b_enumerate : mg "enumerate" = none
  b_int : mg "int" = none
  b_isinstance : mg "isinstance" = none
  b_iter : mg "iter" = none
  b_len : mg "len" = none
  b_list : mg "list" = none
  b_max : mg "max" = none
  b_range : mg "range" = none
  b_sorted : mg "sorted" = none
  b_str : mg "str" = none
  b_sum : mg "sum" = none
  b_tuple : mg "tuple" = none
  c_MOST_FOLK : ∃ u, mg "MOST_FOLK" = some u ∧ RelV (.int 10) u
  c_MOST_NUMBER : ∃ u, mg "MOST_NUMBER" = some u ∧ RelV (.int 9999) u
  c_MOST_WATCHES : ∃ u, mg "MOST_WATCHES" = some u ∧ RelV (.int 24) u
  c_LETTERS : ∃ u, mg "_LETTERS" = some u ∧ RelV (.str "abcdefghijklmnopqrstuvwxyz") u
  c_LETTERS_AND_DIGITS : ∃ u, mg "_LETTERS_AND_DIGITS" = some u ∧ RelV (.str "abcdefghijklmnopqrstuvwxyz0123456789") u
  c_LONGEST_NAME : ∃ u, mg "_LONGEST_NAME" = some u ∧ RelV (.int 8) u
  c_MOST_DIGITS : ∃ u, mg "_MOST_DIGITS" = some u ∧ RelV (.int 4) u
structure Ek (K : PySem.W.Frag) : Prop where
  ok : True
  m_BadName_DrowseError : PySem.W.exmOne K (.ref (gad K "BadName")) (.ref (gad K "DrowseError")) = some true
  k_BadName_BadText : PySem.W.kitOne K (.ref (gad K "BadName")) (.ref (gad K "BadText")) = some false
  k_BadName_BadCount : PySem.W.kitOne K (.ref (gad K "BadName")) (.ref (gad K "BadCount")) = some false
  k_BadName_BadName : PySem.W.kitOne K (.ref (gad K "BadName")) (.ref (gad K "BadName")) = some true
  k_BadName_BadNumber : PySem.W.kitOne K (.ref (gad K "BadName")) (.ref (gad K "BadNumber")) = some false
  k_BadName_Repeated : PySem.W.kitOne K (.ref (gad K "BadName")) (.ref (gad K "Repeated")) = some false
  k_BadName_UnknownFolk : PySem.W.kitOne K (.ref (gad K "BadName")) (.ref (gad K "UnknownFolk")) = some false
  m_BadNumber_DrowseError : PySem.W.exmOne K (.ref (gad K "BadNumber")) (.ref (gad K "DrowseError")) = some true
  k_BadNumber_BadText : PySem.W.kitOne K (.ref (gad K "BadNumber")) (.ref (gad K "BadText")) = some false
  k_BadNumber_BadCount : PySem.W.kitOne K (.ref (gad K "BadNumber")) (.ref (gad K "BadCount")) = some false
  k_BadNumber_BadName : PySem.W.kitOne K (.ref (gad K "BadNumber")) (.ref (gad K "BadName")) = some false
  k_BadNumber_BadNumber : PySem.W.kitOne K (.ref (gad K "BadNumber")) (.ref (gad K "BadNumber")) = some true
  k_BadNumber_Repeated : PySem.W.kitOne K (.ref (gad K "BadNumber")) (.ref (gad K "Repeated")) = some false
  k_BadNumber_UnknownFolk : PySem.W.kitOne K (.ref (gad K "BadNumber")) (.ref (gad K "UnknownFolk")) = some false
  m_BadCount_DrowseError : PySem.W.exmOne K (.ref (gad K "BadCount")) (.ref (gad K "DrowseError")) = some true
  k_BadCount_BadText : PySem.W.kitOne K (.ref (gad K "BadCount")) (.ref (gad K "BadText")) = some false
  k_BadCount_BadCount : PySem.W.kitOne K (.ref (gad K "BadCount")) (.ref (gad K "BadCount")) = some true
  k_BadCount_BadName : PySem.W.kitOne K (.ref (gad K "BadCount")) (.ref (gad K "BadName")) = some false
  k_BadCount_BadNumber : PySem.W.kitOne K (.ref (gad K "BadCount")) (.ref (gad K "BadNumber")) = some false
  k_BadCount_Repeated : PySem.W.kitOne K (.ref (gad K "BadCount")) (.ref (gad K "Repeated")) = some false
  k_BadCount_UnknownFolk : PySem.W.kitOne K (.ref (gad K "BadCount")) (.ref (gad K "UnknownFolk")) = some false
  m_Repeated_DrowseError : PySem.W.exmOne K (.ref (gad K "Repeated")) (.ref (gad K "DrowseError")) = some true
  k_Repeated_BadText : PySem.W.kitOne K (.ref (gad K "Repeated")) (.ref (gad K "BadText")) = some false
  k_Repeated_BadCount : PySem.W.kitOne K (.ref (gad K "Repeated")) (.ref (gad K "BadCount")) = some false
  k_Repeated_BadName : PySem.W.kitOne K (.ref (gad K "Repeated")) (.ref (gad K "BadName")) = some false
  k_Repeated_BadNumber : PySem.W.kitOne K (.ref (gad K "Repeated")) (.ref (gad K "BadNumber")) = some false
  k_Repeated_Repeated : PySem.W.kitOne K (.ref (gad K "Repeated")) (.ref (gad K "Repeated")) = some true
  k_Repeated_UnknownFolk : PySem.W.kitOne K (.ref (gad K "Repeated")) (.ref (gad K "UnknownFolk")) = some false
  m_UnknownFolk_DrowseError : PySem.W.exmOne K (.ref (gad K "UnknownFolk")) (.ref (gad K "DrowseError")) = some true
  k_UnknownFolk_BadText : PySem.W.kitOne K (.ref (gad K "UnknownFolk")) (.ref (gad K "BadText")) = some false
  k_UnknownFolk_BadCount : PySem.W.kitOne K (.ref (gad K "UnknownFolk")) (.ref (gad K "BadCount")) = some false
  k_UnknownFolk_BadName : PySem.W.kitOne K (.ref (gad K "UnknownFolk")) (.ref (gad K "BadName")) = some false
  k_UnknownFolk_BadNumber : PySem.W.kitOne K (.ref (gad K "UnknownFolk")) (.ref (gad K "BadNumber")) = some false
  k_UnknownFolk_Repeated : PySem.W.kitOne K (.ref (gad K "UnknownFolk")) (.ref (gad K "Repeated")) = some false
  k_UnknownFolk_UnknownFolk : PySem.W.kitOne K (.ref (gad K "UnknownFolk")) (.ref (gad K "UnknownFolk")) = some true
  m_SelfWatch_DrowseError : PySem.W.exmOne K (.ref (gad K "SelfWatch")) (.ref (gad K "DrowseError")) = some true
  k_SelfWatch_BadText : PySem.W.kitOne K (.ref (gad K "SelfWatch")) (.ref (gad K "BadText")) = some false
  k_SelfWatch_BadCount : PySem.W.kitOne K (.ref (gad K "SelfWatch")) (.ref (gad K "BadCount")) = some false
  k_SelfWatch_BadName : PySem.W.kitOne K (.ref (gad K "SelfWatch")) (.ref (gad K "BadName")) = some false
  k_SelfWatch_BadNumber : PySem.W.kitOne K (.ref (gad K "SelfWatch")) (.ref (gad K "BadNumber")) = some false
  k_SelfWatch_Repeated : PySem.W.kitOne K (.ref (gad K "SelfWatch")) (.ref (gad K "Repeated")) = some false
  k_SelfWatch_UnknownFolk : PySem.W.kitOne K (.ref (gad K "SelfWatch")) (.ref (gad K "UnknownFolk")) = some false
  m_BadText_DrowseError : PySem.W.exmOne K (.ref (gad K "BadText")) (.ref (gad K "DrowseError")) = some true
  k_BadText_BadText : PySem.W.kitOne K (.ref (gad K "BadText")) (.ref (gad K "BadText")) = some true
  k_BadText_BadCount : PySem.W.kitOne K (.ref (gad K "BadText")) (.ref (gad K "BadCount")) = some false
  k_BadText_BadName : PySem.W.kitOne K (.ref (gad K "BadText")) (.ref (gad K "BadName")) = some false
  k_BadText_BadNumber : PySem.W.kitOne K (.ref (gad K "BadText")) (.ref (gad K "BadNumber")) = some false
  k_BadText_Repeated : PySem.W.kitOne K (.ref (gad K "BadText")) (.ref (gad K "Repeated")) = some false
  k_BadText_UnknownFolk : PySem.W.kitOne K (.ref (gad K "BadText")) (.ref (gad K "UnknownFolk")) = some false
  m_BorderWatch_DrowseError : PySem.W.exmOne K (.ref (gad K "BorderWatch")) (.ref (gad K "DrowseError")) = some true
  k_BorderWatch_BadText : PySem.W.kitOne K (.ref (gad K "BorderWatch")) (.ref (gad K "BadText")) = some false
  k_BorderWatch_BadCount : PySem.W.kitOne K (.ref (gad K "BorderWatch")) (.ref (gad K "BadCount")) = some false
  k_BorderWatch_BadName : PySem.W.kitOne K (.ref (gad K "BorderWatch")) (.ref (gad K "BadName")) = some false
  k_BorderWatch_BadNumber : PySem.W.kitOne K (.ref (gad K "BorderWatch")) (.ref (gad K "BadNumber")) = some false
  k_BorderWatch_Repeated : PySem.W.kitOne K (.ref (gad K "BorderWatch")) (.ref (gad K "Repeated")) = some false
  k_BorderWatch_UnknownFolk : PySem.W.kitOne K (.ref (gad K "BorderWatch")) (.ref (gad K "UnknownFolk")) = some false
end My
namespace My
open PySem PySem.Spec PyProof.Rows L2
local macro_rules | `(tactic| walk_at "my hyp") => `(tactic| first | assumption | exact upd_same | (rw [upd_ne (by assumption)]; assumption) | (rw [upd_ne (by assumption)]; exact upd_same) | (rw [upd_ne (by assumption), upd_ne (by assumption)]; assumption))
local macro_rules | `(tactic| walk_at "my c") => `(tactic| first | assumption | (show (0 : Int) < _; first | assumption | decide | omega) | exact .inr ⟨by decide, by decide⟩ | exact .inl ⟨by decide, by decide⟩ | exact .inl ⟨by omega, by omega⟩ | exact .inr ⟨by omega, by omega⟩ | exact ⟨by decide, by decide⟩ | exact ⟨by decide, by decide, by decide⟩)
local macro_rules | `(tactic| walk_at "my len") => `(tactic| first | omega | ((try simp only [len_app, len_one]); omega) | decide)
local macro_rules | `(tactic| walk_at "my ty") => `(tactic| first | exact .base (.int _) | exact .base (.bl _) | exact .base (.str _) | exact .base .non | exact .base (.lst (by walk_at "my hyp")) | exact .base (.tup (by walk_at "my hyp")) | exact ty_rd (by assumption))
local macro_rules | `(tactic| walk_at "my st") => `(tactic| first
  | (with_reducible refine i_cons ?_)
  | ((with_reducible refine' i_var ?h ?_); (case h => exact rfl))
  | (with_reducible refine i_nil ?_)
  | (with_reducible refine i_c ?_)
  | (with_reducible refine i_op ?_)
  | (with_reducible refine i_bl ?_)
  | (with_reducible refine i_CB ?_)
  | (with_reducible refine i_seq ?_)
  | (with_reducible refine i_if ?_)
  | (with_reducible refine i_B ?_)
  | (with_reducible refine i_call ?_)
  | (with_reducible refine i_gname ?_)
  | (with_reducible refine i_asg ?_)
  | (with_reducible refine i_next ?_)
  | (with_reducible refine i_test ?_)
  | (with_reducible refine iteF ?_)
  | (with_reducible refine iteT ?_)
  | (with_reducible refine i_ret ?_)
  | (with_reducible refine Nx.go ?_)
  | (with_reducible refine i_bits ?_)
  | (with_reducible refine i_shrN ?_)
  | (with_reducible refine i_I0 ?_)
  | (with_reducible refine i_U ?_)
  | ((with_reducible refine' i_eq ?h ?_); (case h => exact rfl))
  | ((with_reducible refine' i_ne ?h ?_); (case h => exact rfl))
  | (with_reducible refine i_chain3 ?_)
  | (with_reducible refine i_bmF ?_)
  | ((with_reducible refine' i_lenL ?h ?_); (case h => exact sqL (by walk_at "my hyp")))
  | ((with_reducible refine' i_lenT ?h ?_); (case h => first | exact sqT (by walk_at "my hyp") | exact sqR (by assumption)))
  | ((with_reducible refine' i_tyL ?h ?_); (case h => exact sqL (by walk_at "my hyp")))
  | ((with_reducible refine' i_lenVL ?h ?_); (case h => exact sqL (by walk_at "my hyp")))
  | ((with_reducible refine' i_lenVT ?h ?_); (case h => first | exact sqT (by walk_at "my hyp") | exact sqR (by assumption)))
  | ((with_reducible refine' i_lenVS ?h ?_); (case h => walk_at "my len"))
  | ((with_reducible refine' i_lenZ ?h ?_); (case h => walk_at "my len"))
  | ((with_reducible refine' i_addZ ?h ?_); (case h => walk_at "my len"))
  | ((with_reducible refine' i_up ?h ?_); (case h => walk_at "my len"))
  | ((with_reducible refine' i_slS ?h ?_); (case h => walk_at "my len"))
  | ((with_reducible refine' i_ixS ?h ?a ?_); (case h => exact Nat.le_trans (m := 100000) (by walk_at "my len") (by decide)); (case a => first | assumption | exact rfl))
  | (with_reducible refine i_nF ?_)
  | (with_reducible refine i_nT ?_)
  | ((with_reducible refine' i_isi1 (b := true) ?h ?a ?_); (case h => walk_at "my ty"); (case a => decide +kernel))
  | ((with_reducible refine' i_isi1 (b := false) ?h ?a ?_); (case h => walk_at "my ty"); (case a => decide +kernel))
  | ((with_reducible refine' i_isi2' true false true ?h ?t ?a ?b rfl ?_); (case h => walk_at "my hyp"); (case t => walk_at "my ty"); (case a => decide +kernel); (case b => decide +kernel))
  | ((with_reducible refine' i_isi2' false true true ?h ?t ?a ?b rfl ?_); (case h => walk_at "my hyp"); (case t => walk_at "my ty"); (case a => decide +kernel); (case b => decide +kernel))
  | ((with_reducible refine' i_isi2' false false false ?h ?t ?a ?b rfl ?_); (case h => walk_at "my hyp"); (case t => walk_at "my ty"); (case a => decide +kernel); (case b => decide +kernel))
  | ((with_reducible refine' i_I ?h ?_); (case h => walk_at "my c"))
  | ((with_reducible refine' i_ixL ?h ?a ?_); (case h => exact sqL (by walk_at "my hyp")); (case a => exact rfl))
  | ((with_reducible refine' i_ixT ?h ?a ?_); (case h => first | exact sqT (by walk_at "my hyp") | exact sqR (by assumption)); (case a => exact rfl))
  | ((with_reducible refine' i_ixAL ?h ?a ?_); (case h => exact sqL (by walk_at "my hyp")); (case a => first | assumption | exact rfl))
  | ((with_reducible refine' i_ixAT ?h ?a ?_); (case h => first | exact sqT (by walk_at "my hyp") | exact sqR (by assumption)); (case a => first | assumption | exact rfl))
  | ((with_reducible refine' i_setL ?h ?a ?_); (case h => walk_at "my hyp"); (case a => exact rfl)))
local macro_rules | `(tactic| walk_at "my or") => `(tactic| first
  | ((with_reducible refine' i_orP _ _ ?h1 ?h2 ?q); (case h1 => intro tq q; (repeat (first | walk_at "my or" | walk_at "my st")); exact q); (case h2 => intro tq q; (repeat (first | walk_at "my or" | walk_at "my st")); exact q))
  | ((with_reducible refine' i_andP _ _ ?h1 ?h2 ?q); (case h1 => intro tq q; (repeat (first | walk_at "my or" | walk_at "my st")); exact q); (case h2 => intro _ tq q; (repeat (first | walk_at "my or" | walk_at "my st")); exact q)))
local macro_rules | `(tactic| walk_at "my ots") => `(tactic| repeat (first | walk_at "my or" | walk_at "my st"))
local macro_rules | `(tactic| walk_at "my ab") => `(tactic| first
  | ((with_reducible refine' a_add ?h ?_); (case h => walk_at "my len"); intro w hw)
  | ((with_reducible refine' a_sl ?h ?_); (case h => walk_at "my len"); intro w hw)
  | ((with_reducible refine' a_up ?h ?_); (case h => walk_at "my len"); intro w hw)
  | walk_at "my st")
local macro_rules | `(tactic| walk_at "my abs") => `(tactic| repeat (walk_at "my ab"))
local macro_rules | `(tactic| walk_at "my sts") => `(tactic| repeat (walk_at "my st"))
local macro_rules | `(tactic| walk_at "my go") => `(tactic| first
  | walk_at "my st"
  | ((with_reducible refine' i_inStr ?h ?_); (case h => exact sqL (by walk_at "my hyp")))
  | ((with_reducible refine' i_inStrT ?h ?_); (case h => exact sqT (by walk_at "my hyp")))
  | ((with_reducible refine' i_notInStr ?h ?_); (case h => exact sqL (by walk_at "my hyp")))
  | ((with_reducible refine' i_notInStrT ?h ?_); (case h => exact sqT (by walk_at "my hyp")))
  | ((with_reducible refine' i_inLt ?h ?_); (case h => first | assumption | exact .inl (by walk_at "my hyp") | exact .inr (by walk_at "my hyp")))
  | ((with_reducible refine' i_ninLt ?h ?_); (case h => first | assumption | exact .inl (by walk_at "my hyp") | exact .inr (by walk_at "my hyp"))))
local macro_rules | `(tactic| walk_at "gor") => `(tactic| first
  | ((with_reducible refine' i_orP _ _ ?h1 ?h2 ?q); (case h1 => intro tq q; (repeat (first | walk_at "gor" | walk_at "my go")); exact q); (case h2 => intro tq q; (repeat (first | walk_at "gor" | walk_at "my go")); exact q))
  | ((with_reducible refine' i_andP _ _ ?h1 ?h2 ?q); (case h1 => intro tq q; (repeat (first | walk_at "gor" | walk_at "my go")); exact q); (case h2 => intro _ tq q; (repeat (first | walk_at "gor" | walk_at "my go")); exact q)))
local macro_rules | `(tactic| walk_at "gos") => `(tactic| repeat (walk_at "my go"))
local macro_rules | `(tactic| walk_at "gots") => `(tactic| repeat (first | walk_at "gor" | walk_at "my go"))
section
variable {P : Program} {w : World} {K : PySem.W.Frag} {mg : Str → Option Value} {base : Heap} {LT : List (Addr × Str)}
def sp_law_store (K : PySem.W.Frag) : Sp := fun vs H Q _ => ∃ (a : Addr) (ns : List Int), vs = [.ref a] ∧ SqL K H a (ns.map V.int) ∧ ns.length ≤ 1000 ∧ ∀ s H', H s = none → StOk H' s → Same H H' → Q (.ref s) H'
theorem ok_law_store {f : Addr} {fd : FuncData}
    (T : Txt K mg) (D : Dn K mg "_law_store" s_law_store p_law_store f fd) : FnOk P w K mg base CX0 1 f fd p_law_store (sp_law_store K) := by
  refine D.F.ok sc_law_store (fun vs H Q E h => ?_) (fun cdv A outer s H vs Q E hr h => ?_)
  · obtain ⟨a, ns, rfl, _⟩ := h
    rfl
  · obtain ⟨a, ns, rfl, hS, hl, k⟩ := h
    refine ⟨_, (pss_cons (ps_set (i := 1) sc_law_store.nd rfl (Or.inl rfl) (pe_op op_add pe_int (pe_op op_mul pe_int (pe_callB (n_lenQK (K := K) rfl) (by rfl) T.b_len (by decide +kernel) (pa_cons (pv 0) pa_nil)))))
  (pss_cons (ps_for PassesOwn.never rfl (pi_list (pv 0)) (pg_name (i := 2) sc_law_store.nd rfl (Or.inl rfl))
   (pss_one (ps_set (i := 1) sc_law_store.nd rfl (Or.inl rfl) (pe_op op_add (pv 1) (pe_op op_mod (pe_callTy n_int (by rfl) T.b_int (by decide +kernel) (pa_cons (pv 2) pa_nil)) pe_int)))))
  (pss_one (ps_ret (pe_lst (pa_cons (pe_callTy (n_listK (K := K) rfl) (by rfl) T.b_list (by decide +kernel) (pa_cons (pv 0) pa_nil)) (pa_cons pe_int (pa_cons pe_int (pa_cons pe_int (pa_cons pe_int (pa_cons pe_int (pa_cons (pe_op op_mod (pe_callTy n_int (by rfl) T.b_int (by decide +kernel) (pa_cons (pv 1) pa_nil)) pe_int) pa_nil)))))))))))), ?_⟩
    walk_at "my sts"
    refine i_lenL hS ?_
    walk_at "my sts"
    refine fl (xs := ns.map V.int) hS (fun i σ' H' => H' = H ∧ ∃ t c, σ' = [some (.ref a), some (.int t), c]) ⟨rfl, _, none, rfl⟩ (fun i σ' H' _ h => h.1 ▸ hS) ?_ ?_
    · rintro i x σ' H' hx ⟨rfl, t, c, rfl⟩
      obtain ⟨z, rfl⟩ : ∃ z, x = V.int z := by
        rw [List.getElem?_map] at hx
        obtain ⟨z, _, e⟩ := Option.map_eq_some_iff.mp hx
        exact ⟨z, e.symm⟩
      walk_at "my sts"
      exact ⟨rfl, _, _, rfl⟩
    · rintro σ' H' ⟨rfl, t, c, rfl⟩
      walk_at "my sts"
      refine i_listL hS fun q hq => ?_
      walk_at "my sts"
      refine ⟨by show 7 ≤ sizeLine; decide, fun p hp => ?_⟩
      have nqp : p ≠ q := fun e => by
        rw [e, upd_same] at hp
        cases hp
      refine k p _ (by rw [upd_ne nqp] at hp; exact hp) ⟨q, ns, 0, 0, 0, 0, 0, _, upd_same, by rw [upd_ne nqp.symm, upd_same], nqp.symm, Int.le_refl _⟩ ?_
      exact (same_new hq).trans (same_new hp)
def sp_law_next (K : PySem.W.Frag) : Sp := fun vs H Q _ => ∃ s, vs = [.ref s] ∧ StOk H s ∧ ∀ H', StOk H' s → Fr s H H' → Q .non H'
theorem ok_law_next {f : Addr} {fd : FuncData}
    (T : Txt K mg) (D : Dn K mg "_law_next" s_law_next p_law_next f fd) : FnOk P w K mg base CX0 1 f fd p_law_next (sp_law_next K) := by
  refine D.F.ok sc_law_next (fun vs H Q E h => ?_) (fun cdv A outer s' H vs Q E hr h => ?_)
  · obtain ⟨s, rfl, _⟩ := h
    rfl
  · obtain ⟨s, rfl, hst, k⟩ := h
    obtain ⟨q, ns, i1, n2, i3, i4, i5, i6, hs, hq, nq, h0⟩ := hst
    refine ⟨_, (pss_cons (ps_if (pt_cmpR op_ge (pe_ix (ix_listK (K := K) rfl) (pv 0) pe_int (fun _ _ => rfl)) (pe_callB (n_lenQK (K := K) rfl) (by rfl) T.b_len (by decide +kernel) (pa_cons (pe_ix (ix_listK (K := K) rfl) (pv 0) pe_int (fun _ _ => rfl)) pa_nil)) (nomark _)) (pss_cons (ps_asg (pe_ix (ix_listK (K := K) rfl) (pv 0) pe_int (fun _ _ => rfl)) (pg_sub (pv 0) pe_int set_list))
  (pss_cons (ps_asg pe_int (pg_sub (pv 0) pe_int set_list))
  (pss_one (ps_ret pe_non)))) pss_nil)
  (pss_cons (ps_set (i := 1) sc_law_next.nd rfl (Or.inl rfl) (pe_callTy n_int (by rfl) T.b_int (by decide +kernel) (pa_cons (pe_ix (ix_listK (K := K) rfl) (pe_ix (ix_listK (K := K) rfl) (pv 0) pe_int (fun _ _ => rfl)) (pe_ix (ix_listK (K := K) rfl) (pv 0) pe_int (fun _ _ => rfl)) (fun _ _ => rfl)) pa_nil)))
  (pss_cons (ps_asg (pe_op op_add (pe_ix (ix_listK (K := K) rfl) (pv 0) pe_int (fun _ _ => rfl)) pe_int) (pg_sub (pv 0) pe_int set_list))
  (pss_cons (ps_if (pt_cmpR op_ge (pv 1) (pe_op op_pow pe_int pe_int) (nomark _)) (pss_one (ps_asg (pv 1) (pg_sub (pv 0) pe_int set_list))) (pss_cons (ps_asg (pe_op op_mod (pv 1) pe_int) (pg_sub (pv 0) pe_int set_list))
  (pss_one (ps_asg pe_int (pg_sub (pv 0) pe_int set_list)))))
  (pss_one (ps_ret pe_non)))))), ?_⟩
    walk_at "my sts"
    refine i_ite (fun hb => ?_) fun hb => ?_
    · walk_at "my sts"
      exact k _ ⟨q, ns, i1, n2, i3, _, _, i6, upd_same, by rw [upd_ne nq, upd_ne nq]; exact hq, nq, h0⟩ (Fr.set (Fr.set Fr.refl hs) upd_same)
    · have hb := of_decide_eq_false hb
      have hj : i1.toNat < ns.length := by
        rw [List.length_map] at hb
        omega
      have hi : atI (ns.map V.int) i1 = some (V.int ns[i1.toNat]) := at_of (j := i1.toNat) (by omega) (by rw [List.getElem?_map, List.getElem?_eq_getElem hj]; rfl)
      walk_at "my sts"
      refine i_ixL (sqL hq) hi ?_
      walk_at "my sts"
      refine i_ite (fun hc => ?_) fun hc => ?_
      · walk_at "my sts"
        exact k _ ⟨q, ns, i1 + 1, _, i3, _, _, i6, upd_same, by rw [upd_ne nq, upd_ne nq]; exact hq, nq, by omega⟩ (Fr.set (Fr.set Fr.refl hs) upd_same)
      · walk_at "my sts"
        exact k _ ⟨q, ns, i1 + 1, _, i3, _, _, i6, upd_same, by rw [upd_ne nq, upd_ne nq, upd_ne nq]; exact hq, nq, by omega⟩ (Fr.set (Fr.set (Fr.set Fr.refl hs) upd_same) upd_same)
def sp_law_raw (K : PySem.W.Frag) : Sp := fun vs H Q _ => ∃ s, vs = [.ref s] ∧ StOk H s ∧ ∀ n H', 0 ≤ n → n < 1000003 → StOk H' s → Fr s H H' → Q (.int n) H'
theorem ok_law_raw {f : Addr} {fd : FuncData}
    (T : Txt K mg) (D : Dn K mg "_law_raw" s_law_raw p_law_raw f fd) : FnOk P w K mg base CX0 1 f fd p_law_raw (sp_law_raw K) := by
  refine D.F.ok sc_law_raw (fun vs H Q E h => ?_) (fun cdv A outer s' H vs Q E hr h => ?_)
  · obtain ⟨s, rfl, _⟩ := h
    rfl
  · obtain ⟨s, rfl, hst, k⟩ := h
    obtain ⟨q, ns, i1, n2, i3, i4, i5, i6, hs, hq, nq, h0⟩ := hst
    refine ⟨_, (pss_cons (ps_asg (pe_op op_add (pe_ix (ix_listK (K := K) rfl) (pv 0) pe_int (fun _ _ => rfl)) pe_int) (pg_sub (pv 0) pe_int set_list))
  (pss_cons (ps_set (i := 1) sc_law_raw.nd rfl (Or.inl rfl) (pe_op op_mod (pe_callTy n_int (by rfl) T.b_int (by decide +kernel) (pa_cons (pe_op op_add (pe_op op_add (pe_op op_mul (pe_ix (ix_listK (K := K) rfl) (pv 0) pe_int (fun _ _ => rfl)) pe_int) (pe_op op_mul (pe_ix (ix_listK (K := K) rfl) (pv 0) pe_int (fun _ _ => rfl)) pe_int)) pe_int) pa_nil)) pe_int))
  (pss_cons (ps_set (i := 2) sc_law_raw.nd rfl (Or.inl rfl) (pe_op op_mod (pe_callTy n_int (by rfl) T.b_int (by decide +kernel) (pa_cons (pe_op op_add (pe_op op_mul (pv 1) (pv 1)) (pe_ix (ix_listK (K := K) rfl) (pv 0) pe_int (fun _ _ => rfl))) pa_nil)) pe_int))
  (pss_one (ps_ret (pe_op op_mod (pe_callTy n_int (by rfl) T.b_int (by decide +kernel) (pa_cons (pe_op op_add (pe_op op_mul (pv 2) (pv 2)) (pv 1)) pa_nil)) pe_int)))))), ?_⟩
    walk_at "my sts"
    exact k _ _ (Int.emod_nonneg _ (by decide)) (Int.emod_lt_of_pos _ (by decide)) ⟨q, ns, i1, n2, _, _, _, _, upd_same, by rw [upd_ne nq]; exact hq, nq, h0⟩ (Fr.set Fr.refl hs)
def sp_law_take (K : PySem.W.Frag) : Sp := fun vs H Q _ => ∃ (s : Addr) (many : Int), vs = [.ref s, .int many] ∧ StOk H s ∧ many < 10 ^ 70 ∧ ∀ n H', 0 ≤ n → (n < many ∨ n = 0) → StOk H' s → Fr s H H' → Q (.int n) H'
theorem ok_law_take {f : Addr} {fd : FuncData}
    {f_law_next : Addr} {fd_law_next : FuncData} (D_law_next : Dn K mg "_law_next" s_law_next p_law_next f_law_next fd_law_next) (G_law_next : FnOk P w K mg base CX0 1 f_law_next fd_law_next p_law_next (sp_law_next K))
    {f_law_raw : Addr} {fd_law_raw : FuncData} (D_law_raw : Dn K mg "_law_raw" s_law_raw p_law_raw f_law_raw fd_law_raw) (G_law_raw : FnOk P w K mg base CX0 1 f_law_raw fd_law_raw p_law_raw (sp_law_raw K))
    (T : Txt K mg) (D : Dn K mg "_law_take" s_law_take p_law_take f fd) : FnOk P w K mg base CX0 2 f fd p_law_take (sp_law_take K) := by
  refine D.F.ok sc_law_take (fun vs H Q E h => ?_) (fun cdv A outer s' H vs Q E hr h => ?_)
  · obtain ⟨s, many, rfl, _⟩ := h
    rfl
  · obtain ⟨s, many, rfl, hst, hm, k⟩ := h
    refine ⟨_, (pss_cons (ps_if (pt_cmpR op_le (pv 1) pe_int (nomark _)) (pss_one (ps_ret pe_int)) pss_nil)
  (Evl.pss_cut (ps_if (PW.pt (pw_and (pt_cmpR op_eq (pe_ix (ix_listK (K := K) rfl) (pv 0) pe_int (fun _ _ => rfl)) pe_int (nomark _)) (pw_and1 (pt_cmpR op_eq (pe_ix (ix_listK (K := K) rfl) (pv 0) pe_int (fun _ _ => rfl)) pe_int (nomark _))))) (pss_one (ps_expr (pe_call G_law_next (hr.mono (by omega)) (by rfl) D_law_next.m D_law_next.F.kp D_law_next.b .nil pass0 (pa_cons (pv 0) pa_nil)))) pss_nil)
  (pss_cons (ps_if (pt_cmpR op_gt (pe_ix (ix_listK (K := K) rfl) (pv 0) pe_int (fun _ _ => rfl)) pe_int (nomark _)) (pss_cons (ps_set (i := 2) sc_law_take.nd rfl (Or.inl rfl) (pe_op op_mod (pe_callTy n_int (by rfl) T.b_int (by decide +kernel) (pa_cons (pe_ix (ix_listK (K := K) rfl) (pv 0) pe_int (fun _ _ => rfl)) pa_nil)) (pv 1)))
  (pss_cons (ps_asg (pe_op op_fdivW (pe_callTy n_int (by rfl) T.b_int (by decide +kernel) (pa_cons (pe_ix (ix_listK (K := K) rfl) (pv 0) pe_int (fun _ _ => rfl)) pa_nil)) (pv 1)) (pg_sub (pv 0) pe_int set_list))
  (pss_one (ps_ret (pv 2))))) pss_nil)
  (pss_cons (ps_asg (pe_op op_sub (pe_ix (ix_listK (K := K) rfl) (pv 0) pe_int (fun _ _ => rfl)) pe_int) (pg_sub (pv 0) pe_int set_list))
  (pss_cons (ps_set (i := 2) sc_law_take.nd rfl (Or.inl rfl) pe_int)
  (pss_cons (ps_set (i := 3) sc_law_take.nd rfl (Or.inl rfl) pe_int)
  (pss_cons (ps_for PassesOwn.never rfl (pi_range1 (by rfl) T.b_range (pa_cons pe_int pa_nil)) (pg_name (i := 4) sc_law_take.nd rfl (Or.inl rfl))
   (pss_cons (ps_if (pt_cmpR op_ge (pv 3) (pe_op op_mul (pv 1) pe_int) (nomark _)) (pss_one ps_break) pss_nil)
  (pss_cons (ps_set (i := 2) sc_law_take.nd rfl (Or.inl rfl) (pe_op op_add (pe_op op_mul (pv 2) pe_int) (pe_call G_law_raw (hr.mono (by omega)) (by rfl) D_law_raw.m D_law_raw.F.kp D_law_raw.b .nil pass0 (pa_cons (pv 0) pa_nil))))
  (pss_one (ps_set (i := 3) sc_law_take.nd rfl (Or.inl rfl) (pe_op op_mul (pv 3) pe_int))))))
  (pss_one (ps_ret (pe_op op_mod (pe_callTy n_int (by rfl) T.b_int (by decide +kernel) (pa_cons (pv 2) pa_nil)) (pv 1))))))))))), ?_⟩
    walk_at "my sts"
    refine i_ite (fun hb => ?_) fun hb => ?_
    · walk_at "my sts"
      exact k _ _ (Int.le_refl _) (.inr rfl) hst Fr.refl
    · have hb := of_decide_eq_false hb
      walk_at "my sts"
      refine i_cut (fun σ' H' => σ' = L2.start n_law_take [.ref s, .int many] ∧ StOk H' s ∧ Fr s H H') ?_ ?_
      · obtain ⟨q, ns, i1, n2, i3, i4, i5, i6, hs, hq, nq, h0⟩ := id hst
        have next : ∀ (nx : L2.St → Hp → Prop), nx = (fun σ' H' => σ' = L2.start n_law_take [.ref s, .int many] ∧ StOk H' s ∧ Fr s H H') → nx (L2.start n_law_take [.ref s, .int many]) H := fun nx e => by
          rw [e]
          exact ⟨rfl, hst, Fr.refl⟩
        walk_at "my sts"
        refine i_ite (fun _ => ?_) fun _ => ?_
        · walk_at "my sts"
          refine i_ite (fun _ => ?_) fun _ => ?_
          · walk_at "my sts"
            exact ⟨s, rfl, hst, fun H' h1 h2 => ⟨rfl, h1, h2⟩⟩
          · walk_at "my sts"
            exact ⟨rfl, hst, Fr.refl⟩
        · walk_at "my sts"
          exact ⟨rfl, hst, Fr.refl⟩
      · rintro σ' H' ⟨rfl, hst', hf⟩
        obtain ⟨q, ns, i1, n2, i3, i4, i5, i6, hs, hq, nq, h0⟩ := id hst'
        walk_at "my sts"
        refine i_ite (fun h2 => ?_) fun h2 => ?_
        · have hW : CDivW n2 many := wide_div (b := 250) (by omega) (by omega) (by decide) (by decide)
          have h2 := of_decide_eq_true h2
          walk_at "my sts"
          exact k _ _ (Int.emod_nonneg _ (by omega)) (.inl (Int.emod_lt_of_pos _ (by omega))) ⟨q, ns, i1, _, _, _, _, _, upd_same, by rw [upd_ne nq]; exact hq, nq, h0⟩ (Fr.set hf hs)
        · walk_at "my sts"
          refine fr1 (by decide) (by decide) (fun i σ2 H2 => ∃ (number size : Int) (kk : Option V), σ2 = [some (.ref s), some (.int many), some (.int number), some (.int size), kk] ∧ StOk H2 s ∧ Fr s H H2) ⟨0, 1, none, rfl, ⟨q, ns, i1, _, _, _, _, _, upd_same, by rw [upd_ne nq]; exact hq, nq, h0⟩, Fr.set hf hs⟩ ?_ ?_
          · rintro i σ2 H2 _ ⟨number, size, kk, rfl, hst2, hf2⟩
            walk_at "my sts"
            refine i_ite (fun _ => ?_) fun _ => ?_
            · walk_at "my sts"
              exact k _ _ (Int.emod_nonneg _ (by omega)) (.inl (Int.emod_lt_of_pos _ (by omega))) hst2 hf2
            · walk_at "my sts"
              refine ⟨s, rfl, hst2, fun n H3 _ _ hst3 hf3 => ?_⟩
              walk_at "my sts"
              exact ⟨_, _, _, rfl, hst3, hf2.trans hf3⟩
          · rintro σ2 H2 ⟨number, size, kk, rfl, hst2, hf2⟩
            walk_at "my sts"
            exact k _ _ (Int.emod_nonneg _ (by omega)) (.inl (Int.emod_lt_of_pos _ (by omega))) hst2 hf2
def sp_law_pick (K : PySem.W.Frag) : Sp := fun vs H Q _ => ∃ (s : Addr) (x : V), vs = [.ref s, x] ∧ StOk H s ∧
  ((∃ (p : Addr) (xs : List V), x = .ref p ∧ H p = some (.lst xs) ∧ p ≠ s ∧ 0 < xs.length ∧ xs.length < 10 ^ 9 ∧ ∀ v H', v ∈ xs → StOk H' s → Fr s H H' → Q v H') ∨
  (∃ z : Str, x = .str z ∧ 0 < z.length ∧ z.length ≤ 1000 ∧ ∀ c H', c ∈ z.cps.toList → StOk H' s → Fr s H H' → Q (.str ⟨#[c]⟩) H') ∨
  ∃ (p : Addr) (xs : List V), x = .ref p ∧ Lt2 H p xs ∧ p ≠ s ∧ 0 < xs.length ∧ xs.length < 10 ^ 9 ∧ ∀ v H', v ∈ xs → StOk H' s → Fr s H H' → Q v H')
theorem ok_law_pick {f : Addr} {fd : FuncData}
    {f_law_take : Addr} {fd_law_take : FuncData} (D_law_take : Dn K mg "_law_take" s_law_take p_law_take f_law_take fd_law_take) (G_law_take : FnOk P w K mg base CX0 2 f_law_take fd_law_take p_law_take (sp_law_take K))
    (T : Txt K mg) (D : Dn K mg "_law_pick" s_law_pick p_law_pick f fd) : FnOk P w K mg base CX0 3 f fd p_law_pick (sp_law_pick K) := by
  refine D.F.ok sc_law_pick (fun vs H Q E h => ?_) (fun cdv A outer s' H vs Q E hr h => ?_)
  · obtain ⟨s, x, rfl, _⟩ := h
    rfl
  · obtain ⟨s, x, rfl, hst, k⟩ := h
    refine ⟨_, (pss_one (ps_ret (pe_ix (ix_seqK (K := K) rfl) (pv 1) (pe_call G_law_take (hr.mono (by omega)) (by rfl) D_law_take.m D_law_take.F.kp D_law_take.b .nil pass0 (pa_cons (pv 0) (pa_cons (pe_callB (n_lenVK (K := K) rfl) (by rfl) T.b_len (by decide +kernel) (pa_cons (pv 1) pa_nil)) pa_nil))) (fun _ _ => rfl)))), ?_⟩
    rcases k with ⟨p, xs, rfl, hp, np, h0, hl, k⟩ | ⟨z, rfl, h0, hl, k⟩ | ⟨p, xs, rfl, hp, np, h0, hl, k⟩
    · walk_at "my sts"
      refine ⟨s, _, rfl, hst, by omega, fun n H1 n0 n1 hst1 hf1 => ?_⟩
      have hn : n.toNat < xs.length := by omega
      refine i_ixAL (sqL (hf1.1 _ _ hp np)) (at_of (j := n.toNat) (by omega) (List.getElem?_eq_getElem hn)) ?_
      exact k _ _ (List.getElem_mem hn) hst1 hf1
    · walk_at "my sts"
      refine ⟨s, _, rfl, hst, by omega, fun n H1 n0 n1 hst1 hf1 => ?_⟩
      obtain ⟨c, hc, hm⟩ := at_str (z := z) (i := n) n0 (by omega)
      refine i_ixAS (Nat.le_trans hl (by decide)) hc ?_
      exact k _ _ hm hst1 hf1
    · walk_at "my sts"
      refine i_lenVLt hp ?_
      walk_at "my sts"
      refine ⟨s, _, rfl, hst, by omega, fun n H1 n0 n1 hst1 hf1 => ?_⟩
      have hn : n.toNat < xs.length := by omega
      have ha : atI xs n = some xs[n.toNat] := at_of (j := n.toNat) (by omega) (List.getElem?_eq_getElem hn)
      rcases hp.fr np hf1 with h | h
      · refine i_ixAL (sqL h) ha ?_
        exact k _ _ (List.getElem_mem hn) hst1 hf1
      · refine i_ixAT (sqT h) ha ?_
        exact k _ _ (List.getElem_mem hn) hst1 hf1
def sp_law_some (K : PySem.W.Frag) : Sp := fun vs H Q _ => ∃ (s : Addr) (low high : Int), vs = [.ref s, .int low, .int high] ∧ StOk H s ∧ high - low < 10 ^ 69 ∧ ∀ n H', low ≤ n → (n ≤ high ∨ n = low) → StOk H' s → Fr s H H' → Q (.int n) H'
theorem ok_law_some {f : Addr} {fd : FuncData}
    {f_law_take : Addr} {fd_law_take : FuncData} (D_law_take : Dn K mg "_law_take" s_law_take p_law_take f_law_take fd_law_take) (G_law_take : FnOk P w K mg base CX0 2 f_law_take fd_law_take p_law_take (sp_law_take K))
    (T : Txt K mg) (D : Dn K mg "_law_some" s_law_some p_law_some f fd) : FnOk P w K mg base CX0 3 f fd p_law_some (sp_law_some K) := by
  refine D.F.ok sc_law_some (fun vs H Q E h => ?_) (fun cdv A outer s' H vs Q E hr h => ?_)
  · obtain ⟨s, low, high, rfl, _⟩ := h
    rfl
  · obtain ⟨s, low, high, rfl, hst, hm, k⟩ := h
    refine ⟨_, (pss_cons (ps_if (pt_cmpR op_le (pv 2) (pv 1) (nomark _)) (pss_one (ps_ret (pv 1))) pss_nil)
  (pss_cons (ps_set (i := 3) sc_law_some.nd rfl (Or.inl rfl) (pe_call G_law_take (hr.mono (by omega)) (by rfl) D_law_take.m D_law_take.F.kp D_law_take.b .nil pass0 (pa_cons (pv 0) (pa_cons pe_int pa_nil))))
  (pss_cons (ps_if (pt_cmpR op_eq (pv 3) pe_int (nomark _)) (pss_one (ps_ret (pv 1))) pss_nil)
  (pss_cons (ps_if (pt_cmpR op_eq (pv 3) pe_int (nomark _)) (pss_one (ps_ret (pv 2))) pss_nil)
  (pss_one (ps_ret (pe_op op_add (pv 1) (pe_call G_law_take (hr.mono (by omega)) (by rfl) D_law_take.m D_law_take.F.kp D_law_take.b .nil pass0 (pa_cons (pv 0) (pa_cons (pe_op op_add (pe_op op_sub (pv 2) (pv 1)) pe_int) pa_nil)))))))))), ?_⟩
    walk_at "my sts"
    refine i_ite (fun hb => ?_) fun hb => ?_
    · walk_at "my sts"
      exact k _ _ (Int.le_refl _) (.inr rfl) hst Fr.refl
    · have hb := of_decide_eq_false hb
      walk_at "my sts"
      refine ⟨s, 6, rfl, hst, by decide, fun n H1 n0 n6 hst1 hf1 => ?_⟩
      walk_at "my sts"
      refine i_ite (fun _ => ?_) fun _ => ?_
      · walk_at "my sts"
        exact k _ _ (Int.le_refl _) (.inr rfl) hst1 hf1
      · walk_at "my sts"
        refine i_ite (fun _ => ?_) fun _ => ?_
        · walk_at "my sts"
          exact k _ _ (by omega) (.inl (Int.le_refl _)) hst1 hf1
        · walk_at "my sts"
          refine ⟨s, _, rfl, hst1, by omega, fun n2 H2 m0 m1 hst2 hf2 => ?_⟩
          walk_at "my sts"
          exact k _ _ (by omega) (by omega) hst2 (hf1.trans hf2)
def sp_law_name (K : PySem.W.Frag) : Sp := fun vs H Q _ => ∃ (s : Addr), vs = [.ref s] ∧ StOk H s ∧ ∀ (z : Str) H', nameB z = true → StOk H' s → Fr s H H' → Q (.str z) H'
theorem ok_law_name {f : Addr} {fd : FuncData}
    {f_law_take : Addr} {fd_law_take : FuncData} (D_law_take : Dn K mg "_law_take" s_law_take p_law_take f_law_take fd_law_take) (G_law_take : FnOk P w K mg base CX0 2 f_law_take fd_law_take p_law_take (sp_law_take K))
    {f_law_pick : Addr} {fd_law_pick : FuncData} (D_law_pick : Dn K mg "_law_pick" s_law_pick p_law_pick f_law_pick fd_law_pick) (G_law_pick : FnOk P w K mg base CX0 3 f_law_pick fd_law_pick p_law_pick (sp_law_pick K))
    {f_law_some : Addr} {fd_law_some : FuncData} (D_law_some : Dn K mg "_law_some" s_law_some p_law_some f_law_some fd_law_some) (G_law_some : FnOk P w K mg base CX0 3 f_law_some fd_law_some p_law_some (sp_law_some K))
    (T : Txt K mg) (D : Dn K mg "_law_name" s_law_name p_law_name f fd) : FnOk P w K mg base CX0 4 f fd p_law_name (sp_law_name K) := by
  refine D.F.ok sc_law_name (fun vs H Q E h => ?_) (fun cdv A outer s' H vs Q E hr h => ?_)
  · obtain ⟨s, rfl, _⟩ := h
    rfl
  · obtain ⟨s, rfl, hst, k⟩ := h
    refine ⟨_, (pss_cons (ps_set (i := 1) sc_law_name.nd rfl (Or.inl rfl) (pe_lst (pa_cons pe_str (pa_cons pe_str (pa_cons pe_str (pa_cons pe_str (pa_cons pe_str (pa_cons pe_str (pa_cons pe_str (pa_cons pe_str (pa_cons pe_str (pa_cons pe_str (pa_cons pe_str (pa_cons pe_str (pa_cons pe_str pa_nil)))))))))))))))
  (pss_cons (ps_set (i := 1) sc_law_name.nd rfl (Or.inl rfl) (pe_op op_cat (pv 1) (pe_lst (pa_cons pe_str (pa_cons pe_str (pa_cons pe_str (pa_cons pe_str (pa_cons pe_str (pa_cons pe_str (pa_cons pe_str (pa_cons pe_str (pa_cons pe_str (pa_cons pe_str (pa_cons pe_str pa_nil))))))))))))))
  (pss_cons (ps_set (i := 1) sc_law_name.nd rfl (Or.inl rfl) (pe_op op_cat (pv 1) (pe_lst (pa_cons pe_str (pa_cons pe_str (pa_cons pe_str (pa_cons pe_str (pa_cons pe_str (pa_cons pe_str (pa_cons pe_str (pa_cons pe_str (pa_cons pe_str (pa_cons pe_str (pa_cons pe_str (pa_cons pe_str pa_nil)))))))))))))))
  (pss_cons (ps_if (pt_cmpR op_eq (pe_call G_law_take (hr.mono (by omega)) (by rfl) D_law_take.m D_law_take.F.kp D_law_take.b .nil pass0 (pa_cons (pv 0) (pa_cons pe_int pa_nil))) pe_int (nomark _)) (pss_one (ps_ret (pe_call G_law_pick (hr.mono (by omega)) (by rfl) D_law_pick.m D_law_pick.F.kp D_law_pick.b .nil pass0 (pa_cons (pv 0) (pa_cons (pv 1) pa_nil))))) pss_nil)
  (pss_cons (ps_set (i := 2) sc_law_name.nd rfl (Or.inl rfl) pe_str)
  (pss_cons (ps_set (i := 3) sc_law_name.nd rfl (Or.inl rfl) (pe_ix ix_str (pv 2) (pe_call G_law_take (hr.mono (by omega)) (by rfl) D_law_take.m D_law_take.F.kp D_law_take.b .nil pass0 (pa_cons (pv 0) (pa_cons pe_int pa_nil))) (fun _ _ => rfl)))
  (pss_cons (ps_for PassesOwn.never rfl (pi_range1 (by rfl) T.b_range (pa_cons (pe_op op_sub (pe_call G_law_some (hr.mono (by omega)) (by rfl) D_law_some.m D_law_some.F.kp D_law_some.b .nil pass0 (pa_cons (pv 0) (pa_cons pe_int (pa_cons pe_int pa_nil)))) pe_int) pa_nil)) (pg_name (i := 4) sc_law_name.nd rfl (Or.inl rfl))
   (pss_one (ps_set (i := 3) sc_law_name.nd rfl (Or.inl rfl) (pe_op n_addZ (pv 3) (pe_ix ix_str (pv 2) (pe_call G_law_take (hr.mono (by omega)) (by rfl) D_law_take.m D_law_take.F.kp D_law_take.b .nil pass0 (pa_cons (pv 0) (pa_cons pe_int pa_nil))) (fun _ _ => rfl))))))
  (pss_one (ps_ret (pv 3)))))))))), ?_⟩
    walk_at "my sts"
    refine lst_p (fun ys => ys.all okName = true ∧ ys.length = 13) ⟨by decide +kernel, by decide⟩ (by decide) fun p1 y1 H1 hp1 s1 h1 r1 => ?_
    obtain ⟨r1, l1⟩ := r1
    walk_at "my sts"
    refine lst_p (fun ys => ys.all okName = true ∧ ys.length = 11) ⟨by decide +kernel, by decide⟩ (by decide) fun p2 y2 H2 hp2 s2 h2 r2 => ?_
    obtain ⟨r2, l2⟩ := r2
    walk_at "my sts"
    refine cat_end (s2 _ _ h1) h2 (by omega) fun p3 H3 hp3 s3 h3 => ?_
    walk_at "my sts"
    refine lst_p (fun ys => ys.all okName = true ∧ ys.length = 12) ⟨by decide +kernel, by decide⟩ (by decide) fun p4 y4 H4 hp4 s4 h4 r4 => ?_
    obtain ⟨r4, l4⟩ := r4
    walk_at "my sts"
    refine cat_end (s4 _ _ h3) h4 (by rw [List.length_append]; omega) fun p5 H5 hp5 s5 h5 => ?_
    have r5 : ∀ v ∈ (y1 ++ y2) ++ y4, ∃ z : Str, v = .str z ∧ nameB z = true := fun v hv => okName_of (by
      have all : ((y1 ++ y2) ++ y4).all okName = true := by rw [List.all_append, List.all_append, r1, r2, r4]; rfl
      exact List.all_eq_true.mp all v hv)
    have l5 : ((y1 ++ y2) ++ y4).length = 36 := by
      rw [List.length_append, List.length_append]
      omega
    have s05 : Same H H5 := s1.trans (s2.trans (s3.trans (s4.trans s5)))
    have hst5 := hst.same s05
    have f5 : Fr s H H5 := Fr.same s05
    have n5 : p5 ≠ s := by
      obtain ⟨o, e⟩ := (hst.same (s1.trans (s2.trans (s3.trans s4)))).some
      exact ne_none e hp5
    walk_at "my sts"
    refine ⟨s, _, rfl, hst5, by decide, fun n H6 n0 n1 hst6 f6 => ?_⟩
    walk_at "my sts"
    refine i_ite (fun _ => ?_) fun _ => ?_
    · walk_at "my sts"
      refine ⟨s, _, rfl, hst6, .inl ⟨p5, _, rfl, f6.1 _ _ h5 n5, n5, by omega, by omega, fun v H7 hv hst7 f7 => ?_⟩⟩
      obtain ⟨z, rfl, z1⟩ := r5 v hv
      exact k z H7 z1 hst7 (f5.trans (f6.trans f7))
    · have ls : ("abcdefghijklmnopqrstuvwxyz0123456789" : Str).length ≤ sizeLine := by decide +kernel
      walk_at "my sts"
      refine ⟨s, _, rfl, hst6, by decide, fun n2 H7 m0 m1 hst7 f7 => ?_⟩
      obtain ⟨c, hc, _, hz⟩ := at_az9 (i := n2) m0 (by omega)
      refine i_ixS ls hc ?_
      walk_at "my sts"
      refine ⟨s, 1, 8, rfl, hst7, by decide, fun n3 H8 b0 b1 hst8 f8 => ?_⟩
      walk_at "my sts"
      refine fr1 (by omega) (by omega) (fun i σ' H' => ∃ (z : Str) (v : Option V), σ' = [some (.ref s), some (.ref p5), some (.str "abcdefghijklmnopqrstuvwxyz0123456789"), some (.str z), v] ∧ (cz z).length = i + 1 ∧ NameL (cz z) ∧ StOk H' s ∧ Fr s H H') ⟨_, none, rfl, rfl, NameL.one (hz (by omega)), hst8, f5.trans (f6.trans (f7.trans f8))⟩ ?_ ?_
      · rintro i σ' H' hi ⟨z, v, rfl, hz, nz, hst9, f9⟩
        walk_at "my sts"
        refine ⟨s, _, rfl, hst9, by decide, fun n4 H10 c0 c1 hst10 f10 => ?_⟩
        obtain ⟨c, hc, hc9, _⟩ := at_az9 (i := n4) c0 (by omega)
        refine i_ixS ls hc ?_
        have hl : z.length + (⟨#[c]⟩ : Str).length ≤ 100000 := by
          rw [← cz_len, hz, len_one]
          omega
        refine i_addZ hl ?_
        walk_at "my sts"
        refine ⟨_, _, rfl, ?_, ?_, hst10, f9.trans f10⟩
        · rw [cz_app, cz_one, List.length_append, hz]
          rfl
        · rw [cz_app, cz_one]
          exact nz.push hc9 (by omega)
      · rintro σ' H' ⟨z, v, rfl, hz, nz, hst9, f9⟩
        walk_at "my sts"
        exact k z H' (nameB_of nz) hst9 f9
/-- one of the first letters is none of fewer names -/
def letS (i : Nat) : Str := ⟨#[(AZ9[i]?).getD 0]⟩
theorem letS_inj : ∀ i : Nat, i < 26 → ∀ j : Nat, j < 26 → letS i = letS j → i = j := by decide +kernel
theorem letS_name : ∀ i : Nat, i < 26 → nameB (letS i) = true := by decide +kernel
theorem pigeon : ∀ (n : Nat) (ns : List Str), n ≤ 26 → ns.length < n → ∃ i, i < n ∧ letS i ∉ ns := by
  intro n
  induction n with
  | zero => intro ns _ h; omega
  | succ n ih =>
    intro ns h26 hl
    by_cases hm : letS n ∈ ns
    · have le := List.length_erase_of_mem hm
      have pos : 0 < ns.length := List.length_pos_of_mem hm
      obtain ⟨i, hi, hn⟩ := ih (ns.erase (letS n)) (by omega) (by omega)
      refine ⟨i, by omega, fun e => hn ((List.mem_erase_of_ne fun e2 => ?_).mpr e)⟩
      have := letS_inj i (by omega) n (by omega) e2
      omega
    · exact ⟨n, by omega, hm⟩
def sp_law_unlike (K : PySem.W.Frag) : Sp := fun vs H Q _ => ∃ (z : Str) (p : Addr) (ns : List Str), vs = [.str z, .ref p] ∧ H p = some (.lst (ns.map V.str)) ∧ ns.length ≤ 20 ∧ z.length ≤ 1000 ∧
  ∀ (y : Str) H', y ∉ ns → (nameB z = true → nameB y = true) → y.length ≤ 1000 → Same H H' → Q (.str y) H'
theorem ok_law_unlike {f : Addr} {fd : FuncData}
    (T : Txt K mg) (D : Dn K mg "_law_unlike" s_law_unlike p_law_unlike f fd) : FnOk P w K mg base CX0 1 f fd p_law_unlike (sp_law_unlike K) := by
  refine D.F.ok sc_law_unlike (fun vs H Q E h => ?_) (fun cdv A outer s' H vs Q E hr h => ?_)
  · obtain ⟨z, p, ns, rfl, _⟩ := h
    rfl
  · obtain ⟨z, p, ns, rfl, hp, hl, hz, k⟩ := h
    refine ⟨_, (pss_cons (ps_if (pt_cmpR (op_notIn_seqK (K := K) rfl) (pv 0) (pv 1) (by rfl)) (pss_one (ps_ret (pv 0))) pss_nil)
  (pss_cons (ps_for PassesOwn.never rfl (pi_range1 (by rfl) T.b_range (pa_cons (pe_op op_add (pe_callB (n_lenQK (K := K) rfl) (by rfl) T.b_len (by decide +kernel) (pa_cons (pv 1) pa_nil)) pe_int) pa_nil)) (pg_name (i := 2) sc_law_unlike.nd rfl (Or.inl rfl))
   (pss_cons (ps_set (i := 3) sc_law_unlike.nd rfl (Or.inl rfl) (pe_ix ix_str pe_str (pe_op op_mod (pv 2) pe_int) (fun _ _ => rfl)))
  (Evl.pss_cut (ps_if (pt_cmpR op_ge (pv 2) pe_int (nomark _)) (pss_one (ps_set (i := 3) sc_law_unlike.nd rfl (Or.inl rfl) (pe_op n_addZ (pv 3) (pe_callTy call_str_int (by rfl) T.b_str (by decide +kernel) (pa_cons (pe_op op_fdivW (pv 2) pe_int) pa_nil))))) pss_nil)
  (pss_one (ps_if (pt_cmpR (op_notIn_seqK (K := K) rfl) (pv 3) (pv 1) (by rfl)) (pss_one (ps_ret (pv 3))) pss_nil)))))
  (pss_one (ps_ret (pv 0))))), ?_⟩
    walk_at "my sts"
    refine i_notInStr (sqL hp) ?_
    walk_at "my sts"
    refine i_ite (fun h1 => ?_) fun h1 => ?_
    · have h1 := of_decide_eq_false (nbT h1)
      walk_at "my sts"
      exact k z H h1 (fun e => e) hz (Same.refl _)
    have h1 := of_decide_eq_true (nbF h1)
    walk_at "my sts"
    rw [List.length_map]
    refine fr1 (by omega) (by omega) (fun i σ' H' => H' = H ∧ (∀ j, j < i → letS j ∈ ns) ∧ ∃ v w, σ' = [some (.str z), some (.ref p), v, w]) ⟨rfl, fun j hj => absurd hj (Nat.not_lt_zero _), none, none, rfl⟩ ?_ ?_
    · rintro i σ' H' hi ⟨rfl, all, v, w, rfl⟩
      have hi20 : i ≤ 20 := by omega
      have e26 : ((i : Int) % 26) = (i : Int) := by omega
      have hc : atI ("abcdefghijklmnopqrstuvwxyz" : Str).cps.toList (i : Int) = some ((AZ9[i]?).getD 0) := by
        have key : ∀ n : Nat, n < 26 → ("abcdefghijklmnopqrstuvwxyz" : Str).cps.toList[n]? = some ((AZ9[n]?).getD 0) := by decide +kernel
        exact atI_nat (key i (by omega))
      have ls : ("abcdefghijklmnopqrstuvwxyz" : Str).length ≤ sizeLine := by decide +kernel
      walk_at "my sts"
      rw [e26]
      refine i_ixS ls hc ?_
      walk_at "my sts"
      refine i_cut (fun σ' H2 => H2 = H' ∧ σ' = [some (.str z), some (.ref p), some (.int (i : Int)), some (.str (letS i))]) ?_ ?_
      · walk_at "my sts"
        refine i_ite (fun h26 => ?_) fun _ => ?_
        · have := of_decide_eq_true h26
          omega
        · walk_at "my sts"
          exact ⟨rfl, rfl⟩
      rintro σ2 H2 ⟨rfl, rfl⟩
      walk_at "my sts"
      refine i_notInStr (sqL hp) ?_
      walk_at "my sts"
      refine i_ite (fun h2 => ?_) fun h2 => ?_
      · have h2 := of_decide_eq_false (nbT h2)
        walk_at "my sts"
        exact k _ _ h2 (fun _ => letS_name i (by omega)) (by show 1 ≤ 1000; decide) (Same.refl _)
      · have h2 := of_decide_eq_true (nbF h2)
        walk_at "my sts"
        refine ⟨rfl, fun j hj => ?_, _, _, rfl⟩
        by_cases e : j = i
        · rw [e]
          exact h2
        · exact all j (by omega)
    · rintro σ' H' ⟨rfl, all, v, w, rfl⟩
      obtain ⟨i, hi, hn⟩ := pigeon (ns.length + 1) ns (by omega) (by omega)
      exact absurd (all i (by omega)) hn
def sAz9 : Str := "abcdefghijklmnopqrstuvwxyz0123456789"
def NmM (H : Hp) (s o : Addr) (many form start place : Int) (stem : Str) (kk : Int) (acc : List V) : L2.St → Hp → Prop := fun σ' H2 => ∃ z : Str, σ' = [some (.ref s), some (.int many), some (.str sAz9), some (.int form), some (.int start), some (.str stem), some (.int place), some (.ref o), some (.int kk), some (.str z)] ∧ NameL (cz z) ∧ StOk H2 s ∧ Fr s H H2 ∧ H2 o = some (.lst acc)
theorem b7_sub : ∀ c ∈ cz ("b7x0qa1z" : Str), c ∈ AZ9 := by decide +kernel
def sp_law_names (K : PySem.W.Frag) : Sp := fun vs H Q _ => ∃ (s : Addr) (many : Int), vs = [.ref s, .int many] ∧ StOk H s ∧ 0 ≤ many ∧ many ≤ 20 ∧
  ∀ p (ns : List Str) H', H p = none → H' p = some (.lst (ns.map V.str)) → (ns.length : Int) = many → ns.Nodup → (∀ n ∈ ns, nameB n = true) → StOk H' s → Fr s H H' → Q (.ref p) H'
theorem ok_law_names {f : Addr} {fd : FuncData}
    {f_law_take : Addr} {fd_law_take : FuncData} (D_law_take : Dn K mg "_law_take" s_law_take p_law_take f_law_take fd_law_take) (G_law_take : FnOk P w K mg base CX0 2 f_law_take fd_law_take p_law_take (sp_law_take K))
    {f_law_name : Addr} {fd_law_name : FuncData} (D_law_name : Dn K mg "_law_name" s_law_name p_law_name f_law_name fd_law_name) (G_law_name : FnOk P w K mg base CX0 4 f_law_name fd_law_name p_law_name (sp_law_name K))
    {f_law_unlike : Addr} {fd_law_unlike : FuncData} (D_law_unlike : Dn K mg "_law_unlike" s_law_unlike p_law_unlike f_law_unlike fd_law_unlike) (G_law_unlike : FnOk P w K mg base CX0 1 f_law_unlike fd_law_unlike p_law_unlike (sp_law_unlike K))
    (T : Txt K mg) (D : Dn K mg "_law_names" s_law_names p_law_names f fd) : FnOk P w K mg base CX0 5 f fd p_law_names (sp_law_names K) := by
  refine D.F.ok sc_law_names (fun vs H Q E h => ?_) (fun cdv A outer s' H vs Q E hr h => ?_)
  · obtain ⟨s, many, rfl, _⟩ := h
    rfl
  · obtain ⟨s, many, rfl, hst, m0, m20, k⟩ := h
    refine ⟨_, (pss_cons (ps_set (i := 2) sc_law_names.nd rfl (Or.inl rfl) pe_str)
  (pss_cons (ps_set (i := 3) sc_law_names.nd rfl (Or.inl rfl) (pe_call G_law_take (hr.mono (by omega)) (by rfl) D_law_take.m D_law_take.F.kp D_law_take.b .nil pass0 (pa_cons (pv 0) (pa_cons pe_int pa_nil))))
  (pss_cons (ps_set (i := 4) sc_law_names.nd rfl (Or.inl rfl) (pe_call G_law_take (hr.mono (by omega)) (by rfl) D_law_take.m D_law_take.F.kp D_law_take.b .nil pass0 (pa_cons (pv 0) (pa_cons pe_int pa_nil))))
  (pss_cons (ps_set (i := 5) sc_law_names.nd rfl (Or.inl rfl) pe_str)
  (pss_cons (ps_set (i := 6) sc_law_names.nd rfl (Or.inl rfl) pe_int)
  (Evl.pss_cut (ps_if (PW.pt (pw_or (pt_cmpR op_eq (pv 3) pe_int (nomark _)) (pw_or1 (pt_cmpR op_eq (pv 3) pe_int (nomark _))))) (pss_cons (ps_set (i := 5) sc_law_names.nd rfl (Or.inl rfl) (pe_slice sl_str (pe_op n_addZ (pe_call G_law_name (hr.mono (by omega)) (by rfl) D_law_name.m D_law_name.F.kp D_law_name.b .nil pass0 (pa_cons (pv 0) pa_nil)) pe_str) po_none (po_some pe_int)))
  (pss_cons (ps_set (i := 6) sc_law_names.nd rfl (Or.inl rfl) (pe_call G_law_take (hr.mono (by omega)) (by rfl) D_law_take.m D_law_take.F.kp D_law_take.b .nil pass0 (pa_cons (pv 0) (pa_cons pe_int pa_nil))))
  (pss_one (ps_set (i := 5) sc_law_names.nd rfl (Or.inl rfl) (pe_slice sl_str (pv 5) po_none (po_some (pe_op op_add (pe_op op_add (pv 6) pe_int) (pe_call G_law_take (hr.mono (by omega)) (by rfl) D_law_take.m D_law_take.F.kp D_law_take.b .nil pass0 (pa_cons (pv 0) (pa_cons (pe_op op_sub pe_int (pv 6)) pa_nil)))))))))) pss_nil)
  (pss_cons (ps_set (i := 7) sc_law_names.nd rfl (Or.inl rfl) (pe_lst pa_nil))
  (pss_cons (ps_for PassesOwn.never rfl (pi_range1 (by rfl) T.b_range (pa_cons (pv 1) pa_nil)) (pg_name (i := 8) sc_law_names.nd rfl (Or.inl rfl))
   (pss_cons (ps_set (i := 9) sc_law_names.nd rfl (Or.inl rfl) (pe_ix ix_str (pv 2) (pe_op op_mod (pe_op op_add (pv 4) (pv 8)) pe_int) (fun _ _ => rfl)))
  (Evl.pss_cut (ps_if (pt_cmpR op_eq (pv 3) pe_int (nomark _)) (pss_one (ps_set (i := 9) sc_law_names.nd rfl (Or.inl rfl) (pe_ix ix_str (pv 2) (pe_op op_mod (pe_op op_add (pv 4) (pe_op op_mul pe_int (pv 8))) pe_int) (fun _ _ => rfl)))) pss_nil)
  (Evl.pss_cut (ps_if (PW.pt (pw_and (PW.pt (pw_or (pt_cmpR op_eq (pv 3) pe_int (nomark _)) (pw_or1 (pt_cmpR op_eq (pv 3) pe_int (nomark _))))) (pw_and1 (pt_cmpR op_gt (pv 6) pe_int (nomark _))))) (pss_one (ps_set (i := 9) sc_law_names.nd rfl (Or.inl rfl) (pe_op n_addZ (pe_op n_addZ (pe_slice sl_str (pv 5) po_none (po_some (pv 6))) (pe_ix ix_str (pv 2) (pe_op op_mod (pe_op op_add (pv 4) (pv 8)) pe_int) (fun _ _ => rfl))) (pe_slice sl_str (pv 5) (po_some (pe_op op_add (pv 6) pe_int)) po_none)))) pss_nil)
  (Evl.pss_cut (ps_if (PW.pt (pw_and (PW.pt (pw_or (pt_cmpR op_eq (pv 3) pe_int (nomark _)) (pw_or1 (pt_cmpR op_eq (pv 3) pe_int (nomark _))))) (pw_and1 (pt_cmpR op_eq (pv 6) pe_int (nomark _))))) (pss_one (ps_set (i := 9) sc_law_names.nd rfl (Or.inl rfl) (pe_op n_addZ (pe_ix ix_str (pv 2) (pe_op op_mod (pe_op op_add (pv 4) (pv 8)) pe_int) (fun _ _ => rfl)) (pe_slice sl_str (pv 5) (po_some pe_int) po_none)))) pss_nil)
  (Evl.pss_cut (ps_if (pt_cmpR op_eq (pv 3) pe_int (nomark _)) (pss_one (ps_set (i := 9) sc_law_names.nd rfl (Or.inl rfl) (pe_op op_mul_str (pe_ix ix_str (pv 2) (pv 4) (fun _ _ => rfl)) (pe_op op_add pe_int (pe_op op_mod (pe_op op_add (pv 4) (pe_op op_mul pe_int (pv 8))) pe_int))))) pss_nil)
  (Evl.pss_cut (ps_if (pt_cmpR op_eq (pv 3) pe_int (nomark _)) (pss_one (ps_set (i := 9) sc_law_names.nd rfl (Or.inl rfl) (pe_call G_law_name (hr.mono (by omega)) (by rfl) D_law_name.m D_law_name.F.kp D_law_name.b .nil pass0 (pa_cons (pv 0) pa_nil)))) pss_nil)
  (pss_one (ps_expr (pe_bm PySem.F.plainAttrs_list PySem.F.slot_list_append PySem.F.type_list_append mt_append (pv 7) (pa_cons (pe_call G_law_unlike (hr.mono (by omega)) (by rfl) D_law_unlike.m D_law_unlike.F.kp D_law_unlike.b .nil pass0 (pa_cons (pv 9) (pa_cons (pv 7) pa_nil))) pa_nil)))))))))))
  (pss_one (ps_ret (pv 7))))))))))), ?_⟩
    have ls : sAz9.length ≤ sizeLine := by decide +kernel
    have lb : ("b7x0qa1z" : Str).length = 8 := by decide +kernel
    walk_at "my sts"
    refine ⟨s, _, rfl, hst, by decide, fun form H1 n0 n1 hst1 f1 => ?_⟩
    walk_at "my sts"
    refine ⟨s, _, rfl, hst1, by decide, fun start H2 st0 st1 hst2 f2 => ?_⟩
    have f2 := f1.trans f2
    walk_at "my sts"
    refine i_cut (fun σ' H3 => ∃ (stem : Str) (place : Int), σ' = [some (.ref s), some (.int many), some (.str sAz9), some (.int form), some (.int start), some (.str stem), some (.int place), none, none, none] ∧ 0 ≤ place ∧ place < 8 ∧ ((form = 2 ∨ form = 3) → NameL (cz stem) ∧ place < (cz stem).length) ∧ StOk H3 s ∧ Fr s H H3) ?_ ?_
    · have yes : ∀ (H0 : Hp), StOk H0 s → Fr s H H0 → ∀ (R : VK), (∀ z H3, NameL (cz z) → StOk H3 s → Fr s H H3 → R (.str z) H3) → sp_law_name K [.ref s] H0 R E0 := fun H0 a b R g => ⟨s, rfl, a, fun z H3 hz c d => g z H3 (nameL_of hz) c (b.trans d)⟩
      walk_at "my ots"
      refine i_ite (fun h => ?_) fun h => ?_
      · walk_at "my sts"
        refine yes _ hst2 f2 _ fun z H3 nz hst3 f3 => ?_
        have nz8 := nameB_len (nameB_of nz)
        walk_at "my sts"
        refine ⟨s, _, rfl, hst3, by decide, fun place H4 p0 p1 hst4 f4 => ?_⟩
        walk_at "my sts"
        refine ⟨s, _, rfl, hst4, by omega, fun t H5 t0 t1 hst5 f5 => ?_⟩
        have e0 : cz (cutS (z ++ "b7x0qa1z") none (some 8)) = (cz z ++ cz "b7x0qa1z").take 8 := by rw [← cz_app]; exact cz_to _ 8
        have n0 : NameL (cz (cutS (z ++ "b7x0qa1z") none (some 8))) := by rw [e0]; exact nz.takeApp b7_sub (by decide) (by decide)
        have l0 : (cz (cutS (z ++ "b7x0qa1z") none (some 8))).length = 8 := by
          rw [e0, List.length_take, List.length_append, cz_len, cz_len, lb]
          omega
        generalize cutS (z ++ "b7x0qa1z") none (some 8) = st at n0 l0 ⊢
        have et : place + 1 + t = ((place + 1 + t).toNat : Int) := by omega
        have l0' : st.length = 8 := by rw [← cz_len]; exact l0
        walk_at "my sts"
        refine ⟨_, place, rfl, p0, by omega, fun _ => ?_, hst5, f3.trans (f4.trans f5)⟩
        rw [et, cz_to]
        refine ⟨n0.take (by omega), ?_⟩
        rw [List.length_take, l0]
        omega
      · rw [dec_int2, dec_int2] at h
        have h := or_decF h
        walk_at "my sts"
        exact ⟨_, _, rfl, by decide, by decide, fun e => absurd e (fun e => e.elim h.1 h.2), hst2, f2⟩
    rintro σ3 H3 ⟨stem, place, rfl, p0, p8, hstem, hst3, f3⟩
    walk_at "my sts"
    refine lst_end (by decide) fun o H4 ho4 s4 h4 => ?_
    have no : o ≠ s := hst3.ne ho4
    have hno : H o = none := f3.free ho4 no
    walk_at "my sts"
    refine fr1 (by omega) (by omega) (fun i σ' H' => ∃ (ns : List Str) (v w : Option V), σ' = [some (.ref s), some (.int many), some (.str sAz9), some (.int form), some (.int start), some (.str stem), some (.int place), some (.ref o), v, w] ∧ H' o = some (.lst (ns.map V.str)) ∧ ns.length = i ∧ ns.Nodup ∧ (∀ n ∈ ns, nameB n = true) ∧ StOk H' s ∧ Fr s H H')
      ⟨[], none, none, rfl, h4, rfl, List.nodup_nil, (by intro n h; cases h), hst3.same s4, f3.trans (Fr.same s4)⟩ ?_ ?_
    · rintro i σ' H' hi ⟨ns, v, w, rfl, ho, nl, nd, nm, hst5, f5⟩
      obtain ⟨c, hc, hc9, hcz⟩ := at_az9 (i := (start + (i : Int)) % 26) (by omega) (by omega)
      walk_at "my sts"
      refine i_cut (NmM H s o many form start place stem (i : Int) (ns.map V.str)) ?_ ?_
      · walk_at "my sts"
        refine i_ite (fun _ => ?_) fun _ => ?_
        · obtain ⟨d, hd, _, hdz⟩ := at_az9 (i := (start + 25 * (i : Int)) % 26) (by omega) (by omega)
          walk_at "my sts"
          exact ⟨_, rfl, NameL.one (hdz (by omega)), hst5, f5, ho⟩
        · walk_at "my sts"
          exact ⟨_, rfl, NameL.one (hcz (by omega)), hst5, f5, ho⟩
      rintro σ6 H6 ⟨z6, rfl, nz6, hst6, f6, ho6⟩
      refine i_cut (NmM H s o many form start place stem (i : Int) (ns.map V.str)) ?_ ?_
      · walk_at "my ots"
        refine i_ite (fun h => ?_) fun h => ?_
        · rw [dec_int2, dec_int2] at h
          obtain ⟨h1, h2⟩ := and_split h
          obtain ⟨nst, pst⟩ := hstem (or_dec h1)
          have h2 := of_decide_eq_true h2
          obtain ⟨d, hd, hd9, _⟩ := at_az9 (i := (start + (i : Int)) % 36) (by omega) (by omega)
          have lst : stem.length ≤ 8 := by rw [← cz_len]; exact nst.hi
          have l1 := len_cut stem none (some place)
          have l2 := len_cut stem (some (place + 1)) none
          have lo := len_one d
          walk_at "my sts"
          refine ⟨_, rfl, ?_, hst6, f6, ho6⟩
          have e1 : place = ((place.toNat : Nat) : Int) := by omega
          have e2 : place + 1 = ((place.toNat + 1 : Nat) : Int) := by omega
          rw [e2, e1, cz_app, cz_app, cz_to, cz_from, cz_one]
          exact nst.swap (by omega) (by omega) hd9
        · walk_at "my sts"
          exact ⟨_, rfl, nz6, hst6, f6, ho6⟩
      rintro σ7 H7 ⟨z7, rfl, nz7, hst7, f7, ho7⟩
      refine i_cut (NmM H s o many form start place stem (i : Int) (ns.map V.str)) ?_ ?_
      · walk_at "my ots"
        refine i_ite (fun h => ?_) fun h => ?_
        · rw [dec_int2, dec_int2] at h
          obtain ⟨h1, h2⟩ := and_split h
          obtain ⟨nst, pst⟩ := hstem (or_dec h1)
          have lst : stem.length ≤ 8 := by rw [← cz_len]; exact nst.hi
          have l2 := len_cut stem (some 1) none
          have lo := len_one c
          walk_at "my sts"
          refine ⟨_, rfl, ?_, hst7, f7, ho7⟩
          have e1 : cz (cutS stem (some 1) none) = (cz stem).drop 1 := cz_from stem 1
          rw [cz_app, e1, cz_one]
          exact nst.head (hcz (by omega))
        · walk_at "my sts"
          exact ⟨_, rfl, nz7, hst7, f7, ho7⟩
      rintro σ8 H8 ⟨z8, rfl, nz8, hst8, f8, ho8⟩
      refine i_cut (NmM H s o many form start place stem (i : Int) (ns.map V.str)) ?_ ?_
      · walk_at "my sts"
        refine i_ite (fun h => ?_) fun h => ?_
        · obtain ⟨d, hd, _, hdz⟩ := at_az9 (i := start) st0 (by omega)
          walk_at "my sts"
          refine i_mulS (by omega) (by rw [len_one]; decide) ?_
          walk_at "my sts"
          refine ⟨_, rfl, ?_, hst8, f8, ho8⟩
          rw [cz_mul]
          exact NameL.rep (hdz (by omega)) (by omega) (by omega)
        · walk_at "my sts"
          exact ⟨_, rfl, nz8, hst8, f8, ho8⟩
      rintro σ9 H9 ⟨z9, rfl, nz9, hst9, f9, ho9⟩
      refine i_cut (NmM H s o many form start place stem (i : Int) (ns.map V.str)) ?_ ?_
      · walk_at "my sts"
        refine i_ite (fun h => ?_) fun h => ?_
        · walk_at "my sts"
          refine ⟨s, rfl, hst9, fun z H3 hz c d => ?_⟩
          walk_at "my sts"
          exact ⟨_, rfl, nameL_of hz, c, f9.trans d, d.1 _ _ ho9 no⟩
        · walk_at "my sts"
          exact ⟨_, rfl, nz9, hst9, f9, ho9⟩
      rintro σA HA ⟨zA, rfl, nzA, hstA, fA, hoA⟩
      have nA := nameB_of nzA
      have lA := nameB_len nA
      walk_at "my sts"
      refine ⟨zA, o, ns, rfl, hoA, by omega, by omega, fun y HB hy hyn _ sB => ?_⟩
      walk_at "my sts"
      refine i_append (sB _ _ hoA) (by rw [List.length_map]; omega) ?_
      obtain ⟨b1, b2, b3, b4⟩ := mut_all (ys := ns.map V.str ++ [V.str y]) hst (fA.trans (Fr.same sB)) (hstA.same sB) hno
      refine ⟨ns ++ [y], _, _, rfl, ?_, by rw [List.length_append, nl]; rfl, ?_, ?_, b1, b2⟩
      · rw [b3, List.map_append]
        rfl
      · rw [List.nodup_append]
        refine ⟨nd, by simp, fun a ha b hb e => ?_⟩
        rw [List.mem_singleton.mp hb] at e
        exact hy (e ▸ ha)
      · intro n hn
        rcases List.mem_append.mp hn with h | h
        · exact nm n h
        · rw [List.mem_singleton.mp h]
          exact hyn nA
    · rintro σ' H' ⟨ns, v, w, rfl, ho, nl, nd, nm, hst5, f5⟩
      walk_at "my sts"
      exact k o ns H' hno ho (by omega) nd nm hst5 f5
def sp_law_mixed (K : PySem.W.Frag) : Sp := fun vs H Q _ => ∃ (s p : Addr) (xs : List V), vs = [.ref s, .ref p] ∧ StOk H s ∧ Lt2 H p xs ∧ p ≠ s ∧ xs.length ≤ 1000 ∧ ∀ l ys H', H l = none → H' l = some (.lst ys) → ys.Perm xs → StOk H' s → Fr s H H' → Q (.ref l) H'
theorem ok_law_mixed {f : Addr} {fd : FuncData}
    {f_law_take : Addr} {fd_law_take : FuncData} (D_law_take : Dn K mg "_law_take" s_law_take p_law_take f_law_take fd_law_take) (G_law_take : FnOk P w K mg base CX0 2 f_law_take fd_law_take p_law_take (sp_law_take K))
    (T : Txt K mg) (D : Dn K mg "_law_mixed" s_law_mixed p_law_mixed f fd) : FnOk P w K mg base CX0 3 f fd p_law_mixed (sp_law_mixed K) := by
  refine D.F.ok sc_law_mixed (fun vs H Q E h => ?_) (fun cdv A outer s' H vs Q E hr h => ?_)
  · obtain ⟨s, p, xs, rfl, _⟩ := h
    rfl
  · obtain ⟨s, p, xs, rfl, hst, hp, np, hl, k⟩ := h
    refine ⟨_, (pss_cons (ps_set (i := 2) sc_law_mixed.nd rfl (Or.inl rfl) (pe_callTy (n_listK (K := K) rfl) (by rfl) T.b_list (by decide +kernel) (pa_cons (pv 1) pa_nil)))
  (pss_cons (ps_if (pt_cmpR op_lt (pe_callB (n_lenQK (K := K) rfl) (by rfl) T.b_len (by decide +kernel) (pa_cons (pv 2) pa_nil)) pe_int (nomark _)) (pss_one (ps_ret (pv 2))) pss_nil)
  (pss_cons (ps_set (i := 3) sc_law_mixed.nd rfl (Or.inl rfl) (pe_call G_law_take (hr.mono (by omega)) (by rfl) D_law_take.m D_law_take.F.kp D_law_take.b .nil pass0 (pa_cons (pv 0) (pa_cons pe_int pa_nil))))
  (pss_cons (ps_if (pt_cmpR op_eq (pv 3) pe_int (nomark _)) (pss_one (ps_ret (pv 2))) pss_nil)
  (pss_cons (ps_if (pt_cmpR op_eq (pv 3) pe_int (nomark _)) (pss_one (ps_ret (pe_revL (pv 2)))) pss_nil)
  (pss_cons (ps_set (i := 4) sc_law_mixed.nd rfl (Or.inl rfl) (pe_lst pa_nil))
  (pss_cons (ps_for PassesOwn.never rfl (pi_range1 (by rfl) T.b_range (pa_cons (pe_callB (n_lenVK (K := K) rfl) (by rfl) T.b_len (by decide +kernel) (pa_cons (pv 1) pa_nil)) pa_nil)) (pg_name (i := 5) sc_law_mixed.nd rfl (Or.inl rfl))
   (pss_one (ps_expr (pe_bm PySem.F.plainAttrs_list PySem.F.slot_list_append PySem.F.type_list_append mt_append (pv 4) (pa_cons (pe_bm PySem.F.plainAttrs_list PySem.F.slot_list_pop PySem.F.type_list_pop mt_popAt (pv 2) (pa_cons (pe_call G_law_take (hr.mono (by omega)) (by rfl) D_law_take.m D_law_take.F.kp D_law_take.b .nil pass0 (pa_cons (pv 0) (pa_cons (pe_callB (n_lenQK (K := K) rfl) (by rfl) T.b_len (by decide +kernel) (pa_cons (pv 2) pa_nil)) pa_nil))) pa_nil)) pa_nil)))))
  (pss_one (ps_ret (pv 4)))))))))), ?_⟩
    walk_at "my sts"
    refine list_endLt hp fun l H1 hl0 s1 h1 => ?_
    have nl : l ≠ s := hst.ne hl0
    walk_at "my sts"
    refine i_ite (fun _ => ?_) fun _ => ?_
    · walk_at "my sts"
      exact k l xs H1 hl0 h1 (List.Perm.refl _) (hst.same s1) (Fr.same s1)
    walk_at "my sts"
    refine ⟨s, _, rfl, hst.same s1, by decide, fun n H2 n0 n6 hst2 f2 => ?_⟩
    have h2 := f2.1 _ _ h1 nl
    have f2 := (Fr.same (s := s) s1).trans f2
    walk_at "my sts"
    refine i_ite (fun _ => ?_) fun _ => ?_
    · walk_at "my sts"
      exact k l xs H2 hl0 h2 (List.Perm.refl _) hst2 f2
    walk_at "my sts"
    refine i_ite (fun _ => ?_) fun _ => ?_
    · walk_at "my sts"
      refine rev_end (sqL h2) fun r H3 hr3 s3 h3 => ?_
      exact k r _ H3 (f2.free hr3 (hst2.ne hr3)) h3 (List.reverse_perm xs) (hst2.same s3) (f2.trans (Fr.same s3))
    walk_at "my sts"
    refine lst_end (by decide) fun o H3 ho3 s3 h3 => ?_
    have no : o ≠ s := hst2.ne ho3
    have hno : H o = none := f2.free ho3 no
    have nlo : o ≠ l := ne_none h2 ho3
    walk_at "my sts"
    have hp3 := (hp.fr np f2).same s3
    refine i_lenVLt hp3 ?_
    walk_at "my sts"
    refine fr1 (by omega) (by omega) (fun i σ' H' => ∃ (left out : List V) (v : Option V), σ' = [some (.ref s), some (.ref p), some (.ref l), some (.int n), some (.ref o), v] ∧ H' l = some (.lst left) ∧ H' o = some (.lst out) ∧ (out ++ left).Perm xs ∧ out.length = i ∧ StOk H' s ∧ Fr s H H')
      ⟨xs, [], none, rfl, s3 _ _ h2, h3, List.Perm.refl _, rfl, hst2.same s3, f2.trans (Fr.same s3)⟩ ?_ ?_
    · rintro i σ' H' hi ⟨left, out, v, rfl, g1, g2, pm, ol, hst4, f4⟩
      have len := pm.length_eq
      rw [List.length_append] at len
      walk_at "my sts"
      refine ⟨s, _, rfl, hst4, by omega, fun m H5 m0 m1 hst5 f5 => ?_⟩
      have f5' := f4.trans f5
      walk_at "my sts"
      refine i_popAt (f5.1 _ _ g1 nl) m0 (by omega) (by omega) fun y hy => ?_
      obtain ⟨a1, a2, a3, a4⟩ := mut_all (ys := left.eraseIdx m.toNat) hst f5' hst5 hl0
      have g2' := a4 _ _ nlo (f5.1 _ _ g2 no)
      generalize upd H5 l (.lst (left.eraseIdx m.toNat)) = H6 at a1 a2 a3 g2' ⊢
      walk_at "my sts"
      refine i_append g2' (by omega) ?_
      obtain ⟨b1, b2, b3, b4⟩ := mut_all (ys := out ++ [y]) hst a2 a1 hno
      refine ⟨_, _, _, rfl, b4 _ _ nlo.symm a3, b3, ?_, by rw [List.length_append, ol]; rfl, b1, b2⟩
      rw [List.append_assoc]
      exact ((perm_pop hy).append_left out).trans pm
    · rintro σ' H' ⟨left, out, v, rfl, g1, g2, pm, ol, hst4, f4⟩
      have len := pm.length_eq
      rw [List.length_append] at len
      have l0 : left = [] := List.eq_nil_of_length_eq_zero (by omega)
      rw [l0, List.append_nil] at pm
      walk_at "my sts"
      exact k o out H' hno g2 pm hst4 f4
theorem prsIn_take {ns : List Str} {b a : Str} {j : Nat} (h : ns[j]? = some a) : prsIn (ns.take (j + 1)) b = prsIn (ns.take j) b ++ (if a = b then [] else [(a, b)]) := by
  unfold prsIn
  rw [take_filter _ h, List.map_append]
  by_cases e : a = b
  · simp [e]
  · simp [e]
theorem flat_take {ns ms : List Str} {b : Str} {i : Nat} (h : ms[i]? = some b) : (ms.take (i + 1)).flatMap (prsIn ns) = (ms.take i).flatMap (prsIn ns) ++ prsIn ns b := by
  rw [List.take_add_one, h, List.flatMap_append]
  simp
def sp_law_pairs (K : PySem.W.Frag) : Sp := fun vs H Q _ => ∃ (p : Addr) (ns : List Str), vs = [.ref p] ∧ H p = some (.lst (ns.map V.str)) ∧ ns.length ≤ 20 ∧ ∀ l xs H', H l = none → H' l = some (.lst xs) → Rows H' xs ((prs ns).map prow) → Same H H' → Q (.ref l) H'
theorem ok_law_pairs {f : Addr} {fd : FuncData}
    (T : Txt K mg) (D : Dn K mg "_law_pairs" s_law_pairs p_law_pairs f fd) : FnOk P w K mg base CX0 1 f fd p_law_pairs (sp_law_pairs K) := by
  refine D.F.ok sc_law_pairs (fun vs H Q E h => ?_) (fun cdv A outer s' H vs Q E hr h => ?_)
  · obtain ⟨p, ns, rfl, _⟩ := h
    rfl
  · obtain ⟨p, ns, rfl, hp, hl, k⟩ := h
    refine ⟨_, (pss_cons (ps_set (i := 1) sc_law_pairs.nd rfl (Or.inl rfl) (pe_lst pa_nil))
  (pss_cons (ps_for PassesOwn.never rfl (pi_list (pv 0)) (pg_name (i := 2) sc_law_pairs.nd rfl (Or.inl rfl))
   (pss_one (ps_for PassesOwn.never rfl (pi_list (pv 0)) (pg_name (i := 3) sc_law_pairs.nd rfl (Or.inl rfl))
   (pss_one (ps_if (pt_cmpR op_ne (pv 3) (pv 2) (nomark _)) (pss_one (ps_expr (pe_bm PySem.F.plainAttrs_list PySem.F.slot_list_append PySem.F.type_list_append mt_append (pv 1) (pa_cons (pe_tup (pa_cons (pv 3) (pa_cons (pv 2) pa_nil))) pa_nil)))) pss_nil)))))
  (pss_one (ps_ret (pv 1))))), ?_⟩
    walk_at "my sts"
    refine lst_end (by decide) fun o H1 ho s1 h1 => ?_
    have npo : p ≠ o := (ne_none hp ho).symm
    walk_at "my sts"
    have p1 := s1 _ _ hp
    have lenB : ∀ (j i : Nat) (b : Str), (((ns.take i).flatMap (prsIn ns)) ++ prsIn (ns.take j) b).length ≤ 10000 := fun j i b => by
      have h1 : ∀ l : List Str, (l.flatMap (prsIn ns)).length ≤ l.length * ns.length := by
        intro l
        induction l with
        | nil => simp
        | cons b r ih =>
          rw [List.flatMap_cons, List.length_append, List.length_cons, Nat.succ_mul]
          have : (prsIn ns b).length ≤ ns.length := by
            unfold prsIn
            rw [List.length_map]
            exact List.length_filter_le _ _
          omega
      have h2 : (prsIn (ns.take j) b).length ≤ ns.length := by
        unfold prsIn
        rw [List.length_map]
        refine Nat.le_trans (List.length_filter_le _ _) ?_
        rw [List.length_take]
        omega
      have h3 := h1 (ns.take i)
      have h4 : (ns.take i).length ≤ 20 := by
        rw [List.length_take]
        omega
      have h5 : (ns.take i).length * ns.length ≤ 20 * 20 := Nat.mul_le_mul h4 hl
      rw [List.length_append]
      omega
    refine fl (xs := ns.map V.str) (sqL p1) (fun i σ' H' => Same H H' ∧ ∃ xs v w, σ' = [some (.ref p), some (.ref o), v, w] ∧ H' o = some (.lst xs) ∧ Rows H' xs (((ns.take i).flatMap (prsIn ns)).map prow)) ⟨s1, [], none, none, rfl, h1, Rows.nil⟩ (fun i σ' H' _ g => sqL (g.1 _ _ hp)) ?_ ?_
    · rintro i x σ' H2 hx ⟨s2, xs, v, w, rfl, h2, r2⟩
      rw [List.getElem?_map] at hx
      obtain ⟨b, hb, rfl⟩ := Option.map_eq_some_iff.mp hx
      have p2 := s2 _ _ hp
      walk_at "my sts"
      refine fl (xs := ns.map V.str) (sqL p2) (fun j σ' H' => Same H H' ∧ ∃ xs w, σ' = [some (.ref p), some (.ref o), some (.str b), w] ∧ H' o = some (.lst xs) ∧ Rows H' xs ((((ns.take i).flatMap (prsIn ns)) ++ prsIn (ns.take j) b).map prow)) ⟨s2, xs, w, rfl, h2, by rw [show prsIn (ns.take 0) b = [] from rfl, List.append_nil]; exact r2⟩ (fun i σ' H' _ g => sqL (g.1 _ _ hp)) ?_ ?_
      · rintro j x σ' H3 hx ⟨s3, xs, w, rfl, h3, r3⟩
        rw [List.getElem?_map] at hx
        obtain ⟨a, ha, rfl⟩ := Option.map_eq_some_iff.mp hx
        rw [prsIn_take ha, ← List.append_assoc, List.map_append]
        walk_at "my sts"
        refine i_ite (fun e => ?_) fun e => ?_
        · have e : ¬ a = b := fun z => by
            have := of_decide_eq_false (nbT e)
            exact this (by rw [z])
          rw [if_neg e]
          walk_at "my sts"
          refine tup_end (show 2 ≤ 100000 by decide) fun t H4 ht s4 h4 => ?_
          walk_at "my sts"
          have l3 := r3.len
          rw [List.length_map] at l3
          have lb := lenB j i b
          refine i_append (s4 _ _ h3) (by omega) ?_
          refine ⟨same_mut (s3.trans s4) ho, _, _, rfl, upd_same, ?_⟩
          exact ((r3.keep (Tk.same s4)).app (Rows.one h4)).keep (Tk.lst (s4 _ _ h3))
        · have e : a = b := by
            have := of_decide_eq_true (nbF e)
            injection this
          rw [if_pos e]
          walk_at "my sts"
          exact ⟨s3, xs, _, rfl, h3, by rw [List.map_nil, List.append_nil]; exact r3⟩
      · rintro σ' H3 ⟨s3, xs, w, rfl, h3, r3⟩
        rw [List.length_map, List.take_length] at r3
        exact ⟨s3, xs, _, _, rfl, h3, by rw [flat_take hb]; exact r3⟩
    · rintro σ' H2 ⟨s2, xs, v, w, rfl, h2, r2⟩
      rw [List.length_map, List.take_length] at r2
      walk_at "my sts"
      exact k o xs H2 ho h2 r2 s2
/-- the watches that were drawn -/
structure Wok (ns : List Str) (ws : List (Str × Str × Int)) : Prop where
  nd : (ws.map fun t => (t.1, t.2.1)).Nodup
  mem : ∀ t ∈ ws, t.1 ∈ ns ∧ t.2.1 ∈ ns ∧ t.1 ≠ t.2.1 ∧ 1 ≤ t.2.2 ∧ t.2.2 ≤ 9999
  len : ws.length ≤ 24
def spPlainN (n : Nat) (K : PySem.W.Frag) : Sp := fun vs H Q _ => ∃ v, vs = [v] ∧ (atomB v = true ∨ ∃ (m : Nat) (p : Addr) (xs : List V), n = m + 1 ∧ v = .ref p ∧ (H p = some (.lst xs) ∨ H p = some (.tup xs)) ∧ xs.length ≤ 1000 ∧ ∀ x ∈ xs, atomB x = true) ∧ ∀ v' H', PlT H v H' v' → Same H H' → Q v' H'
def sp_plain (K : PySem.W.Frag) : Sp := fun vs H Q _ => ∃ v, vs = [v] ∧ Pl H v ∧ ∀ v' H', PlT H v H' v' → Same H H' → Q v' H'
theorem ok_plain0 {f : Addr} {fd : FuncData} (T : Txt K mg) (D_plain : Dn K mg "plain" s_plain p_plain f fd) : ∀ n : Nat, FnOk P w K mg base CX0 (n + 1) f fd p_plain (spPlainN n K) := by
  have body : ∀ (n : Nat) (sp : Sp), FnOk P w K mg base CX0 n f fd p_plain sp → (∀ m, n = m + 1 → sp = spPlainN m K) → FnOk P w K mg base CX0 (n + 1) f fd p_plain (spPlainN n K) := by
    intro n sp G_plain hsp
    refine D_plain.F.ok sc_plain (fun vs H Q E h => ?_) (fun cdv A outer s' H vs Q E hr h => ?_)
    · obtain ⟨v, rfl, _⟩ := h
      rfl
    · obtain ⟨v, rfl, h⟩ := h
      refine ⟨_, (pss_cons (ps_if (pt_val (pe_callB (call_isiTK (K := K) rfl) (by rfl) T.b_isinstance (by decide +kernel) (pa_cons (pv 0) (pa_cons (pe_tup (pa_cons (pe_bltn (v := .ty "list") (by rfl) T.b_list (by decide +kernel) rfl) (pa_cons (pe_bltn (v := .ty "tuple") (by rfl) T.b_tuple (by decide +kernel) rfl) pa_nil))) pa_nil)))) (pss_one (ps_ret (pe_callTy (n_tupleK (K := K) rfl) (by rfl) T.b_tuple (by decide +kernel) (pa_cons (pe_lc (own := [("part", 1)]) rfl sc_plain.nd (pi_any (K := K) rfl (pv 0)) (blkOk_by (own := [("part", 1)]) (N := n_plain) (sc := defScope s_plain) (by decide +kernel)) (fun _ _ _ _ _ => (pg_name (i := 1) sc_plain.nd rfl (Or.inl rfl))) (fun _ _ _ _ _ => pts_nil) (fun _ _ _ _ _ => (pe_call G_plain hr (by rfl) D_plain.m D_plain.F.kp D_plain.b .nil pass0 (pa_cons (pv 1) pa_nil)))) pa_nil)))) pss_nil)
  (pss_cons (ps_if (pt_val (pe_callB (call_isiK (K := K) rfl) (by rfl) T.b_isinstance (by decide +kernel) (pa_cons (pv 0) (pa_cons (pe_bltn (v := .ty "str") (by rfl) T.b_str (by decide +kernel) rfl) pa_nil)))) (pss_one (ps_ret (pe_callTy SkE.call_str_str (by rfl) T.b_str (by decide +kernel) (pa_cons (pv 0) pa_nil)))) pss_nil)
  (pss_cons (ps_if (PW.pt (pw_and (pt_val (pe_callB (call_isiK (K := K) rfl) (by rfl) T.b_isinstance (by decide +kernel) (pa_cons (pv 0) (pa_cons (pe_bltn (v := .ty "int") (by rfl) T.b_int (by decide +kernel) rfl) pa_nil)))) (pw_and1 (pt_not (pt_val (pe_callB (call_isiK (K := K) rfl) (by rfl) T.b_isinstance (by decide +kernel) (pa_cons (pv 0) (pa_cons (pe_bltn (v := .ty "bool") (by rfl) T.b_bool (by decide +kernel) rfl) pa_nil)))))))) (pss_one (ps_ret (pe_callTy n_int (by rfl) T.b_int (by decide +kernel) (pa_cons (pv 0) pa_nil)))) pss_nil)
  (pss_one (ps_ret (pv 0)))))), ?_⟩
      obtain ⟨h, k⟩ := h
      rcases h with hv | ⟨m, p, xs, rfl, rfl, hp, hl, hx⟩
      · cases v with
        | str a =>
          walk_at "my sts"
          refine tup_end (by decide) fun p H1 hp s1 h1 => ?_
          walk_at "my sts"
          refine ⟨_, rfl, ?_⟩
          walk_at "my sts"
          exact k _ _ (.inl ⟨rfl, rfl⟩) s1
        | int a =>
          walk_at "my sts"
          refine tup_end (by decide) fun p H1 hp s1 h1 => ?_
          walk_at "my sts"
          exact k _ _ (.inl ⟨rfl, rfl⟩) s1
        | bl a =>
          walk_at "my sts"
          refine tup_end (by decide) fun p H1 hp s1 h1 => ?_
          walk_at "my sts"
          exact k _ _ (.inl ⟨rfl, rfl⟩) s1
        | _ => exact Bool.noConfusion hv
      · cases hsp m rfl
        rcases hp with hp | hp
        · walk_at "my sts"
          refine tup_end (by decide) fun t H1 ht s1 h1 => ?_
          have hp1 := s1 _ _ hp
          walk_at "my sts"
          refine i_lcAL ?_
          walk_at "my sts"
          refine cl (xs := xs) (sqL hp1) (fun D i H' => Same H1 H' ∧ H' D = some (.lst (xs.take i))) (fun D hD => ⟨same_new hD, upd_same⟩) (fun D i H' _ _ g => sqL (g.1 _ _ hp1)) ?_ ?_
          · rintro D i x H' hD hx' ⟨g1, g2⟩
            refine ⟨rfl, ?_⟩
            walk_at "my sts"
            refine ⟨x, rfl, .inl (hx _ (List.mem_of_getElem? hx')), fun v' H2 pt s2 => ?_⟩
            rcases pt with ⟨_, rfl⟩ | ⟨_, _, _, rfl, _⟩
            case inr => exact Bool.noConfusion (hx _ (List.mem_of_getElem? hx'))
            refine ⟨_, s2 _ _ g2, Nat.lt_of_le_of_lt (Nat.le_trans (by rw [List.length_take]; exact Nat.min_le_right _ _) hl) (by decide), same_mut (g1.trans s2) hD, ?_⟩
            rw [upd_same, List.take_add_one, hx']
            rfl
          · rintro D H' hD ⟨g1, g2⟩
            rw [List.take_length] at g2
            walk_at "my sts"
            refine tuple_end (sqL g2) fun q H2 hq s2 h2 => ?_
            exact k _ _ (.inr ⟨_, _, q, rfl, .inl hp, rfl, h2⟩) (s1.trans (g1.trans s2))
        · walk_at "my sts"
          refine tup_end (by decide) fun t H1 ht s1 h1 => ?_
          have hp1 := s1 _ _ hp
          walk_at "my sts"
          refine i_lcAT ?_
          walk_at "my sts"
          refine ct_ (xs := xs) (sqT hp1) (fun D i H' => Same H1 H' ∧ H' D = some (.lst (xs.take i))) (fun D hD => ⟨same_new hD, upd_same⟩) (fun D i H' _ _ g => sqT (g.1 _ _ hp1)) ?_ ?_
          · rintro D i x H' hD hx' ⟨g1, g2⟩
            refine ⟨rfl, ?_⟩
            walk_at "my sts"
            refine ⟨x, rfl, .inl (hx _ (List.mem_of_getElem? hx')), fun v' H2 pt s2 => ?_⟩
            rcases pt with ⟨_, rfl⟩ | ⟨_, _, _, rfl, _⟩
            case inr => exact Bool.noConfusion (hx _ (List.mem_of_getElem? hx'))
            refine ⟨_, s2 _ _ g2, Nat.lt_of_le_of_lt (Nat.le_trans (by rw [List.length_take]; exact Nat.min_le_right _ _) hl) (by decide), same_mut (g1.trans s2) hD, ?_⟩
            rw [upd_same, List.take_add_one, hx']
            rfl
          · rintro D H' hD ⟨g1, g2⟩
            rw [List.take_length] at g2
            walk_at "my sts"
            refine tuple_end (sqL g2) fun q H2 hq s2 h2 => ?_
            exact k _ _ (.inr ⟨_, _, q, rfl, .inr hp, rfl, h2⟩) (s1.trans (g1.trans s2))
  intro n
  induction n with
  | zero => exact body 0 (fun _ _ _ _ => False) ⟨fun _ _ _ _ h => h.elim, fun _ _ _ _ _ _ _ _ _ _ _ _ _ h => h.elim⟩ fun m e => nomatch e
  | succ n ih => exact body (n + 1) _ ih fun m e => by cases e; rfl
theorem ok_plain {f : Addr} {fd : FuncData} (T : Txt K mg) (D_plain : Dn K mg "plain" s_plain p_plain f fd) : FnOk P w K mg base CX0 2 f fd p_plain (sp_plain K) := by
  have G : FnOk P w K mg base CX0 2 f fd p_plain (spPlainN 1 K) := ok_plain0 T D_plain 1
  have e : spPlainN 1 K = sp_plain K := by
    funext vs H Q E
    refine propext ⟨fun ⟨v, e, h, k⟩ => ⟨v, e, h.imp id fun ⟨m, p, xs, _, h⟩ => ⟨p, xs, h⟩, k⟩, fun ⟨v, e, h, k⟩ => ⟨v, e, h.imp id fun ⟨p, xs, h⟩ => ⟨0, p, xs, rfl, h⟩, k⟩⟩
  rw [← e]
  exact G
def sp_BadCount__init (K : PySem.W.Frag) : Sp := spInit2 "what" "number" K
theorem ok_BadCount__init {f : Addr} {fd : FuncData}
    {f_plain : Addr} {fd_plain : FuncData} (D_plain : Dn K mg "plain" s_plain p_plain f_plain fd_plain) (G_plain : FnOk P w K mg base CX0 2 f_plain fd_plain p_plain (sp_plain K))
    (T : Txt K mg) (D : Dm K "__init__" "BadCount.__init__" s_BadCount__init p_BadCount__init f fd) : FnOk P w K mg base CX0 3 f fd p_BadCount__init (sp_BadCount__init K) := by
  refine D.F.ok sc_BadCount__init (fun vs H Q E h => ?_) (fun cdv A outer s' H vs Q E hr h => ?_)
  · obtain ⟨a, C, v, u, rfl, _⟩ := h
    rfl
  · obtain ⟨a, C, v, u, rfl, hC, hf, hg, ha, hv, hu, k⟩ := h
    refine ⟨_, (pss_cons (ps_ostK (K := K) rfl (pv 0) (pe_call G_plain (hr.mono (by omega)) (by rfl) D_plain.m D_plain.F.kp D_plain.b .nil pass0 (pa_cons (pv 1) pa_nil)))
  (pss_one (ps_ostK (K := K) rfl (pv 0) (pe_call G_plain (hr.mono (by omega)) (by rfl) D_plain.m D_plain.F.kp D_plain.b .nil pass0 (pa_cons (pv 2) pa_nil))))), ?_⟩
    walk_at "my sts"
    refine i_ost ?_
    walk_at "my sts"
    refine ⟨v, rfl, .inl hv, fun v' H1 pt s1 => ?_⟩
    rcases pt with ⟨_, rfl⟩ | ⟨_, _, _, rfl, _⟩
    case inr => exact Bool.noConfusion hv
    walk_at "my sts"
    refine ost_first hC hf (s1 _ _ ha) fun dx hdx na => ?_
    refine i_ost ?_
    walk_at "my sts"
    refine ⟨u, rfl, .inl hu, fun u' H2 pt s2 => ?_⟩
    rcases pt with ⟨_, rfl⟩ | ⟨_, _, _, rfl, _⟩
    case inr => exact Bool.noConfusion hu
    walk_at "my sts"
    have e2 := s2 _ _ (show upd (upd H1 dx (exd dx [("what", v')])) a (exo a C (some dx)) a = _ from upd_same)
    have d2 := s2 _ _ (show upd (upd H1 dx (exd dx [("what", v')])) a (exo a C (some dx)) dx = _ by rw [upd_ne na]; exact upd_same)
    refine ost_next hC hg e2 d2 (by show 1 ≤ 900; decide) ?_
    refine k dx _ (s1.free hdx) ?_ upd_same fun b o nb hb => ?_
    · rw [upd_ne (Ne.symm na)]
      exact e2
    · have hb1 := s1 _ _ hb
      rw [upd_ne (ne_of_none hb1 hdx)]
      refine s2 _ _ ?_
      rw [upd_ne nb, upd_ne (ne_of_none hb1 hdx)]
      exact hb1
def sp_check_count (K : PySem.W.Frag) : Sp := fun vs H Q E => ∃ (a : Str) (n lo hi : Int), vs = [.str a, .int n, .int lo, .int hi] ∧ ((lo ≤ n ∧ n ≤ hi ∧ ∀ H', Same H H' → Q .non H') ∨
  (¬ (lo ≤ n ∧ n ≤ hi) ∧ ∀ d H', H d = none → H' d = some (.xd [("number", .int n), ("what", .str a)]) → Same H H' → E (.ref (gad K "BadCount")) (some d) H'))
theorem ok_check_count {f : Addr} {fd : FuncData}
    {f_BadCount__init : Addr} {fd_BadCount__init : FuncData} (D_BadCount__init : Dm K "__init__" "BadCount.__init__" s_BadCount__init p_BadCount__init f_BadCount__init fd_BadCount__init) (G_BadCount__init : FnOk P w K mg base CX0 3 f_BadCount__init fd_BadCount__init p_BadCount__init (sp_BadCount__init K))
    (X_BadCount : Dx K mg "BadCount" (gad K "BadCount") f_BadCount__init ["what", "number"])
    (T : Txt K mg) (D : Dn K mg "check_count" s_check_count p_check_count f fd) : FnOk P w K mg base (L2.CX P w) 5 f fd p_check_count (sp_check_count K) := by
  refine D.F.okX sc_check_count (fun vs H Q E h => ?_) (fun cdv A outer s' H vs Q E hr h => ?_)
  · obtain ⟨a, n, lo, hi, rfl, _⟩ := h
    rfl
  · obtain ⟨a, n, lo, hi, rfl, h⟩ := h
    refine ⟨_, (pss_one (ps_if (pt_not (pt_chain op_le op_le (pv 2) (pv 1) (pv 3))) (pss_one (ps_raise rfl (takes_of rfl rfl rfl rfl) (pmk_oex X_BadCount.oex X_BadCount.iC X_BadCount.tI G_BadCount__init (hr.mono (by omega)) D_BadCount__init.b .nil pass0 (by rfl) X_BadCount.g (pa_cons (pv 0) (pa_cons (pv 1) pa_nil))))) pss_nil)), ?_⟩
    walk_at "my sts"
    rcases h with ⟨h1, h2, k⟩ | ⟨h, k⟩
    · refine i_ite (fun _ => ?_) fun h => absurd h1 (of_decide_eq_false h)
      walk_at "my sts"
      rw [decide_eq_true h2]
      walk_at "my sts"
      exact k _ (Same.refl _)
    · have e : MkEnd (gad K "BadCount") (sp_BadCount__init K) [] (fun cls d H' => E cls d H') [.str a, .int n] H := mk2 X_BadCount.oex (X_BadCount.no "what" (by decide)) (X_BadCount.no "number" (by decide)) rfl rfl fun d H' hd ed s1 => k d H' hd ed s1
      refine i_ite (fun h1 => ?_) fun h1 => ?_
      · walk_at "my sts"
        rw [decide_eq_false fun h2 => h ⟨of_decide_eq_true h1, h2⟩]
        walk_at "my sts"
        exact e
      · walk_at "my sts"
        exact e
def sp_is_name (K : PySem.W.Frag) : Sp := fun vs H Q _ => ∃ (z : Str), vs = [.str z] ∧ z.length ≤ 100000 ∧ ∀ H', Same H H' → Q (.bl (nameB z)) H'
theorem ok_is_name {f : Addr} {fd : FuncData}
    (T : Txt K mg) (D : Dn K mg "is_name" s_is_name p_is_name f fd) : FnOk P w K mg base CX0 1 f fd p_is_name (sp_is_name K) := by
  refine D.F.ok sc_is_name (fun vs H Q E h => ?_) (fun cdv A outer s' H vs Q E hr h => ?_)
  · obtain ⟨z, rfl, _⟩ := h
    rfl
  · obtain ⟨z, rfl, hz, k⟩ := h
    refine ⟨_, (pss_cons (ps_if (pt_not (pt_chain op_le op_le pe_int (pe_callB n_lenZ (by rfl) T.b_len (by decide +kernel) (pa_cons (pv 0) pa_nil)) (pe_globE (by rfl) T.c_LONGEST_NAME))) (pss_one (ps_ret pe_bl)) pss_nil)
  (pss_one (ps_ret (pe_and (pe_cmpR n_inG (pe_ix ix_str (pv 0) pe_int (fun _ _ => rfl)) (pe_globE (by rfl) T.c_LETTERS) rfl) (pe_one (pe_callB (cr_allK (K := K) rfl rfl) (by rfl) T.b_all (by decide +kernel) (pa_cons (pe_lc (own := [("sign", 1)]) rfl sc_is_name.nd (pi_str (pv 0)) (blkOk_by (own := [("sign", 1)]) (N := n_is_name) (sc := defScope s_is_name) (by decide +kernel)) (fun _ _ _ _ _ => (pg_name (i := 1) sc_is_name.nd rfl (Or.inl rfl))) (fun _ _ _ _ _ => pts_nil) (fun _ _ _ _ _ => (pe_cmpR n_inG (pv 1) (pe_globE (by rfl) T.c_LETTERS_AND_DIGITS) rfl))) pa_nil))))))), ?_⟩
    walk_at "my sts"
    refine i_ite (fun h1 => ?_) fun h1 => ?_
    · have h1 : 1 ≤ z.length := by
        have := of_decide_eq_true h1
        omega
      walk_at "my sts"
      refine i_ite (fun h2 => ?_) fun h2 => ?_
      · walk_at "my sts"
        have h2 := of_decide_eq_false (nbT h2)
        rw [← nameB_9 (z := z) (by omega)]
        exact k _ (Same.refl _)
      · walk_at "my sts"
        have h2 : z.length ≤ 8 := by
          have := of_decide_eq_true (nbF h2)
          omega
        obtain ⟨c, hc, hf⟩ := first_of h1
        refine i_ixS (Nat.le_trans hz (by decide)) (atI_nat (j := 0) hc) ?_
        walk_at "my sts"
        refine i_ite (fun h3 => ?_) fun h3 => ?_
        · walk_at "my sts"
          refine cs (fun Dl i H' => Same H H' ∧ H' Dl = some (.lst (((z.cps.toList.take i).map fun c => decide (c ∈ AZ9)).map V.bl))) (fun Dl hD => ⟨same_new hD, upd_same⟩) ?_ ?_
          · rintro Dl i c H' hD hc' ⟨sm, hd⟩
            refine ⟨rfl, ?_⟩
            walk_at "my sts"
            refine ⟨_, hd, ?_, same_mut sm hD, ?_⟩
            · rw [List.length_map, List.length_map, List.length_take]
              exact Nat.lt_of_le_of_lt (m := 8) (by rw [Array.length_toList]; exact Nat.le_trans (Nat.min_le_right _ _) h2) (by decide)
            · rw [upd_same, take_map _ (of_arr hc'), List.map_append]
              rfl
          · rintro Dl H' hD ⟨sm, hd⟩
            walk_at "my sts"
            rw [← Array.length_toList, take_all] at hd
            refine i_all (sqL hd) ?_
            have e : nameB z = (z.cps.toList.map fun c => decide (c ∈ AZ9)).all id := by
              rw [nameB_ok h1 h2 (hf.trans h3), List.all_map]
              rfl
            rw [← e]
            exact k _ sm
        · rw [← nameB_f (hf.trans h3)]
          exact k _ (Same.refl _)
    · walk_at "my sts"
      have h1 := of_decide_eq_false h1
      rw [← nameB_0 (z := z) (by omega)]
      exact k _ (Same.refl _)
def sp_BadName__init (K : PySem.W.Frag) : Sp := spInit1 "name" K
theorem ok_BadName__init {f : Addr} {fd : FuncData}
    {f_plain : Addr} {fd_plain : FuncData} (D_plain : Dn K mg "plain" s_plain p_plain f_plain fd_plain) (G_plain : FnOk P w K mg base CX0 2 f_plain fd_plain p_plain (sp_plain K))
    (T : Txt K mg) (D : Dm K "__init__" "BadName.__init__" s_BadName__init p_BadName__init f fd) : FnOk P w K mg base CX0 3 f fd p_BadName__init (sp_BadName__init K) := by
  refine D.F.ok sc_BadName__init (fun vs H Q E h => ?_) (fun cdv A outer s' H vs Q E hr h => ?_)
  · obtain ⟨a, C, v, rfl, _⟩ := h
    rfl
  · obtain ⟨a, C, v, rfl, hC, hno, ha, hv, k⟩ := h
    refine ⟨_, (pss_one (ps_ostK (K := K) rfl (pv 0) (pe_call G_plain (hr.mono (by omega)) (by rfl) D_plain.m D_plain.F.kp D_plain.b .nil pass0 (pa_cons (pv 1) pa_nil)))), ?_⟩
    refine i_ost ?_
    walk_at "my sts"
    refine ⟨v, rfl, hv, fun v' H1 pt s1 => ?_⟩
    walk_at "my sts"
    refine ost_first hC hno (s1 _ _ ha) fun dx hdx na => ?_
    refine k v' dx _ (s1.free hdx) upd_same (by rw [upd_ne na]; exact upd_same) ?_ fun b o nb hb => ?_
    · rcases pt with pt | ⟨p, xs, q, e, hp, e', hq⟩
      · exact .inl pt
      · refine .inr ⟨p, xs, q, e, hp, e', ?_⟩
        rw [upd_ne (at_ne (s1 _ _ ha) hq exo_tup), upd_ne (ne_of_none hq hdx)]
        exact hq
    · rw [upd_ne nb, upd_ne (ne_of_none (s1 _ _ hb) hdx)]
      exact s1 _ _ hb
def sp_check_new_name (K : PySem.W.Frag) : Sp := fun vs H Q E => ∃ (z : Str), vs = [.str z] ∧ z.length ≤ 1000 ∧ ((nameB z = true ∧ ∀ H', Same H H' → Q .non H') ∨
  (nameB z = false ∧ ∀ d H', H d = none → H' d = some (.xd [("name", .str z)]) → Same H H' → E (.ref (gad K "BadName")) (some d) H'))
theorem ok_check_new_name {f : Addr} {fd : FuncData}
    {f_is_name : Addr} {fd_is_name : FuncData} (D_is_name : Dn K mg "is_name" s_is_name p_is_name f_is_name fd_is_name) (G_is_name : FnOk P w K mg base CX0 1 f_is_name fd_is_name p_is_name (sp_is_name K))
    {f_BadName__init : Addr} {fd_BadName__init : FuncData} (D_BadName__init : Dm K "__init__" "BadName.__init__" s_BadName__init p_BadName__init f_BadName__init fd_BadName__init) (G_BadName__init : FnOk P w K mg base CX0 3 f_BadName__init fd_BadName__init p_BadName__init (sp_BadName__init K))
    (X_BadName : Dx K mg "BadName" (gad K "BadName") f_BadName__init ["name"])
    (T : Txt K mg) (D : Dn K mg "check_new_name" s_check_new_name p_check_new_name f fd) : FnOk P w K mg base (L2.CX P w) 5 f fd p_check_new_name (sp_check_new_name K) := by
  refine D.F.okX sc_check_new_name (fun vs H Q E h => ?_) (fun cdv A outer s' H vs Q E hr h => ?_)
  · obtain ⟨z, rfl, _⟩ := h
    rfl
  · obtain ⟨z, rfl, hz, h⟩ := h
    refine ⟨_, (pss_one (ps_if (pt_not (pt_val (pe_call G_is_name (hr.mono (by omega)) (by rfl) D_is_name.m D_is_name.F.kp D_is_name.b .nil pass0 (pa_cons (pv 0) pa_nil)))) (pss_one (ps_raise rfl (takes_of rfl rfl rfl rfl) (pmk_oex X_BadName.oex X_BadName.iC X_BadName.tI G_BadName__init (hr.mono (by omega)) D_BadName__init.b .nil pass0 (by rfl) X_BadName.g (pa_cons (pv 0) pa_nil)))) pss_nil)), ?_⟩
    walk_at "my sts"
    refine ⟨z, rfl, Nat.le_trans hz (by decide), fun H1 s1 => ?_⟩
    rcases h with ⟨e, k⟩ | ⟨e, k⟩
    · rw [e]
      walk_at "my sts"
      exact k _ s1
    · rw [e]
      walk_at "my sts"
      exact mkA X_BadName.oex (X_BadName.no "name" (by decide)) rfl fun d H' hd ed s2 => k d H' (s1.free hd) ed (s1.trans s2)
def sp_is_number (K : PySem.W.Frag) : Sp := fun vs H Q _ => ∃ (x : V) (lo hi : Int), vs = [x, .int lo, .int hi] ∧ ((∃ n, x = .int n ∧ ∀ H', Same H H' → Q (.bl (decide (lo ≤ n) && decide (n ≤ hi))) H') ∨ (∃ b, x = .bl b ∧ ∀ H', Same H H' → Q (.bl false) H'))
theorem ok_is_number {f : Addr} {fd : FuncData}
    (T : Txt K mg) (D : Dn K mg "is_number" s_is_number p_is_number f fd) : FnOk P w K mg base CX0 1 f fd p_is_number (sp_is_number K) := by
  refine D.F.ok sc_is_number (fun vs H Q E h => ?_) (fun cdv A outer s' H vs Q E hr h => ?_)
  · obtain ⟨x, lo, hi, rfl, _⟩ := h
    rfl
  · obtain ⟨x, lo, hi, rfl, k⟩ := h
    refine ⟨_, (pss_one (ps_ret (pe_and (pe_callB (call_isiK (K := K) rfl) (by rfl) T.b_isinstance (by decide +kernel) (pa_cons (pv 0) (pa_cons (pe_bltn (v := .ty "int") (by rfl) T.b_int (by decide +kernel) rfl) pa_nil))) (pe_and (pe_not (pe_callB (call_isiK (K := K) rfl) (by rfl) T.b_isinstance (by decide +kernel) (pa_cons (pv 0) (pa_cons (pe_bltn (v := .ty "bool") (by rfl) T.b_bool (by decide +kernel) rfl) pa_nil)))) (pe_one (pe_chain op_le op_le (pv 1) (pv 0) (pv 2))))))), ?_⟩
    rcases k with ⟨n, rfl, k⟩ | ⟨b, rfl, k⟩
    · walk_at "my sts"
      refine i_ite (fun h1 => ?_) fun h1 => ?_
      · walk_at "my sts"
        rw [h1, Bool.true_and] at k
        exact k _ (Same.refl _)
      · rw [h1, Bool.false_and] at k
        exact k _ (Same.refl _)
    · walk_at "my sts"
      exact k _ (Same.refl _)
def sp_BadNumber__init (K : PySem.W.Frag) : Sp := spInit1 "value" K
theorem ok_BadNumber__init {f : Addr} {fd : FuncData}
    {f_plain : Addr} {fd_plain : FuncData} (D_plain : Dn K mg "plain" s_plain p_plain f_plain fd_plain) (G_plain : FnOk P w K mg base CX0 2 f_plain fd_plain p_plain (sp_plain K))
    (T : Txt K mg) (D : Dm K "__init__" "BadNumber.__init__" s_BadNumber__init p_BadNumber__init f fd) : FnOk P w K mg base CX0 3 f fd p_BadNumber__init (sp_BadNumber__init K) := by
  refine D.F.ok sc_BadNumber__init (fun vs H Q E h => ?_) (fun cdv A outer s' H vs Q E hr h => ?_)
  · obtain ⟨a, C, v, rfl, _⟩ := h
    rfl
  · obtain ⟨a, C, v, rfl, hC, hno, ha, hv, k⟩ := h
    refine ⟨_, (pss_one (ps_ostK (K := K) rfl (pv 0) (pe_call G_plain (hr.mono (by omega)) (by rfl) D_plain.m D_plain.F.kp D_plain.b .nil pass0 (pa_cons (pv 1) pa_nil)))), ?_⟩
    refine i_ost ?_
    walk_at "my sts"
    refine ⟨v, rfl, hv, fun v' H1 pt s1 => ?_⟩
    walk_at "my sts"
    refine ost_first hC hno (s1 _ _ ha) fun dx hdx na => ?_
    refine k v' dx _ (s1.free hdx) upd_same (by rw [upd_ne na]; exact upd_same) ?_ fun b o nb hb => ?_
    · rcases pt with pt | ⟨p, xs, q, e, hp, e', hq⟩
      · exact .inl pt
      · refine .inr ⟨p, xs, q, e, hp, e', ?_⟩
        rw [upd_ne (at_ne (s1 _ _ ha) hq exo_tup), upd_ne (ne_of_none hq hdx)]
        exact hq
    · rw [upd_ne nb, upd_ne (ne_of_none (s1 _ _ hb) hdx)]
      exact s1 _ _ hb
def sp_check_number (K : PySem.W.Frag) : Sp := fun vs H Q E => ∃ (x : V) (lo hi : Int), vs = [x, .int lo, .int hi] ∧ ((∃ n, x = .int n ∧ lo ≤ n ∧ n ≤ hi ∧ ∀ H', Same H H' → Q .non H') ∨
  (((∃ n, x = .int n ∧ ¬ (lo ≤ n ∧ n ≤ hi)) ∨ ∃ b, x = .bl b) ∧ ∀ d H', H d = none → H' d = some (.xd [("value", x)]) → Same H H' → E (.ref (gad K "BadNumber")) (some d) H'))
theorem ok_check_number {f : Addr} {fd : FuncData}
    {f_is_number : Addr} {fd_is_number : FuncData} (D_is_number : Dn K mg "is_number" s_is_number p_is_number f_is_number fd_is_number) (G_is_number : FnOk P w K mg base CX0 1 f_is_number fd_is_number p_is_number (sp_is_number K))
    {f_BadNumber__init : Addr} {fd_BadNumber__init : FuncData} (D_BadNumber__init : Dm K "__init__" "BadNumber.__init__" s_BadNumber__init p_BadNumber__init f_BadNumber__init fd_BadNumber__init) (G_BadNumber__init : FnOk P w K mg base CX0 3 f_BadNumber__init fd_BadNumber__init p_BadNumber__init (sp_BadNumber__init K))
    (X_BadNumber : Dx K mg "BadNumber" (gad K "BadNumber") f_BadNumber__init ["value"])
    (T : Txt K mg) (D : Dn K mg "check_number" s_check_number p_check_number f fd) : FnOk P w K mg base (L2.CX P w) 5 f fd p_check_number (sp_check_number K) := by
  refine D.F.okX sc_check_number (fun vs H Q E h => ?_) (fun cdv A outer s' H vs Q E hr h => ?_)
  · obtain ⟨x, lo, hi, rfl, _⟩ := h
    rfl
  · obtain ⟨x, lo, hi, rfl, h⟩ := h
    refine ⟨_, (pss_one (ps_if (pt_not (pt_val (pe_call G_is_number (hr.mono (by omega)) (by rfl) D_is_number.m D_is_number.F.kp D_is_number.b .nil pass0 (pa_cons (pv 0) (pa_cons (pv 1) (pa_cons (pv 2) pa_nil)))))) (pss_one (ps_raise rfl (takes_of rfl rfl rfl rfl) (pmk_oex X_BadNumber.oex X_BadNumber.iC X_BadNumber.tI G_BadNumber__init (hr.mono (by omega)) D_BadNumber__init.b .nil pass0 (by rfl) X_BadNumber.g (pa_cons (pv 0) pa_nil)))) pss_nil)), ?_⟩
    walk_at "my sts"
    rcases h with ⟨n, rfl, h1, h2, k⟩ | ⟨h, k⟩
    · refine ⟨.int n, lo, hi, rfl, .inl ⟨n, rfl, fun H1 s1 => ?_⟩⟩
      rw [decide_eq_true h1, decide_eq_true h2]
      walk_at "my sts"
      exact k _ s1
    · rcases h with ⟨n, rfl, hn⟩ | ⟨b, rfl⟩
      · refine ⟨.int n, lo, hi, rfl, .inl ⟨n, rfl, fun H1 s1 => ?_⟩⟩
        have : (decide (lo ≤ n) && decide (n ≤ hi)) = false := by
          rw [← Bool.decide_and]
          exact decide_eq_false hn
        rw [this]
        walk_at "my sts"
        exact mkA X_BadNumber.oex (X_BadNumber.no "value" (by decide)) rfl fun d H' hd ed s2 => k d H' (s1.free hd) ed (s1.trans s2)
      · refine ⟨.bl b, lo, hi, rfl, .inr ⟨b, rfl, fun H1 s1 => ?_⟩⟩
        walk_at "my sts"
        exact mkA X_BadNumber.oex (X_BadNumber.no "value" (by decide)) rfl fun d H' hd ed s2 => k d H' (s1.free hd) ed (s1.trans s2)
def sp_Repeated__init (K : PySem.W.Frag) : Sp := spInit1 "value" K
theorem ok_Repeated__init {f : Addr} {fd : FuncData}
    {f_plain : Addr} {fd_plain : FuncData} (D_plain : Dn K mg "plain" s_plain p_plain f_plain fd_plain) (G_plain : FnOk P w K mg base CX0 2 f_plain fd_plain p_plain (sp_plain K))
    (T : Txt K mg) (D : Dm K "__init__" "Repeated.__init__" s_Repeated__init p_Repeated__init f fd) : FnOk P w K mg base CX0 3 f fd p_Repeated__init (sp_Repeated__init K) := by
  refine D.F.ok sc_Repeated__init (fun vs H Q E h => ?_) (fun cdv A outer s' H vs Q E hr h => ?_)
  · obtain ⟨a, C, v, rfl, _⟩ := h
    rfl
  · obtain ⟨a, C, v, rfl, hC, hno, ha, hv, k⟩ := h
    refine ⟨_, (pss_one (ps_ostK (K := K) rfl (pv 0) (pe_call G_plain (hr.mono (by omega)) (by rfl) D_plain.m D_plain.F.kp D_plain.b .nil pass0 (pa_cons (pv 1) pa_nil)))), ?_⟩
    refine i_ost ?_
    walk_at "my sts"
    refine ⟨v, rfl, hv, fun v' H1 pt s1 => ?_⟩
    walk_at "my sts"
    refine ost_first hC hno (s1 _ _ ha) fun dx hdx na => ?_
    refine k v' dx _ (s1.free hdx) upd_same (by rw [upd_ne na]; exact upd_same) ?_ fun b o nb hb => ?_
    · rcases pt with pt | ⟨p, xs, q, e, hp, e', hq⟩
      · exact .inl pt
      · refine .inr ⟨p, xs, q, e, hp, e', ?_⟩
        rw [upd_ne (at_ne (s1 _ _ ha) hq exo_tup), upd_ne (ne_of_none hq hdx)]
        exact hq
    · rw [upd_ne nb, upd_ne (ne_of_none (s1 _ _ hb) hdx)]
      exact s1 _ _ hb
/-- the first fault of folk: class, attribute, value -/
def folkF : List Str → List (Str × Dt) → Option (Str × Str × V)
  | _, [] => none
  | seen, (a, d) :: r => if nameB a = true then (if inR 0 9999 d = true then (if a ∈ seen then some ("Repeated", "value", .str a) else folkF (seen ++ [a]) r) else some ("BadNumber", "value", atV d)) else some ("BadName", "name", .str a)
def folkD (fs : List (Str × Dt)) : Dt := .seq (fs.map fun q => .seq [.str q.1, q.2])
def kvf (l : List (Str × Dt)) : List (Key × V) := l.map fun q => (Sum.inr q.1, V.int (numI q.2))
theorem kvf_mem {l : List (Str × Dt)} {a : Str} : (Sum.inr a : Key) ∈ (kvf l).map (·.1) ↔ a ∈ l.map (·.1) := by
  unfold kvf
  rw [List.map_map]
  constructor
  · intro h
    obtain ⟨q, hq, e⟩ := List.mem_map.mp h
    have e' : (Sum.inr q.1 : Key) = Sum.inr a := e
    exact List.mem_map.mpr ⟨q, hq, Sum.inr.inj e'⟩
  · intro h
    obtain ⟨q, hq, e⟩ := List.mem_map.mp h
    exact List.mem_map.mpr ⟨q, hq, congrArg Sum.inr e⟩
theorem kvf_val {l : List (Str × Dt)} {a : Str} : (valV (kvf l) (Sum.inr a)).isSome = decide (a ∈ l.map (·.1)) := by
  by_cases h : a ∈ l.map (·.1)
  · rw [valV_some (kvf_mem.mpr h), decide_eq_true h]
  · rw [valV_none fun e => h (kvf_mem.mp e), decide_eq_false h]
    rfl
def sp_examined_folk (K : PySem.W.Frag) : Sp := fun vs H Q E => ∃ (P : Addr → Prop) (tp : Addr) (ts : List Str) (fs : List (Str × Dt)) (v : V), vs = [.ref tp, v] ∧ Rd H tp (.tup (ts.map V.str)) ∧ Rp P H 2 (folkD fs) v ∧ (∀ q ∈ fs, q.1.length ≤ 1000 ∧ isNum q.2 = true) ∧ fs.length ≤ 100 ∧
  (folkF ts fs = none → ∀ q rows H', H q = none → Same H H' → H' q = some (.tup rows) → Rows H' rows (fs.map fun q => frow (q.1, numI q.2)) → Q (.ref q) H') ∧
  (∀ c f x, folkF ts fs = some (c, f, x) → ∀ d H', H d = none → H' d = some (.xd [(f, x)]) → Same H H' → E (.ref (gad K c)) (some d) H')
theorem ok_examined_folk {f : Addr} {fd : FuncData}
    {f_check_new_name : Addr} {fd_check_new_name : FuncData} (D_check_new_name : Dn K mg "check_new_name" s_check_new_name p_check_new_name f_check_new_name fd_check_new_name) (G_check_new_name : FnOk P w K mg base (L2.CX P w) 5 f_check_new_name fd_check_new_name p_check_new_name (sp_check_new_name K))
    {f_check_number : Addr} {fd_check_number : FuncData} (D_check_number : Dn K mg "check_number" s_check_number p_check_number f_check_number fd_check_number) (G_check_number : FnOk P w K mg base (L2.CX P w) 5 f_check_number fd_check_number p_check_number (sp_check_number K))
    {f_Repeated__init : Addr} {fd_Repeated__init : FuncData} (D_Repeated__init : Dm K "__init__" "Repeated.__init__" s_Repeated__init p_Repeated__init f_Repeated__init fd_Repeated__init) (G_Repeated__init : FnOk P w K mg base CX0 3 f_Repeated__init fd_Repeated__init p_Repeated__init (sp_Repeated__init K))
    (X_Repeated : Dx K mg "Repeated" (gad K "Repeated") f_Repeated__init ["value"])
    (T : Txt K mg) (D : Dn K mg "examined_folk" s_examined_folk p_examined_folk f fd) : FnOk P w K mg base (L2.CX P w) 6 f fd p_examined_folk (sp_examined_folk K) := by
  refine D.F.okX sc_examined_folk (fun vs H Q E h => ?_) (fun cdv A outer s' H vs Q E hr h => ?_)
  · obtain ⟨_, _, _, _, v, rfl, _⟩ := h
    rfl
  · obtain ⟨P0, tp, ts, fs, v, rfl, htp, hr0, hat, hc, k1, k2⟩ := h
    obtain ⟨p, vs, rfl, hp, hl, hz, hrow⟩ := rp_seq hr0
    rw [List.length_map] at hl
    refine ⟨_, (pss_cons (ps_set (i := 2) sc_examined_folk.nd rfl (Or.inl rfl) pe_dnewK)
  (pss_cons (ps_for (passes_of rfl) rfl (pi_any (K := K) rfl (pv 1)) (pg_any rfl (pgs_cons (pg_name (i := 3) sc_examined_folk.nd rfl (Or.inl rfl)) (pgs_cons (pg_name (i := 4) sc_examined_folk.nd rfl (Or.inl rfl)) pgs_nil)))
   (pss_cons (ps_expr (pe_call G_check_new_name (hr.mono (by omega)) (by rfl) D_check_new_name.m D_check_new_name.F.kp D_check_new_name.b .nil (passes_call (takes_of rfl rfl rfl rfl) (fun _ _ _ _ h => h)) (pa_cons (pv 3) pa_nil)))
  (pss_cons (ps_expr (pe_call G_check_number (hr.mono (by omega)) (by rfl) D_check_number.m D_check_number.F.kp D_check_number.b .nil (passes_call (takes_of rfl rfl rfl rfl) (fun _ _ _ _ h => h)) (pa_cons (pv 4) (pa_cons pe_int (pa_cons (pe_globE (by rfl) T.c_MOST_NUMBER) pa_nil)))))
  (pss_cons (ps_if (PW.pt (pw_or (pt_cmpR (op_in_seqK (K := K) rfl) (pv 3) (pv 0) (by rfl)) (pw_or1 (pt_cmp (pc_din (hu_of hr) (pv 3) (pv 2)))))) (pss_one (ps_raise rfl (takes_of rfl rfl rfl rfl) (pmk_oex X_Repeated.oex X_Repeated.iC X_Repeated.tI G_Repeated__init (hr.mono (by omega)) D_Repeated__init.b .nil pass0 (by rfl) X_Repeated.g (pa_cons (pv 3) pa_nil)))) pss_nil)
  (pss_one (ps_dput (hu_of hr) (pv 2) (pe_callTy SkE.call_str_str (by rfl) T.b_str (by decide +kernel) (pa_cons (pv 3) pa_nil)) (pe_callTy n_int (by rfl) T.b_int (by decide +kernel) (pa_cons (pv 4) pa_nil)) rfl))))))
  (pss_one (ps_ret (pe_callTy (n_tupleK (K := K) rfl) (by rfl) T.b_tuple (by decide +kernel) (pa_cons (pe_lock (pe_lc (own := [("name", 3), ("need", 4)]) rfl sc_examined_folk.nd (pi_items (pv 2)) (blkOk_by (own := [("name", 3), ("need", 4)]) (N := n_examined_folk) (sc := defScope s_examined_folk) (by decide +kernel)) (fun _ _ _ _ _ => (by refine pg_tupK (K := K) (n := 2) (t := (gCons (gName 3) (gCons (gName 4) gNil))) rfl rfl ?_; refine pgs_cons (pg_name (i := 3) sc_examined_folk.nd rfl (Or.inl rfl)) ?_; refine pgs_cons (pg_name (i := 4) sc_examined_folk.nd rfl (Or.inl rfl)) ?_; exact pgs_nil)) (fun _ _ _ _ _ => pts_nil) (fun _ _ _ _ _ => (pe_tup (pa_cons (pv 3) (pa_cons (pv 4) pa_nil)))))) pa_nil)))))), ?_⟩
    obtain ⟨H1, hH1⟩ : ∃ H1, H1 = H := ⟨_, rfl⟩
    have s1 : Same H H1 := by rw [hH1]; exact Same.refl _
    rw [← hH1]
    have hp1 : H1 p = some (.lst vs) ∨ H1 p = some (.tup vs) := hp.imp (s1 _ _) (s1 _ _)
    have htp1 : Rd H1 tp (.tup (ts.map V.str)) := rd_same s1 htp
    walk_at "my sts"
    refine fun Da hD => ?_
    walk_at "my sts"
    refine fa (xs := vs) rfl (hp1.imp (fun h => same_new hD _ _ h) (fun h => same_new hD _ _ h)) (fun i σ' H' => Same H1 H' ∧ (∃ x y, σ' = [some (.ref tp), some (.ref p), some (.ref Da), x, y]) ∧ H' Da = some (.dK (kvf (fs.take i))) ∧ folkF ts fs = folkF (ts ++ (fs.take i).map (·.1)) (fs.drop i) ∧ ((fs.take i).map (·.1)).Nodup)
      ⟨same_new hD, ⟨none, none, rfl⟩, upd_same, by simp, List.nodup_nil⟩ ?_ ?_ ?_
    · rintro i σ' H' u ⟨g, _⟩ hu
      rw [upd_ne (fun e => by rw [e] at hp1; rw [hD] at hp1; rcases hp1 with h | h <;> cases h)] at hu
      exact g _ _ hu
    · rintro i x σ' H' hx ⟨g, ⟨x0, y0, rfl⟩, gd, gf, gn⟩
      have hi := (List.getElem?_eq_some_iff.mp hx).1
      have hi' : i < fs.length := by omega
      obtain ⟨⟨a, d⟩, hq⟩ : ∃ q, fs[i]? = some q := ⟨_, List.getElem?_eq_getElem hi'⟩
      have hmem := hat _ (List.mem_of_getElem? hq)
      have dr : fs.drop i = (a, d) :: fs.drop (i + 1) := by
        rw [List.drop_eq_getElem_cons hi']
        rw [List.getElem?_eq_getElem hi'] at hq
        rw [Option.some.inj hq]
      have tk : fs.take (i + 1) = fs.take i ++ [(a, d)] := by
        rw [List.take_add_one, hq]
        rfl
      rw [dr] at gf
      have hd1 : isAt d = true := by
        cases d with
        | seq _ => exact Bool.noConfusion (show false = true from hmem.2)
        | _ => rfl
      obtain ⟨q, rfl, hrw⟩ := rp_row (hrow i (.seq [.str a, d]) x (by rw [List.getElem?_map, hq]; rfl) hx) (fun d' hd' => by
        rcases List.mem_cons.mp hd' with rfl | hd'
        · rfl
        · rw [List.mem_singleton.mp hd']
          exact hd1)
      have sH := s1.trans g
      refine gany2 (x := .str a) (y := atV d) (hrw.imp (sH _ _) (sH _ _)) ?_
      walk_at "my sts"
      refine ⟨a, rfl, hmem.1, ?_⟩
      cases ha : nameB a with
      | false =>
        refine .inr ⟨rfl, fun e H2 he ed s2 => k2 "BadName" "name" (.str a) ?_ e H2 (sH.free he) ed (sH.trans s2)⟩
        rw [gf]
        unfold folkF
        rw [if_neg (by rw [ha]; decide)]
      | true =>
        refine .inl ⟨rfl, fun H2 s2 => ?_⟩
        have sH2 := sH.trans s2
        walk_at "my sts"
        refine ⟨_, 0, 9999, rfl, ?_⟩
        cases hn : inR 0 9999 d with
        | false =>
          have ef : folkF ts fs = some (("BadNumber" : Str), ("value" : Str), atV d) := by
            rw [gf]
            unfold folkF
            rw [if_pos ha, if_neg (by rw [hn]; decide)]
          cases d with
          | int n =>
            refine .inr ⟨.inl ⟨n, rfl, fun h => ?_⟩, fun e H3 he ed s3 => k2 _ _ _ ef e H3 (sH2.free he) ed (sH2.trans s3)⟩
            have : (decide (0 ≤ n) && decide (n ≤ 9999)) = false := hn
            rw [decide_eq_true h.1, decide_eq_true h.2] at this
            cases this
          | bl b => exact .inr ⟨.inr ⟨b, rfl⟩, fun e H3 he ed s3 => k2 _ _ _ ef e H3 (sH2.free he) ed (sH2.trans s3)⟩
          | str _ => exact Bool.noConfusion (show false = true from hmem.2)
          | seq _ => exact Bool.noConfusion (show false = true from hmem.2)
        | true =>
          cases d with
          | int n =>
            have hn' : (decide (0 ≤ n) && decide (n ≤ 9999)) = true := hn
            rw [Bool.and_eq_true] at hn'
            refine .inl ⟨n, rfl, of_decide_eq_true hn'.1, of_decide_eq_true hn'.2, fun H3 s3 => ?_⟩
            have g3 := s2.trans s3
            have sH3 := sH.trans g3
            have gd3 := g3 _ _ gd
            walk_at "my sts"
            have rep : a ∈ ts ∨ a ∈ (fs.take i).map (·.1) → MkEnd (gad K "Repeated") (sp_Repeated__init K) [] (fun cls d H' => E cls d H') [V.str a] H3 := fun h => by
              refine mkA X_Repeated.oex (X_Repeated.no "value" (by decide)) rfl fun e H4 he ed s4 => k2 "Repeated" "value" (.str a) ?_ e H4 (sH3.free he) ed (sH3.trans s4)
              rw [gf]
              unfold folkF
              rw [if_pos ha, if_pos hn, if_pos (List.mem_append.mpr h)]
            refine i_inStrT (rd_sq (rd_same sH3 htp)) ?_
            walk_at "my sts"
            refine i_ite (fun h => ?_) fun h0 => ?_
            · walk_at "my sts"
              exact rep (.inl (of_decide_eq_true h))
            have h0 := of_decide_eq_false h0
            walk_at "my sts"
            refine dinK gd3 ?_
            rw [kvf_val]
            walk_at "my sts"
            refine i_ite (fun h => ?_) fun h => ?_
            · have h := of_decide_eq_true h
              walk_at "my sts"
              exact rep (.inr h)
            · have h := of_decide_eq_false h
              walk_at "my sts"
              refine .inl ⟨n, rfl, ?_⟩
              walk_at "my sts"
              refine ⟨_, rfl, ?_⟩
              refine dputK gd3 ?_ ?_
              · unfold kvf
                rw [List.length_map, List.length_take]
                omega
              · rw [putK_new fun e => h (kvf_mem.mp e)]
                refine ⟨same_mut (g.trans g3) hD, ⟨_, _, rfl⟩, ?_, ?_, ?_⟩
                · rw [upd_same, tk]
                  unfold kvf
                  rw [List.map_append]
                  rfl
                · rw [gf, tk, List.map_append]
                  conv => lhs; unfold folkF
                  rw [if_pos ha, if_pos hn, if_neg fun e => (List.mem_append.mp e).elim h0 h, List.append_assoc]
                  rfl
                · rw [tk, List.map_append]
                  refine List.nodup_append.mpr ⟨gn, List.nodup_cons.mpr ⟨List.not_mem_nil, List.nodup_nil⟩, fun x hx y hy e => ?_⟩
                  rw [List.mem_singleton.mp hy] at e
                  exact h (by rw [← show x = a from e]; exact hx)
          | bl b => cases hn
          | str _ => cases hn
          | seq _ => cases hn
    · rintro σ' H' ⟨g, ⟨x0, y0, rfl⟩, gd, gf, gn⟩
      rw [hl, List.take_length] at gd
      rw [hl, List.drop_length] at gf
      have k1 := k1 gf
      walk_at "my sts"
      refine i_lockE gd fun od => ?_
      have lockS : ∀ {a : Addr} {u : HO}, H1 a = some u → upd H' Da (.frz od (.dK (kvf fs))) a = some u := fun {a u} h => by
        rw [upd_ne (ne_of_none h hD)]
        exact g _ _ h
      walk_at "my sts"
      refine ci upd_same (fun Dl i H2 => Same (upd H' Da (.frz od (.dK (kvf fs)))) H2 ∧ ∃ acc, H2 Dl = some (.lst acc) ∧ Rows H2 acc ((fs.take i).map fun q => frow (q.1, numI q.2))) (fun Dl hDl => ⟨same_new hDl, [], upd_same, rfl⟩) (fun Dl i H2 hDl h => h.1 _ _ upd_same) ?_ ?_
      · rintro Dl i T kv H2 hDl hkv ⟨g2, acc, g3, g4⟩ hT
        unfold kvf at hkv
        rw [List.getElem?_map] at hkv
        obtain ⟨q, hq, rfl⟩ := Option.map_eq_some_iff.mp hkv
        have nT : T ≠ Dl := ne_none g3 hT
        refine ⟨T, _, rfl, sqT upd_same, rfl, _, _, rfl, _, _, rfl, rfl, rfl, ?_⟩
        walk_at "my sts"
        refine tup_end (show 2 ≤ 100000 by decide) fun t H3 ht s3 h3 => ?_
        have g3' := s3 _ _ (show upd H2 T (.tup [kV (Sum.inr q.1), V.int (numI q.2)]) Dl = _ by rw [upd_ne (Ne.symm nT)]; exact g3)
        have sm : Same H2 H3 := (same_new hT).trans s3
        have al : acc.length ≤ 1000 := by
          have := g4.len
          rw [List.length_map, List.length_take] at this
          omega
        refine ⟨acc, g3', Nat.lt_of_le_of_lt al (by decide), same_mut (g2.trans sm) hDl, _, upd_same, ?_⟩
        rw [List.take_add_one, hq, List.map_append]
        exact ((g4.keep (Tk.same sm)).app (Rows.one h3)).keep (Tk.lst g3')
      · rintro Dl H2 hDl ⟨g2, acc, g3, g4⟩
        have lk : (kvf fs).length = fs.length := List.length_map _
        rw [lk, List.take_length] at g4
        refine ⟨g2 _ _ upd_same, ?_⟩
        have nD : Dl ≠ Da := ne_none upd_same hDl
        have dD : H1 Dl = none := by
          cases e : H1 Dl with
          | none => rfl
          | some u =>
            rw [lockS e] at hDl
            cases hDl
        walk_at "my sts"
        refine tuple_end (sqL (xs := acc) (by rw [upd_ne nD]; exact g3)) fun q H3 hq s3 h3 => ?_
        have hq' : H2 q = none := by
          by_cases e : q = Da
          · rw [e, upd_same] at hq
            cases hq
          · rw [upd_ne e] at hq
            exact hq
        have sA : Same H1 H3 := fun b u hb => by
          refine s3 _ _ ?_
          rw [upd_ne (ne_of_none hb hD)]
          exact g2 _ _ (lockS hb)
        have sB : Same H1 H2 := fun b u hb => g2 _ _ (lockS hb)
        have tk : Tk H2 H3 := fun t d e => s3 _ _ (by
          rw [upd_ne fun z => by rw [z, g2 _ _ upd_same] at e; cases e]
          exact e)
        exact k1 q acc H3 (s1.free (sB.free hq')) (s1.trans sA) h3 (g4.keep tk)
def sp_UnknownFolk__init (K : PySem.W.Frag) : Sp := spInit1 "name" K
theorem ok_UnknownFolk__init {f : Addr} {fd : FuncData}
    {f_plain : Addr} {fd_plain : FuncData} (D_plain : Dn K mg "plain" s_plain p_plain f_plain fd_plain) (G_plain : FnOk P w K mg base CX0 2 f_plain fd_plain p_plain (sp_plain K))
    (T : Txt K mg) (D : Dm K "__init__" "UnknownFolk.__init__" s_UnknownFolk__init p_UnknownFolk__init f fd) : FnOk P w K mg base CX0 3 f fd p_UnknownFolk__init (sp_UnknownFolk__init K) := by
  refine D.F.ok sc_UnknownFolk__init (fun vs H Q E h => ?_) (fun cdv A outer s' H vs Q E hr h => ?_)
  · obtain ⟨a, C, v, rfl, _⟩ := h
    rfl
  · obtain ⟨a, C, v, rfl, hC, hno, ha, hv, k⟩ := h
    refine ⟨_, (pss_one (ps_ostK (K := K) rfl (pv 0) (pe_call G_plain (hr.mono (by omega)) (by rfl) D_plain.m D_plain.F.kp D_plain.b .nil pass0 (pa_cons (pv 1) pa_nil)))), ?_⟩
    refine i_ost ?_
    walk_at "my sts"
    refine ⟨v, rfl, hv, fun v' H1 pt s1 => ?_⟩
    walk_at "my sts"
    refine ost_first hC hno (s1 _ _ ha) fun dx hdx na => ?_
    refine k v' dx _ (s1.free hdx) upd_same (by rw [upd_ne na]; exact upd_same) ?_ fun b o nb hb => ?_
    · rcases pt with pt | ⟨p, xs, q, e, hp, e', hq⟩
      · exact .inl pt
      · refine .inr ⟨p, xs, q, e, hp, e', ?_⟩
        rw [upd_ne (at_ne (s1 _ _ ha) hq exo_tup), upd_ne (ne_of_none hq hdx)]
        exact hq
    · rw [upd_ne nb, upd_ne (ne_of_none (s1 _ _ hb) hdx)]
      exact s1 _ _ hb
def sp_place_in (K : PySem.W.Frag) : Sp := fun vs H Q E => ∃ (p : Addr) (ns : List Str) (z : Str), vs = [.ref p, .str z] ∧ Nt H p ns ∧ ((z ∈ ns ∧ ∀ H', Same H H' → Q (.int (plc ns z : Nat)) H') ∨
  (z ∉ ns ∧ ∀ d H', H d = none → H' d = some (.xd [("name", .str z)]) → Same H H' → E (.ref (gad K "UnknownFolk")) (some d) H'))
theorem ok_place_in {f : Addr} {fd : FuncData}
    {f_UnknownFolk__init : Addr} {fd_UnknownFolk__init : FuncData} (D_UnknownFolk__init : Dm K "__init__" "UnknownFolk.__init__" s_UnknownFolk__init p_UnknownFolk__init f_UnknownFolk__init fd_UnknownFolk__init) (G_UnknownFolk__init : FnOk P w K mg base CX0 3 f_UnknownFolk__init fd_UnknownFolk__init p_UnknownFolk__init (sp_UnknownFolk__init K))
    (X_UnknownFolk : Dx K mg "UnknownFolk" (gad K "UnknownFolk") f_UnknownFolk__init ["name"])
    (T : Txt K mg) (D : Dn K mg "place_in" s_place_in p_place_in f fd) : FnOk P w K mg base (L2.CX P w) 5 f fd p_place_in (sp_place_in K) := by
  refine D.F.okX sc_place_in (fun vs H Q E h => ?_) (fun cdv A outer s' H vs Q E hr h => ?_)
  · obtain ⟨p, ns, z, rfl, _⟩ := h
    rfl
  · obtain ⟨p, ns, z, rfl, hp, h⟩ := h
    refine ⟨_, (pss_cons (ps_if (pt_cmpR (op_notIn_seqK (K := K) rfl) (pv 1) (pv 0) (by rfl)) (pss_one (ps_raise rfl (takes_of rfl rfl rfl rfl) (pmk_oex X_UnknownFolk.oex X_UnknownFolk.iC X_UnknownFolk.tI G_UnknownFolk__init (hr.mono (by omega)) D_UnknownFolk__init.b .nil pass0 (by rfl) X_UnknownFolk.g (pa_cons (pv 1) pa_nil)))) pss_nil)
  (pss_one (ps_ret (pe_bmF PySem.F.plainAttrs_tuple PySem.F.slot_tuple_index PySem.F.type_tuple_index (mt_tupIdxK (K := K) rfl) (pv 0) (pa_cons (pv 1) pa_nil))))), ?_⟩
    walk_at "my sts"
    refine i_notInStrT hp.sq ?_
    walk_at "my sts"
    rcases h with ⟨e, k⟩ | ⟨e, k⟩
    · rw [decide_eq_true e]
      walk_at "my sts"
      refine hp.bm ?_
      walk_at "my sts"
      refine i_tupIdx hp.sq e ?_
      exact k _ (Same.refl _)
    · rw [decide_eq_false e]
      walk_at "my sts"
      exact mkA X_UnknownFolk.oex (X_UnknownFolk.no "name" (by decide)) rfl fun d H' hd ed s2 => k d H' hd ed s2
def sp_SelfWatch__init (K : PySem.W.Frag) : Sp := spInit1 "name" K
theorem ok_SelfWatch__init {f : Addr} {fd : FuncData}
    {f_plain : Addr} {fd_plain : FuncData} (D_plain : Dn K mg "plain" s_plain p_plain f_plain fd_plain) (G_plain : FnOk P w K mg base CX0 2 f_plain fd_plain p_plain (sp_plain K))
    (T : Txt K mg) (D : Dm K "__init__" "SelfWatch.__init__" s_SelfWatch__init p_SelfWatch__init f fd) : FnOk P w K mg base CX0 3 f fd p_SelfWatch__init (sp_SelfWatch__init K) := by
  refine D.F.ok sc_SelfWatch__init (fun vs H Q E h => ?_) (fun cdv A outer s' H vs Q E hr h => ?_)
  · obtain ⟨a, C, v, rfl, _⟩ := h
    rfl
  · obtain ⟨a, C, v, rfl, hC, hno, ha, hv, k⟩ := h
    refine ⟨_, (pss_one (ps_ostK (K := K) rfl (pv 0) (pe_call G_plain (hr.mono (by omega)) (by rfl) D_plain.m D_plain.F.kp D_plain.b .nil pass0 (pa_cons (pv 1) pa_nil)))), ?_⟩
    refine i_ost ?_
    walk_at "my sts"
    refine ⟨v, rfl, hv, fun v' H1 pt s1 => ?_⟩
    walk_at "my sts"
    refine ost_first hC hno (s1 _ _ ha) fun dx hdx na => ?_
    refine k v' dx _ (s1.free hdx) upd_same (by rw [upd_ne na]; exact upd_same) ?_ fun b o nb hb => ?_
    · rcases pt with pt | ⟨p, xs, q, e, hp, e', hq⟩
      · exact .inl pt
      · refine .inr ⟨p, xs, q, e, hp, e', ?_⟩
        rw [upd_ne (at_ne (s1 _ _ ha) hq exo_tup), upd_ne (ne_of_none hq hdx)]
        exact hq
    · rw [upd_ne nb, upd_ne (ne_of_none (s1 _ _ hb) hdx)]
      exact s1 _ _ hb
def sp_BorderWatch__init (K : PySem.W.Frag) : Sp := spInit2 "watcher" "watched" K
theorem ok_BorderWatch__init {f : Addr} {fd : FuncData}
    {f_plain : Addr} {fd_plain : FuncData} (D_plain : Dn K mg "plain" s_plain p_plain f_plain fd_plain) (G_plain : FnOk P w K mg base CX0 2 f_plain fd_plain p_plain (sp_plain K))
    (T : Txt K mg) (D : Dm K "__init__" "BorderWatch.__init__" s_BorderWatch__init p_BorderWatch__init f fd) : FnOk P w K mg base CX0 3 f fd p_BorderWatch__init (sp_BorderWatch__init K) := by
  refine D.F.ok sc_BorderWatch__init (fun vs H Q E h => ?_) (fun cdv A outer s' H vs Q E hr h => ?_)
  · obtain ⟨a, C, v, u, rfl, _⟩ := h
    rfl
  · obtain ⟨a, C, v, u, rfl, hC, hf, hg, ha, hv, hu, k⟩ := h
    refine ⟨_, (pss_cons (ps_ostK (K := K) rfl (pv 0) (pe_call G_plain (hr.mono (by omega)) (by rfl) D_plain.m D_plain.F.kp D_plain.b .nil pass0 (pa_cons (pv 1) pa_nil)))
  (pss_one (ps_ostK (K := K) rfl (pv 0) (pe_call G_plain (hr.mono (by omega)) (by rfl) D_plain.m D_plain.F.kp D_plain.b .nil pass0 (pa_cons (pv 2) pa_nil))))), ?_⟩
    walk_at "my sts"
    refine i_ost ?_
    walk_at "my sts"
    refine ⟨v, rfl, .inl hv, fun v' H1 pt s1 => ?_⟩
    rcases pt with ⟨_, rfl⟩ | ⟨_, _, _, rfl, _⟩
    case inr => exact Bool.noConfusion hv
    walk_at "my sts"
    refine ost_first hC hf (s1 _ _ ha) fun dx hdx na => ?_
    refine i_ost ?_
    walk_at "my sts"
    refine ⟨u, rfl, .inl hu, fun u' H2 pt s2 => ?_⟩
    rcases pt with ⟨_, rfl⟩ | ⟨_, _, _, rfl, _⟩
    case inr => exact Bool.noConfusion hu
    walk_at "my sts"
    have e2 := s2 _ _ (show upd (upd H1 dx (exd dx [("watcher", v')])) a (exo a C (some dx)) a = _ from upd_same)
    have d2 := s2 _ _ (show upd (upd H1 dx (exd dx [("watcher", v')])) a (exo a C (some dx)) dx = _ by rw [upd_ne na]; exact upd_same)
    refine ost_next hC hg e2 d2 (by show 1 ≤ 900; decide) ?_
    refine k dx _ (s1.free hdx) ?_ upd_same fun b o nb hb => ?_
    · rw [upd_ne (Ne.symm na)]
      exact e2
    · have hb1 := s1 _ _ hb
      rw [upd_ne (ne_of_none hb1 hdx)]
      refine s2 _ _ ?_
      rw [upd_ne nb, upd_ne (ne_of_none hb1 hdx)]
      exact hb1
inductive Flt where
  | at (c f : Str) (x : V)
  | rep (a b : Str)
/-- the first fault of watches -/
def watchF (ns : List Str) : List (Str × Str) → List (Str × Str × Dt) → Option Flt
  | _, [] => none
  | seen, (a, b, d) :: r => if a ∈ ns then (if b ∈ ns then (if inR 1 9999 d = true then (if a = b then some (.at "SelfWatch" "name" (.str a)) else if (a, b) ∈ seen then some (.rep a b) else watchF ns (seen ++ [(a, b)]) r) else some (.at "BadNumber" "value" (atV d))) else some (.at "UnknownFolk" "name" (.str b))) else some (.at "UnknownFolk" "name" (.str a))
def watchD (ws : List (Str × Str × Dt)) : Dt := .seq (ws.map fun t => .seq [.str t.1, .str t.2.1, t.2.2])
def kW (ns : List Str) (a b : Str) : List Key := [Sum.inl ((plc ns b : Nat) : Int), Sum.inl ((plc ns a : Nat) : Int)]
def kvw (ns : List Str) (l : List (Str × Str × Dt)) : List (List Key × V) := l.map fun t => (kW ns t.1 t.2.1, V.int (numI t.2.2))
theorem plc_inj {ns : List Str} {a b : Str} (ha : a ∈ ns) (hb : b ∈ ns) (e : plc ns a = plc ns b) : a = b := by
  have h := plc_at ha
  rw [e, plc_at hb] at h
  exact (Option.some.inj h).symm
theorem kW_inj {ns : List Str} {a b c d : Str} (ha : a ∈ ns) (hb : b ∈ ns) (hc : c ∈ ns) (hd : d ∈ ns) (e : kW ns a b = kW ns c d) : a = c ∧ b = d := by
  unfold kW at e
  injection e with e1 e2
  injection e2 with e2 _
  have e1 := Sum.inl.inj e1
  have e2 := Sum.inl.inj e2
  exact ⟨plc_inj ha hc (by omega), plc_inj hb hd (by omega)⟩
theorem kvw_val {ns : List Str} {l : List (Str × Str × Dt)} {a b : Str} (ha : a ∈ ns) (hb : b ∈ ns) (hl : ∀ t ∈ l, t.1 ∈ ns ∧ t.2.1 ∈ ns) : (valV (kvw ns l) (kW ns a b)).isSome = decide ((a, b) ∈ l.map fun t => (t.1, t.2.1)) := by
  have key : kW ns a b ∈ (kvw ns l).map (·.1) ↔ (a, b) ∈ l.map fun t => (t.1, t.2.1) := by
    unfold kvw
    rw [List.map_map]
    constructor
    · intro h
      obtain ⟨t, ht, e⟩ := List.mem_map.mp h
      obtain ⟨e1, e2⟩ := kW_inj (hl t ht).1 (hl t ht).2 ha hb e
      exact List.mem_map.mpr ⟨t, ht, by rw [e1, e2]⟩
    · intro h
      obtain ⟨t, ht, e⟩ := List.mem_map.mp h
      injection e with e1 e2
      exact List.mem_map.mpr ⟨t, ht, by show kW ns t.1 t.2.1 = _; rw [e1, e2]⟩
  by_cases h : (a, b) ∈ l.map fun t => (t.1, t.2.1)
  · rw [valV_some (key.mpr h), decide_eq_true h]
  · rw [valV_none fun e => h (key.mp e), decide_eq_false h]
    rfl
theorem valV_mem {κ : Type} [DecidableEq κ] : ∀ {kvs : List (κ × V)} {k : κ} {v : V}, (k, v) ∈ kvs → (kvs.map (·.1)).Nodup → valV kvs k = some v := by
  intro kvs
  induction kvs with
  | nil => intro k v h; exact nomatch h
  | cons kv r ih =>
    intro k v h nd
    rw [List.map_cons, List.nodup_cons] at nd
    unfold valV
    rcases List.mem_cons.mp h with e | h
    · rw [← e, List.find?_cons_of_pos (p := fun kv : κ × V => decide (kv.1 = k)) (decide_eq_true rfl)]
      rfl
    · have ne : kv.1 ≠ k := fun e => nd.1 (by rw [e]; exact List.mem_map_of_mem h)
      rw [List.find?_cons_of_neg (p := fun kv : κ × V => decide (kv.1 = k)) (by rw [decide_eq_false ne]; decide)]
      exact ih h nd.2
def wI (t : Str × Str × Dt) : Str × Str × Int := (t.1, t.2.1, numI t.2.2)
/-- pair order -/
def PairS (ns : List Str) (ws : List (Str × Str × Int)) : Prop := ws.Pairwise fun s t => plc ns s.2.1 < plc ns t.2.1 ∨ (plc ns s.2.1 = plc ns t.2.1 ∧ plc ns s.1 ≤ plc ns t.1)
theorem zip_of {α β γ : Type} {F : γ → β → Prop} {f : α → γ} : ∀ {l : List α} {bs : List β}, Paired F (l.map f) bs → ∃ zs : List (α × β), zs.map (·.1) = l ∧ zs.map (·.2) = bs ∧ ∀ z ∈ zs, F (f z.1) z.2
  | [], bs, h => by
    cases h
    exact ⟨[], rfl, rfl, fun z hz => nomatch hz⟩
  | a :: l, bs, h => by
    cases h with
    | cons h1 h2 =>
      obtain ⟨zs, e1, e2, e3⟩ := zip_of h2
      refine ⟨(a, _) :: zs, by rw [List.map_cons, e1], by rw [List.map_cons, e2], fun z hz => ?_⟩
      rcases List.mem_cons.mp hz with rfl | hz
      · exact h1
      · exact e3 z hz
def keyAt (H : Hp) : V → Int × Int
  | .ref t => match H t with
    | some (.tup [.int i, .int j]) => (i, j)
    | _ => (0, 0)
  | _ => (0, 0)
theorem keyAt_of {H : Hp} {t : Addr} {i j : Int} (h : H t = some (.tup [.int i, .int j])) : keyAt H (.ref t) = (i, j) := by
  show (match H t with
    | some (.tup [.int i, .int j]) => (i, j)
    | _ => (0, 0)) = _
  rw [h]
def sp_examined_watches (K : PySem.W.Frag) : Sp := fun vs H Q E => ∃ (P : Addr → Prop) (tb p : Addr) (ns : List Str) (ws : List (Str × Str × Dt)) (v : V), vs = [.ref tb, .ref p, v] ∧ Rd H tb (.tup []) ∧ Nt H p ns ∧ ns.length ≤ 1000 ∧ (Rp P H 2 (watchD ws) v ∨ (ws = [] ∧ ∃ t, v = .ref t ∧ ∀ H', SqT K H' t [])) ∧ (∀ t ∈ ws, isNum t.2.2 = true) ∧
  (ws.length ≤ 24 → watchF ns [] ws = none → ∀ q rows ds H', H q = none → Same H H' → H' q = some (.tup rows) → Rows H' rows (ds.map trow) → ds.Perm (ws.map wI) → PairS ns ds → Q (.ref q) H') ∧
  (ws.length ≤ 24 → ∀ c f x, watchF ns [] ws = some (.at c f x) → ∀ d H', H d = none → H' d = some (.xd [(f, x)]) → Same H H' → E (.ref (gad K c)) (some d) H') ∧
  (ws.length ≤ 24 → ∀ a b, watchF ns [] ws = some (.rep a b) → ∀ d q H', H d = none → H' d = some (.xd [("value", .ref q)]) → H' q = some (.tup [.str a, .str b]) → Same H H' → E (.ref (gad K "Repeated")) (some d) H') ∧
  (¬ ws.length ≤ 24 → ∀ d H', H d = none → H' d = some (.xd [("number", .int ws.length), ("what", .str "watches")]) → Same H H' → E (.ref (gad K "BadCount")) (some d) H')
theorem ok_examined_watches {f : Addr} {fd : FuncData}
    {f_check_count : Addr} {fd_check_count : FuncData} (D_check_count : Dn K mg "check_count" s_check_count p_check_count f_check_count fd_check_count) (G_check_count : FnOk P w K mg base (L2.CX P w) 5 f_check_count fd_check_count p_check_count (sp_check_count K))
    {f_place_in : Addr} {fd_place_in : FuncData} (D_place_in : Dn K mg "place_in" s_place_in p_place_in f_place_in fd_place_in) (G_place_in : FnOk P w K mg base (L2.CX P w) 5 f_place_in fd_place_in p_place_in (sp_place_in K))
    {f_check_number : Addr} {fd_check_number : FuncData} (D_check_number : Dn K mg "check_number" s_check_number p_check_number f_check_number fd_check_number) (G_check_number : FnOk P w K mg base (L2.CX P w) 5 f_check_number fd_check_number p_check_number (sp_check_number K))
    {f_SelfWatch__init : Addr} {fd_SelfWatch__init : FuncData} (D_SelfWatch__init : Dm K "__init__" "SelfWatch.__init__" s_SelfWatch__init p_SelfWatch__init f_SelfWatch__init fd_SelfWatch__init) (G_SelfWatch__init : FnOk P w K mg base CX0 3 f_SelfWatch__init fd_SelfWatch__init p_SelfWatch__init (sp_SelfWatch__init K))
    (X_SelfWatch : Dx K mg "SelfWatch" (gad K "SelfWatch") f_SelfWatch__init ["name"])
    {f_BorderWatch__init : Addr} {fd_BorderWatch__init : FuncData} (D_BorderWatch__init : Dm K "__init__" "BorderWatch.__init__" s_BorderWatch__init p_BorderWatch__init f_BorderWatch__init fd_BorderWatch__init) (G_BorderWatch__init : FnOk P w K mg base CX0 3 f_BorderWatch__init fd_BorderWatch__init p_BorderWatch__init (sp_BorderWatch__init K))
    (X_BorderWatch : Dx K mg "BorderWatch" (gad K "BorderWatch") f_BorderWatch__init ["watcher", "watched"])
    {f_Repeated__init : Addr} {fd_Repeated__init : FuncData} (D_Repeated__init : Dm K "__init__" "Repeated.__init__" s_Repeated__init p_Repeated__init f_Repeated__init fd_Repeated__init) (G_Repeated__init : FnOk P w K mg base CX0 3 f_Repeated__init fd_Repeated__init p_Repeated__init (sp_Repeated__init K))
    (X_Repeated : Dx K mg "Repeated" (gad K "Repeated") f_Repeated__init ["value"])
    (T : Txt K mg) (D : Dn K mg "examined_watches" s_examined_watches p_examined_watches f fd) : FnOk P w K mg base (L2.CX P w) 6 f fd p_examined_watches (sp_examined_watches K) := by
  refine D.F.okX sc_examined_watches (fun vs H Q E h => ?_) (fun cdv A outer s' H vs Q E hr h => ?_)
  · obtain ⟨_, _, _, _, _, v, rfl, _⟩ := h
    rfl
  · obtain ⟨P0, tb, p, ns, ws, v, rfl, htb, hns, nsl, hr0, hat, k1, k2, k4, k3⟩ := h
    obtain ⟨pw, vs, rfl, hp, hl, hrow⟩ : ∃ (pw : Addr) (vs : List V), v = .ref pw ∧ Sq2 K H pw vs ∧ vs.length = ws.length ∧ ∀ (i : Nat) (d : Dt) (v : V), (ws.map fun t => Dt.seq [.str t.1, .str t.2.1, t.2.2])[i]? = some d → vs[i]? = some v → Rp P0 H 1 d v := by
      rcases hr0 with hr0 | ⟨rfl, t, rfl, ht⟩
      · obtain ⟨pw, vs, rfl, hp, hl, hz, hrow⟩ := rp_seq hr0
        rw [List.length_map] at hl
        exact ⟨pw, vs, rfl, hp.imp id .inl, hl, hrow⟩
      · exact ⟨t, [], rfl, .inr (.inr ht), rfl, fun i d v _ e => by simp at e⟩
    refine ⟨_, (pss_cons (ps_expr (pe_call G_check_count (hr.mono (by omega)) (by rfl) D_check_count.m D_check_count.F.kp D_check_count.b .nil (passes_call (takes_of rfl rfl rfl rfl) (fun _ _ _ _ h => h)) (pa_cons pe_str (pa_cons (pe_callB (n_lenVK (K := K) rfl) (by rfl) T.b_len (by decide +kernel) (pa_cons (pv 2) pa_nil)) (pa_cons pe_int (pa_cons (pe_globE (by rfl) T.c_MOST_WATCHES) pa_nil))))))
  (pss_cons (ps_set (i := 3) sc_examined_watches.nd rfl (Or.inr rfl) (pe_op (op_catAK (K := K) rfl) (pv 0) (pv 1)))
  (pss_cons (ps_set (i := 4) sc_examined_watches.nd rfl (Or.inr rfl) pe_dnewT)
  (pss_cons (ps_for (passes_of rfl) rfl (pi_any (K := K) rfl (pv 2)) (pg_any rfl (pgs_cons (pg_name (i := 5) sc_examined_watches.nd rfl (Or.inl rfl)) (pgs_cons (pg_name (i := 6) sc_examined_watches.nd rfl (Or.inl rfl)) (pgs_cons (pg_name (i := 7) sc_examined_watches.nd rfl (Or.inl rfl)) pgs_nil))))
   (pss_cons (ps_set (i := 8) sc_examined_watches.nd rfl (Or.inl rfl) (pe_call G_place_in (hr.mono (by omega)) (by rfl) D_place_in.m D_place_in.F.kp D_place_in.b .nil (passes_call (takes_of rfl rfl rfl rfl) (fun _ _ _ _ h => h)) (pa_cons (pv 3) (pa_cons (pv 5) pa_nil))))
  (pss_cons (ps_set (i := 9) sc_examined_watches.nd rfl (Or.inl rfl) (pe_call G_place_in (hr.mono (by omega)) (by rfl) D_place_in.m D_place_in.F.kp D_place_in.b .nil (passes_call (takes_of rfl rfl rfl rfl) (fun _ _ _ _ h => h)) (pa_cons (pv 3) (pa_cons (pv 6) pa_nil))))
  (pss_cons (ps_expr (pe_call G_check_number (hr.mono (by omega)) (by rfl) D_check_number.m D_check_number.F.kp D_check_number.b .nil (passes_call (takes_of rfl rfl rfl rfl) (fun _ _ _ _ h => h)) (pa_cons (pv 7) (pa_cons pe_int (pa_cons (pe_globE (by rfl) T.c_MOST_NUMBER) pa_nil)))))
  (pss_cons (ps_if (pt_cmpR op_eq (pv 8) (pv 9) (nomark _)) (pss_one (ps_raise rfl (takes_of rfl rfl rfl rfl) (pmk_oex X_SelfWatch.oex X_SelfWatch.iC X_SelfWatch.tI G_SelfWatch__init (hr.mono (by omega)) D_SelfWatch__init.b .nil pass0 (by rfl) X_SelfWatch.g (pa_cons (pv 5) pa_nil)))) pss_nil)
  (pss_cons (ps_if (PW.pt (pw_and (pt_cmpR (op_in_seqK (K := K) rfl) (pv 5) (pv 0) (by rfl)) (pw_and1 (pt_cmpR (op_in_seqK (K := K) rfl) (pv 6) (pv 0) (by rfl))))) (pss_one (ps_raise rfl (takes_of rfl rfl rfl rfl) (pmk_oex X_BorderWatch.oex X_BorderWatch.iC X_BorderWatch.tI G_BorderWatch__init (hr.mono (by omega)) D_BorderWatch__init.b .nil pass0 (by rfl) X_BorderWatch.g (pa_cons (pv 5) (pa_cons (pv 6) pa_nil))))) pss_nil)
  (pss_cons (ps_if (pt_cmp (pc_din (hu_of hr) (pe_tup (pa_cons (pv 9) (pa_cons (pv 8) pa_nil))) (pv 4))) (pss_one (ps_raise rfl (takes_of rfl rfl rfl rfl) (pmk_oex X_Repeated.oex X_Repeated.iC X_Repeated.tI G_Repeated__init (hr.mono (by omega)) D_Repeated__init.b .nil pass0 (by rfl) X_Repeated.g (pa_cons (pe_tup (pa_cons (pv 5) (pa_cons (pv 6) pa_nil))) pa_nil)))) pss_nil)
  (pss_one (ps_dput (hu_of hr) (pv 4) (pe_tup (pa_cons (pv 9) (pa_cons (pv 8) pa_nil))) (pe_callTy n_int (by rfl) T.b_int (by decide +kernel) (pa_cons (pv 7) pa_nil)) rfl)))))))))
  (pss_one (ps_ret (pe_callTy (n_tupleK (K := K) rfl) (by rfl) T.b_tuple (by decide +kernel) (pa_cons (pe_lc (own := [("pair", 10)]) rfl sc_examined_watches.nd (pi_list (pe_callB (cr_sortedPOK (K := K) rfl) (by rfl) T.b_sorted (by decide +kernel) (pa_cons (pe_callTy (call_list_dT rfl) (by rfl) T.b_list (by decide +kernel) (pa_cons (pv 4) pa_nil)) pa_nil))) (blkOk_by (own := [("pair", 10)]) (N := n_examined_watches) (sc := defScope s_examined_watches) (by decide +kernel)) (fun _ _ _ _ _ => (pg_name (i := 10) sc_examined_watches.nd rfl (Or.inl rfl))) (fun _ _ _ _ _ => pts_nil) (fun _ _ _ _ _ => (pe_tup (pa_cons (pe_ix (ix_tupK (K := K) rfl) (pv 3) (pe_ix (ix_tupK (K := K) rfl) (pv 10) pe_int (fun _ _ => rfl)) (fun _ _ => rfl)) (pa_cons (pe_ix (ix_tupK (K := K) rfl) (pv 3) (pe_ix (ix_tupK (K := K) rfl) (pv 10) pe_int (fun _ _ => rfl)) (fun _ _ => rfl)) (pa_cons (pe_dget (hu_of hr) (pv 4) (pv 10) (fun _ _ => rfl)) pa_nil)))))) pa_nil)))))))), ?_⟩
    walk_at "my sts"
    refine i_lenV2 hp ?_
    walk_at "my sts"
    refine ⟨_, _, _, _, rfl, ?_⟩
    by_cases hc : ws.length ≤ 24
    · refine .inl ⟨by omega, by omega, fun H1 s1 => ?_⟩
      have k2 := k2 hc
      have k1 := k1 hc
      have k4 := k4 hc
      walk_at "my sts"
      refine i_catNil (rd_sq (rd_same s1 htb)) (hns.same s1).sq (by rw [List.length_map]; omega) ?_
      walk_at "my sts"
      refine fun Da hD => ?_
      have hp1 : Sq2 K H1 pw vs := hp.keep fun u h => s1 _ _ h
      walk_at "my sts"
      refine fa2 (xs := vs) rfl (hp1.keep fun u h => same_new hD _ _ h) (fun i σ' H' => Same H1 H' ∧ (∃ x1 x2 x3 x4 x5, σ' = [some (.ref tb), some (.ref p), some (.ref pw), some (.ref p), some (.ref Da), x1, x2, x3, x4, x5, none]) ∧ H' Da = some (.dT (kvw ns (ws.take i))) ∧ watchF ns [] ws = watchF ns ((ws.take i).map fun t => (t.1, t.2.1)) (ws.drop i) ∧ ((ws.take i).map fun t => (t.1, t.2.1)).Nodup ∧ ∀ t ∈ ws.take i, t.1 ∈ ns ∧ t.2.1 ∈ ns)
        ⟨same_new hD, ⟨none, none, none, none, none, rfl⟩, upd_same, rfl, List.nodup_nil, fun t h => nomatch h⟩ ?_ ?_ ?_
      · rintro i σ' H' ⟨g, _⟩ u hu' hu
        by_cases e : pw = Da
        · rw [e, upd_same] at hu
          rcases hu' with rfl | rfl <;> cases hu
        · rw [upd_ne e] at hu
          exact g _ _ hu
      · rintro i x σ' H' hx ⟨g, ⟨x1, x2, x3, x4, x5, rfl⟩, gd, gf, gn, gm⟩
        have hi := (List.getElem?_eq_some_iff.mp hx).1
        have hi' : i < ws.length := by omega
        obtain ⟨⟨a, b, d⟩, hq⟩ : ∃ q, ws[i]? = some q := ⟨_, List.getElem?_eq_getElem hi'⟩
        have hmem := hat _ (List.mem_of_getElem? hq)
        have dr : ws.drop i = (a, b, d) :: ws.drop (i + 1) := by
          rw [List.drop_eq_getElem_cons hi']
          rw [List.getElem?_eq_getElem hi'] at hq
          rw [Option.some.inj hq]
        have tk : ws.take (i + 1) = ws.take i ++ [(a, b, d)] := by
          rw [List.take_add_one, hq]
          rfl
        rw [dr] at gf
        have hd1 : isAt d = true := by
          cases d with
          | seq _ => exact Bool.noConfusion (show false = true from hmem)
          | _ => rfl
        obtain ⟨q, rfl, hrw⟩ := rp_row (hrow i (.seq [.str a, .str b, d]) x (by rw [List.getElem?_map, hq]; rfl) hx) (fun d' hd' => by
          rcases List.mem_cons.mp hd' with rfl | hd'
          · rfl
          · rcases List.mem_cons.mp hd' with rfl | hd'
            · rfl
            · rw [List.mem_singleton.mp hd']
              exact hd1)
        have sH := s1.trans g
        refine gany3 (x := .str a) (y := .str b) (z := atV d) (hrw.imp (sH _ _) (sH _ _)) ?_
        walk_at "my sts"
        refine ⟨p, ns, a, rfl, hns.same sH, ?_⟩
        by_cases ha : a ∈ ns
        case neg =>
          refine .inr ⟨ha, fun e H2 he ed s2 => k2 "UnknownFolk" "name" (.str a) ?_ e H2 (sH.free he) ed (sH.trans s2)⟩
          rw [gf]
          unfold watchF
          rw [if_neg ha]
        refine .inl ⟨ha, fun H2 s2 => ?_⟩
        walk_at "my sts"
        refine ⟨p, ns, b, rfl, hns.same (sH.trans s2), ?_⟩
        by_cases hb : b ∈ ns
        case neg =>
          refine .inr ⟨hb, fun e H3 he ed s3 => k2 "UnknownFolk" "name" (.str b) ?_ e H3 ((sH.trans s2).free he) ed ((sH.trans s2).trans s3)⟩
          rw [gf]
          unfold watchF
          rw [if_pos ha, if_neg hb]
        refine .inl ⟨hb, fun H3 s3 => ?_⟩
        have sH3 := (sH.trans s2).trans s3
        walk_at "my sts"
        refine ⟨_, 1, 9999, rfl, ?_⟩
        cases hn : inR 1 9999 d with
        | false =>
          have ef : watchF ns [] ws = some (.at "BadNumber" "value" (atV d)) := by
            rw [gf]
            unfold watchF
            rw [if_pos ha, if_pos hb, if_neg (by rw [hn]; decide)]
          cases d with
          | int n =>
            refine .inr ⟨.inl ⟨n, rfl, fun h => ?_⟩, fun e H4 he ed s4 => k2 _ _ _ ef e H4 (sH3.free he) ed (sH3.trans s4)⟩
            have : (decide (1 ≤ n) && decide (n ≤ 9999)) = false := hn
            rw [decide_eq_true h.1, decide_eq_true h.2] at this
            cases this
          | bl b => exact .inr ⟨.inr ⟨b, rfl⟩, fun e H4 he ed s4 => k2 _ _ _ ef e H4 (sH3.free he) ed (sH3.trans s4)⟩
          | str _ => exact Bool.noConfusion (show false = true from hmem)
          | seq _ => exact Bool.noConfusion (show false = true from hmem)
        | true =>
          cases d with
          | int n =>
            have hn' : (decide (1 ≤ n) && decide (n ≤ 9999)) = true := hn
            rw [Bool.and_eq_true] at hn'
            refine .inl ⟨n, rfl, of_decide_eq_true hn'.1, of_decide_eq_true hn'.2, fun H4 s4 => ?_⟩
            have g4 := (s2.trans s3).trans s4
            have sH4 := sH.trans g4
            have gd4 := g4 _ _ gd
            walk_at "my sts"
            refine i_ite (fun h => ?_) fun h => ?_
            · have h : a = b := plc_inj ha hb (by
                have := of_decide_eq_true h
                injection this with this
                omega)
              walk_at "my sts"
              refine mkA X_SelfWatch.oex (X_SelfWatch.no "name" (by decide)) rfl fun e H5 he ed s5 => k2 "SelfWatch" "name" (.str a) ?_ e H5 (sH4.free he) ed (sH4.trans s5)
              rw [gf]
              unfold watchF
              rw [if_pos ha, if_pos hb, if_pos hn, if_pos h]
            · have h : ¬ a = b := fun e => of_decide_eq_false h (by rw [e])
              walk_at "my sts"
              refine i_inStrT (ns := []) (rd_sq (rd_same sH4 htb)) ?_
              rw [show decide (a ∈ ([] : List Str)) = false from rfl]
              walk_at "my sts"
              refine tup_end (show 2 ≤ 100000 by decide) fun T H5 hT s5 h5 => ?_
              have gd5 := s5 _ _ gd4
              walk_at "my sts"
              refine dinT (k := kW ns a b) gd5 h5 ?_
              rw [kvw_val ha hb gm]
              walk_at "my sts"
              refine i_ite (fun h2 => ?_) fun h2 => ?_
              · have h2 := of_decide_eq_true h2
                walk_at "my sts"
                refine tup_end (show 2 ≤ 100000 by decide) fun T2 H6 hT2 s6 h6 => ?_
                walk_at "my sts"
                have sH6 := (sH4.trans s5).trans s6
                refine mk1 X_Repeated.oex (X_Repeated.no "value" (by decide)) (.inr ⟨T2, _, rfl, .inr h6, (show 2 ≤ 1000 by decide), fun x hx => ?_⟩) fun v' e H7 he ed pt s7 => ?_
                · rcases List.mem_cons.mp hx with rfl | hx
                  · rfl
                  · rw [List.mem_singleton.mp hx]
                    rfl
                · rcases pt with ⟨h, _⟩ | ⟨p', xs', q', e1, e2, rfl, e4⟩
                  · exact Bool.noConfusion (show false = true from h)
                  · injection e1 with e1
                    subst e1
                    rcases e2 with e2 | e2
                    · rw [h6] at e2
                      cases e2
                    · rw [h6] at e2
                      cases e2
                      refine k4 a b ?_ e q' H7 (sH6.free he) ed e4 (sH6.trans s7)
                      rw [gf]
                      unfold watchF
                      rw [if_pos ha, if_pos hb, if_pos hn, if_neg h, if_pos h2]
              · have h2 := of_decide_eq_false h2
                walk_at "my sts"
                refine .inl ⟨n, rfl, ?_⟩
                walk_at "my sts"
                refine tup_end (show 2 ≤ 100000 by decide) fun T2 H6 hT2 s6 h6 => ?_
                refine dputT (k := kW ns a b) (s6 _ _ gd5) h6 ?_ ?_
                · unfold kvw
                  rw [List.length_map, List.length_take]
                  omega
                · have kn : kW ns a b ∉ (kvw ns (ws.take i)).map (·.1) := fun e => by
                    have := valV_some e
                    rw [kvw_val ha hb gm, decide_eq_false h2] at this
                    cases this
                  rw [putK_new kn]
                  refine ⟨same_mut (((g.trans g4).trans s5).trans s6) hD, ⟨_, _, _, _, _, rfl⟩, ?_, ?_, ?_, ?_⟩
                  · rw [upd_same, tk]
                    unfold kvw
                    rw [List.map_append]
                    rfl
                  · rw [gf, tk, List.map_append]
                    conv => lhs; unfold watchF
                    rw [if_pos ha, if_pos hb, if_pos hn, if_neg h, if_neg h2]
                    rfl
                  · rw [tk, List.map_append]
                    refine List.nodup_append.mpr ⟨gn, List.nodup_cons.mpr ⟨List.not_mem_nil, List.nodup_nil⟩, fun x hx y hy e => ?_⟩
                    rw [List.mem_singleton.mp hy] at e
                    exact h2 (by rw [← show x = (a, b) from e]; exact hx)
                  · intro t ht
                    rw [tk] at ht
                    rcases List.mem_append.mp ht with ht | ht
                    · exact gm t ht
                    · rw [List.mem_singleton.mp ht]
                      exact ⟨ha, hb⟩
          | bl b => cases hn
          | str _ => cases hn
          | seq _ => cases hn
      · rintro σ' H' ⟨g, ⟨x1, x2, x3, x4, x5, rfl⟩, gd, gf, gn, gm⟩
        rw [hl, List.take_length] at gd gn gm
        rw [hl, List.drop_length] at gf
        have k1 := k1 gf
        walk_at "my sts"
        refine ⟨Da, _, rfl, .inl gd, fun l bs hl' hk => ?_⟩
        obtain ⟨zs, z1, z2, z3⟩ := zip_of (f := fun t : Str × Str × Dt => (kW ns t.1 t.2.1, V.int (numI t.2.2))) hk
        have z3 : ∀ z ∈ zs, H' z.2 = some (.tup [.int ((plc ns z.1.2.1 : Nat) : Int), .int ((plc ns z.1.1 : Nat) : Int)]) := z3
        have zm : ∀ z ∈ zs, z.1 ∈ ws := fun z hz => by
          rw [← z1]
          exact List.mem_map_of_mem hz
        have zb : bs.map V.ref = zs.map fun z => V.ref z.2 := by
          rw [← z2, List.map_map]
          rfl
        have sl : Same H' (upd H' l (.lst (bs.map V.ref))) := same_new hl'
        walk_at "my sts"
        refine ⟨l, _, keyAt H', rfl, sqL upd_same, fun x hx => ?_, fun ys q sr sb hq => ?_⟩
        · rw [zb] at hx
          obtain ⟨z, hz, rfl⟩ := List.mem_map.mp hx
          refine ⟨z.2, rfl, ?_⟩
          rw [keyAt_of (z3 z hz)]
          exact sl _ _ (z3 z hz)
        obtain ⟨zs', pz, rfl⟩ := perm_map_inv (fun z : (Str × Str × Dt) × Addr => V.ref z.2) (zb ▸ sb.perm)
        have sq : Same H' (upd (upd H' l (.lst (bs.map V.ref))) q (.lst (zs'.map fun z => V.ref z.2))) := sl.trans (same_new hq)
        have nd : ((kvw ns ws).map (·.1)).Nodup := by
          unfold kvw
          rw [List.map_map]
          have e : ((fun kv : List Key × V => kv.1) ∘ fun t : Str × Str × Dt => (kW ns t.1 t.2.1, V.int (numI t.2.2))) = (fun ab : Str × Str => kW ns ab.1 ab.2) ∘ fun t : Str × Str × Dt => (t.1, t.2.1) := rfl
          rw [e, ← List.map_map]
          refine List.pairwise_map.mpr (List.Pairwise.imp_of_mem (fun {s t} hs ht h e => h ?_) gn)
          obtain ⟨s', hs', rfl⟩ := List.mem_map.mp hs
          obtain ⟨t', ht', rfl⟩ := List.mem_map.mp ht
          obtain ⟨e1, e2⟩ := kW_inj (gm _ hs').1 (gm _ hs').2 (gm _ ht').1 (gm _ ht').2 e
          rw [e1, e2]
        refine cl (xs := zs'.map fun z => V.ref z.2) (sqL upd_same) (fun Dl i H4 => Same (upd (upd H' l (.lst (bs.map V.ref))) q (.lst (zs'.map fun z => V.ref z.2))) H4 ∧ ∃ acc, H4 Dl = some (.lst acc) ∧ Rows H4 acc ((zs'.take i).map fun z => trow (wI z.1))) (fun Dl hDl => ⟨same_new hDl, [], upd_same, rfl⟩) (fun Dl i H4 _ _ h => sqL (h.1 _ _ upd_same)) ?_ ?_
        · rintro Dl i x H4 hDl hx ⟨g2, acc, g3, g4⟩
          rw [List.getElem?_map] at hx
          obtain ⟨z, hz, rfl⟩ := Option.map_eq_some_iff.mp hx
          have hz' : z ∈ zs := pz.mem_iff.mp (List.mem_of_getElem? hz)
          have s4 := sq.trans g2
          have ht := s4 _ _ (z3 z hz')
          have hm := gm _ (zm z hz')
          have hn4 := hns.same ((s1.trans g).trans s4)
          refine ⟨rfl, ?_⟩
          walk_at "my sts"
          refine i_ixT hn4.sq (atI_nat (by rw [List.getElem?_map, plc_at hm.1]; rfl)) ?_
          walk_at "my sts"
          refine i_ixT hn4.sq (atI_nat (by rw [List.getElem?_map, plc_at hm.2]; rfl)) ?_
          walk_at "my sts"
          refine dgetT (k := kW ns z.1.1 z.1.2.1) (s4 _ _ gd) ht (valV_mem (v := .int (numI z.1.2.2)) (List.mem_map.mpr ⟨z.1, zm z hz', rfl⟩) nd) ?_
          walk_at "my sts"
          refine tup_end (show 3 ≤ 100000 by decide) fun t H5 ht5 s5 h5 => ?_
          have g3' := s5 _ _ g3
          have al : acc.length ≤ 1000 := by
            have e1 := g4.len
            have e2 := pz.length_eq
            have e3 := congrArg List.length z1
            rw [List.length_map] at e3
            rw [List.length_map, List.length_take] at e1
            omega
          refine ⟨acc, g3', Nat.lt_of_le_of_lt al (by decide), same_mut (g2.trans s5) hDl, _, upd_same, ?_⟩
          rw [List.take_add_one, hz, List.map_append]
          exact ((g4.keep (Tk.same s5)).app (Rows.one h5)).keep (Tk.lst g3')
        · rintro Dl H4 hDl ⟨g2, acc, g3, g4⟩
          rw [List.length_map, List.take_length] at g4
          walk_at "my sts"
          refine tuple_end (sqL g3) fun q2 H5 hq2 s5 h5 => ?_
          have sA := (g.trans (sq.trans g2))
          refine k1 q2 acc (zs'.map fun z => wI z.1) H5 (s1.free (sA.free hq2)) (s1.trans (sA.trans s5)) h5 ?_ ?_ ?_
          · rw [List.map_map]
            exact g4.keep (Tk.same s5)
          · have := pz.map fun z => wI z.1
            rw [← z1, List.map_map]
            exact this
          · refine List.pairwise_map.mpr (List.Pairwise.imp_of_mem (fun {s t} hs ht h => ?_) (List.pairwise_map.mp sr))
            have h : SrtO.lexB (keyAt H' (.ref t.2)) (keyAt H' (.ref s.2)) = false := h
            rw [keyAt_of (z3 _ (pz.mem_iff.mp hs)), keyAt_of (z3 _ (pz.mem_iff.mp ht))] at h
            have h := SrtO.lexB_no.mp h
            show plc ns s.1.2.1 < plc ns t.1.2.1 ∨ (plc ns s.1.2.1 = plc ns t.1.2.1 ∧ plc ns s.1.1 ≤ plc ns t.1.1)
            dsimp only at h
            omega
    · refine .inr ⟨by omega, fun d H' hd ed s => ?_⟩
      rw [hl] at ed
      exact k3 hc d H' hd ed s
def bitN (ns : List Str) (a : Str) : Int := 1 * 2 ^ plc ns a
def qrow (ns : List Str) (t : Str × Str × Int) : List V := [.int (bitN ns t.1), .int t.2.2]
/-- the pulls on each of ns -/
def PullsAt (H : Hp) (ns : List Str) (ws : List (Str × Str × Int)) (rp : List V) : Prop := rp.length = ns.length ∧ ∀ (i : Nat) (n : Str) (v : V), ns[i]? = some n → rp[i]? = some v → ∃ q ys, v = .ref q ∧ H q = some (.tup ys) ∧ Rows H ys ((ws.filter fun t => decide (t.2.1 = n)).map (qrow ns))
theorem PullsAt.keep {H H' : Hp} {ns : List Str} {ws : List (Str × Str × Int)} {rp : List V} (h : PullsAt H ns ws rp) (k : Tk H H') : PullsAt H' ns ws rp := ⟨h.1, fun i n v e1 e2 => by
  obtain ⟨q, ys, e, h1, h2⟩ := h.2 i n v e1 e2
  exact ⟨q, ys, e, k _ _ h1, h2.keep k⟩⟩
def sp_all_pulls (K : PySem.W.Frag) : Sp := fun vs H Q _ => ∃ (p w : Addr) (ns : List Str) (rows : List V) (ws : List (Str × Str × Int)), vs = [.ref p, .ref w] ∧ Nt H p ns ∧ H w = some (.tup rows) ∧ Rows H rows (ws.map trow) ∧ ws.length ≤ 1000 ∧ ns.length ≤ 1000 ∧ (∀ t ∈ ws, t.1 ∈ ns) ∧
  ∀ q rp H', H q = none → Same H H' → H' q = some (.tup rp) → PullsAt H' ns ws rp → Q (.ref q) H'
theorem ok_all_pulls {f : Addr} {fd : FuncData}
    (T : Txt K mg) (D : Dn K mg "all_pulls" s_all_pulls p_all_pulls f fd) : FnOk P w K mg base CX0 1 f fd p_all_pulls (sp_all_pulls K) := by
  refine D.F.ok sc_all_pulls (fun vs H Q E h => ?_) (fun cdv A outer s' H vs Q E hr h => ?_)
  · obtain ⟨p, w, ns, rows, ws, rfl, _⟩ := h
    rfl
  · obtain ⟨p, w, ns, rows, ws, rfl, hp, hw, rw0, wl, nl, wm, k⟩ := h
    refine ⟨_, (pss_one (ps_ret (pe_callTy (n_tupleK (K := K) rfl) (by rfl) T.b_tuple (by decide +kernel) (pa_cons (pe_lc (own := [("name", 2)]) rfl sc_all_pulls.nd (pi_tup (pv 0)) (blkOk_by (own := [("name", 2)]) (N := n_all_pulls) (sc := defScope s_all_pulls) (by decide +kernel)) (fun _ _ _ _ _ => (pg_name (i := 2) sc_all_pulls.nd rfl (Or.inr rfl))) (fun _ _ _ _ _ => pts_nil) (fun _ _ _ _ _ => (by refine' (pe_callTy (n_tupleK (K := K) rfl) (by rfl) T.b_tuple (by decide +kernel) (pa_cons ?_ pa_nil)); exact (pe_lc (own := [("row", 3)]) rfl sc_all_pulls.nd (pi_tupK (K := K) rfl (pv 1)) (blkOk_by (own := [("row", 3)]) (by kernel_rfl)) (fun _ _ _ _ _ => (pg_name (i := 3) sc_all_pulls.nd rfl (Or.inl rfl))) (fun _ _ _ _ _ => (pts_one (pt_cmpR op_eq (pe_ix (ix_tupK (K := K) rfl) (pv 3) pe_int (fun _ _ => rfl)) (pv 2) (nomark _)))) (fun _ _ _ _ _ => (pe_tup (pa_cons (pe_op op_shl pe_int (pe_bmF PySem.F.plainAttrs_tuple PySem.F.slot_tuple_index PySem.F.type_tuple_index (mt_tupIdxK (K := K) rfl) (pv 0) (pa_cons (pe_ix (ix_tupK (K := K) rfl) (pv 3) pe_int (fun _ _ => rfl)) pa_nil))) (pa_cons (pe_ix (ix_tupK (K := K) rfl) (pv 3) pe_int (fun _ _ => rfl)) pa_nil)))))))) pa_nil)))), ?_⟩
    have lx := rw0.len
    rw [List.length_map] at lx
    walk_at "my sts"
    refine ct_ (xs := ns.map V.str) hp.sq (fun Dl i H' => Same H H' ∧ ∃ acc : List V, H' Dl = some (.lst acc) ∧ acc.length = i ∧ ∀ (j : Nat) (n : Str) (v : V), ns[j]? = some n → acc[j]? = some v → ∃ q ys, v = .ref q ∧ H' q = some (.tup ys) ∧ Rows H' ys ((ws.filter fun t => decide (t.2.1 = n)).map (qrow ns)))
      (fun Dl hD => ⟨same_new hD, [], upd_same, rfl, fun j n v _ e => by simp at e⟩) (fun Dl i H' _ _ g => (hp.same g.1).sq) ?_ ?_
    · rintro D0 i y H0 hD0 hy ⟨g0, acc0, g1, g2, g3⟩
      have hi := (List.getElem?_eq_some_iff.mp hy).1
      rw [List.length_map] at hi
      rw [List.getElem?_map] at hy
      obtain ⟨a, hn, rfl⟩ := Option.map_eq_some_iff.mp hy
      refine ⟨rfl, ?_⟩
      walk_at "my sts"
      refine ct_ (xs := rows) (sqT (g0 _ _ hw)) (fun Dl i H' => Same H0 H' ∧ ∃ acc, H' Dl = some (.lst acc) ∧ Rows H' acc (((ws.take i).filter fun t => decide (t.2.1 = a)).map (qrow ns))) (fun Dl hD => ⟨same_new hD, [], upd_same, rfl⟩) (fun Dl i H' _ _ g => sqT (g.1 _ _ (g0 _ _ hw))) ?_ ?_
      · rintro Dl i x H' hD hx ⟨g, acc, g3, g4⟩
        obtain ⟨t, d, rfl, hd, ht⟩ := rw0.get hx
        rw [List.getElem?_map] at hd
        obtain ⟨q, hq, rfl⟩ := Option.map_eq_some_iff.mp hd
        have ht := g _ _ (g0 _ _ ht)
        have hm := wm q (List.mem_of_getElem? hq)
        have hn := hp.same (g0.trans g)
        have pl := plc_lt hm
        have al : acc.length ≤ 1000 := by
          have e1 := g4.len
          rw [List.length_map] at e1
          have e2 := List.length_filter_le (fun t : Str × Str × Int => decide (t.2.1 = a)) (ws.take i)
          rw [List.length_take] at e2
          omega
        refine ⟨rfl, ?_⟩
        walk_at "my sts"
        refine i_ite (fun h => ?_) fun h => ?_
        · have h : q.2.1 = a := by
            have := of_decide_eq_true h
            injection this
          walk_at "my sts"
          refine hn.bm ?_
          walk_at "my sts"
          refine i_tupIdx hn.sq hm ?_
          walk_at "my sts"
          refine i_I (show CPow _ _ from ⟨by omega, by omega, by decide⟩) ?_
          walk_at "my sts"
          refine tup_end (show 2 ≤ 100000 by decide) fun T H5 hT s5 h5 => ?_
          have g3' := s5 _ _ g3
          refine ⟨acc, g3', Nat.lt_of_le_of_lt al (by decide), same_mut (g.trans s5) hD, _, upd_same, ?_⟩
          rw [take_filter _ hq, if_pos (decide_eq_true h), List.map_append]
          exact ((g4.keep (Tk.same s5)).app (Rows.one h5)).keep (Tk.lst g3')
        · have h : ¬ q.2.1 = a := fun e => of_decide_eq_false h (by rw [e])
          refine ⟨g, acc, g3, ?_⟩
          rw [take_filter _ hq, if_neg (by rw [decide_eq_false h]; decide), List.append_nil]
          exact g4
      · rintro Dl H' hD ⟨g, acc, g3', g4⟩
        rw [lx, List.take_length] at g4
        walk_at "my sts"
        refine tuple_end (sqL g3') fun q H2 hq s2 h2 => ?_
        have s02 := g.trans s2
        refine ⟨acc0, s02 _ _ g1, Nat.lt_of_le_of_lt (show acc0.length ≤ 1000 by omega) (by decide), same_mut (g0.trans s02) hD0, _, upd_same, by rw [List.length_append, g2]; rfl, fun j m v ej ev => ?_⟩
        have tkl : Tk H2 (upd H2 D0 (.lst (acc0 ++ [V.ref q]))) := Tk.lst (s02 _ _ g1)
        rcases Nat.lt_or_ge j acc0.length with h | h
        · rw [List.getElem?_append_left h] at ev
          obtain ⟨q', ys', e, h', hr'⟩ := g3 j m v ej ev
          exact ⟨q', ys', e, tkl _ _ (s02 _ _ h'), (hr'.keep (Tk.same s02)).keep tkl⟩
        · have hj := (List.getElem?_eq_some_iff.mp ev).1
          rw [List.length_append] at hj
          have ej' : j = i := by
            have : j < acc0.length + 1 := hj
            omega
          subst ej'
          rw [List.getElem?_append_right h, g2, Nat.sub_self] at ev
          cases ev
          rw [hn] at ej
          cases ej
          exact ⟨q, acc, rfl, tkl _ _ h2, (g4.keep (Tk.same s2)).keep tkl⟩
    · rintro D0 H' hD ⟨g, acc, g1, g2, g3⟩
      walk_at "my sts"
      refine tuple_end (sqL g1) fun q H2 hq s2 h2 => ?_
      exact k q acc H2 (g.free hq) (g.trans s2) h2 (PullsAt.keep (H := H') ⟨by rw [g2, List.length_map], g3⟩ (Tk.same s2))
/-- all but x stands -/
def Sx (x : Addr) (H H' : Hp) : Prop := ∀ b o, H b = some o → b ≠ x → H' b = some o
theorem Sx.trans {x : Addr} {H H1 H2 : Hp} (a : Sx x H H1) (b : Sx x H1 H2) : Sx x H H2 := fun c o h n => b c o (a c o h n) n
theorem Sx.same {x : Addr} {H H1 : Hp} (a : Same H H1) : Sx x H H1 := fun c o h _ => a c o h
theorem Sx.set {x : Addr} {H : Hp} {o : HO} : Sx x H (upd H x o) := fun c u h n => by
  rw [upd_ne n]
  exact h
theorem Sx.free {x a : Addr} {H H1 : Hp} (s : Sx x H H1) (h : H1 a = none) (n : a ≠ x) : H a = none := by
  cases e : H a with
  | none => rfl
  | some u =>
    rw [s a u e n] at h
    cases h
theorem ins_set {H : Hp} {x C dx : Addr} {l l' : List (Str × V)} (h : H x = some (.ins C dx l)) : Tk H (upd H x (.ins C dx l')) := fun t d e => by
  rw [upd_ne fun z => by rw [z, h] at e; cases e]
  exact e
theorem Nt.set {H : Hp} {x C dx p : Addr} {l l' : List (Str × V)} {ns : List Str} (hn : Nt H p ns) (h : H x = some (.ins C dx l)) : Nt (upd H x (.ins C dx l')) p ns := by
  obtain ⟨o, h1, h2⟩ := hn
  exact ⟨o, by rw [upd_ne fun z => by rw [z, h] at h1; cases h1]; exact h1, h2⟩
theorem Rp.set {P : Addr → Prop} {H : Hp} {x C dx : Addr} {l l' : List (Str × V)} {n : Nat} {d : Dt} {v : V} (r : Rp P H n d v) (h : H x = some (.ins C dx l)) : Rp P (upd H x (.ins C dx l')) n d v :=
  r.keep (fun _ p => p) (fun a xs _ e => by rw [upd_ne fun z => by rw [z, h] at e; cases e]; exact e) (ins_set h)
/-- a web of these folk and watches stands at x -/
def WebAt (K : PySem.W.Frag) (H : Hp) (x : Addr) (fs : List (Str × Int)) (ws : List (Str × Str × Int)) : Prop := ∃ (dx pf pn pw pp : Addr) (rf rw rp : List V), H x = some (.ins (gad K "Web") dx (wf (.ref pf) (.ref pn) (.ref pw) (.ref pp))) ∧
  H pf = some (.tup rf) ∧ Rows H rf (fs.map frow) ∧ Nt H pn (fs.map (·.1)) ∧ H pw = some (.tup rw) ∧ Rows H rw (ws.map trow) ∧ H pp = some (.tup rp) ∧ PullsAt H (fs.map (·.1)) ws rp
theorem WebAt.same {K : PySem.W.Frag} {H H' : Hp} {x : Addr} {fs : List (Str × Int)} {ws : List (Str × Str × Int)} (h : WebAt K H x fs ws) (s : Same H H') : WebAt K H' x fs ws := by
  obtain ⟨dx, pf, pn, pw, pp, rf, rw, rp, h1, h2, h3, h4, h5, h6, h7, h8⟩ := h
  exact ⟨dx, pf, pn, pw, pp, rf, rw, rp, s _ _ h1, s _ _ h2, h3.keep (Tk.same s), h4.same s, s _ _ h5, h6.keep (Tk.same s), s _ _ h7, h8.keep (Tk.same s)⟩
def fI (q : Str × Dt) : Str × Int := (q.1, numI q.2)
def sp_Web__init (K : PySem.W.Frag) : Sp := fun vs H Q E => ∃ (x dx : Addr) (P : Addr → Prop) (fs : List (Str × Dt)) (ws : List (Str × Str × Dt)) (v u : V), vs = [.ref x, v, u] ∧ H x = some (.ins (gad K "Web") dx []) ∧
  Rp P H 2 (folkD fs) v ∧ (∀ q ∈ fs, q.1.length ≤ 1000 ∧ isNum q.2 = true) ∧ (Rp P H 2 (watchD ws) u ∨ (ws = [] ∧ ∃ t, u = .ref t ∧ ∀ H', SqT K H' t [])) ∧ (∀ t ∈ ws, isNum t.2.2 = true) ∧
  (1 ≤ fs.length → fs.length ≤ 10 → folkF [] fs = none → ws.length ≤ 24 → watchF (fs.map (·.1)) [] ws = none → ∀ ds H', WebAt K H' x (fs.map fI) ds → ds.Perm (ws.map wI) → PairS (fs.map (·.1)) ds → Sx x H H' → Q .non H') ∧
  (¬ (1 ≤ fs.length ∧ fs.length ≤ 10) → ∀ d H', H d = none → H' d = some (.xd [("number", .int fs.length), ("what", .str "folk")]) → Sx x H H' → E (.ref (gad K "BadCount")) (some d) H') ∧
  (1 ≤ fs.length → fs.length ≤ 10 → ∀ c f y, folkF [] fs = some (c, f, y) → ∀ d H', H d = none → H' d = some (.xd [(f, y)]) → Sx x H H' → E (.ref (gad K c)) (some d) H') ∧
  (1 ≤ fs.length → fs.length ≤ 10 → folkF [] fs = none → ¬ ws.length ≤ 24 → ∀ d H', H d = none → H' d = some (.xd [("number", .int ws.length), ("what", .str "watches")]) → Sx x H H' → E (.ref (gad K "BadCount")) (some d) H') ∧
  (1 ≤ fs.length → fs.length ≤ 10 → folkF [] fs = none → ws.length ≤ 24 → ∀ c f y, watchF (fs.map (·.1)) [] ws = some (.at c f y) → ∀ d H', H d = none → H' d = some (.xd [(f, y)]) → Sx x H H' → E (.ref (gad K c)) (some d) H') ∧
  (1 ≤ fs.length → fs.length ≤ 10 → folkF [] fs = none → ws.length ≤ 24 → ∀ a b, watchF (fs.map (·.1)) [] ws = some (.rep a b) → ∀ d q H', H d = none → H' d = some (.xd [("value", .ref q)]) → H' q = some (.tup [.str a, .str b]) → Sx x H H' → E (.ref (gad K "Repeated")) (some d) H')
theorem watchF_in {ns : List Str} : ∀ {seen : List (Str × Str)} {ws : List (Str × Str × Dt)}, watchF ns seen ws = none → ∀ t ∈ ws, t.1 ∈ ns ∧ t.2.1 ∈ ns := by
  intro seen ws
  induction ws generalizing seen with
  | nil => intro _ t h; exact nomatch h
  | cons q r ih =>
    obtain ⟨a, b, d⟩ := q
    intro h t ht
    unfold watchF at h
    by_cases ha : a ∈ ns
    case neg => rw [if_neg ha] at h; cases h
    by_cases hb : b ∈ ns
    case neg => rw [if_pos ha, if_neg hb] at h; cases h
    rw [if_pos ha, if_pos hb] at h
    rcases List.mem_cons.mp ht with rfl | ht
    · exact ⟨ha, hb⟩
    · split at h
      · split at h
        · cases h
        · split at h
          · cases h
          · exact ih h t ht
      · cases h
theorem ok_Web__init {f : Addr} {fd : FuncData} {dv_Web__init_0 : V}
    {f_check_count : Addr} {fd_check_count : FuncData} (D_check_count : Dn K mg "check_count" s_check_count p_check_count f_check_count fd_check_count) (G_check_count : FnOk P w K mg base (L2.CX P w) 5 f_check_count fd_check_count p_check_count (sp_check_count K))
    {f_examined_folk : Addr} {fd_examined_folk : FuncData} (D_examined_folk : Dn K mg "examined_folk" s_examined_folk p_examined_folk f_examined_folk fd_examined_folk) (G_examined_folk : FnOk P w K mg base (L2.CX P w) 6 f_examined_folk fd_examined_folk p_examined_folk (sp_examined_folk K))
    {f_examined_watches : Addr} {fd_examined_watches : FuncData} (D_examined_watches : Dn K mg "examined_watches" s_examined_watches p_examined_watches f_examined_watches fd_examined_watches) (G_examined_watches : FnOk P w K mg base (L2.CX P w) 6 f_examined_watches fd_examined_watches p_examined_watches (sp_examined_watches K))
    {f_all_pulls : Addr} {fd_all_pulls : FuncData} (D_all_pulls : Dn K mg "all_pulls" s_all_pulls p_all_pulls f_all_pulls fd_all_pulls) (G_all_pulls : FnOk P w K mg base CX0 1 f_all_pulls fd_all_pulls p_all_pulls (sp_all_pulls K))
    (X_Web : Ci K mg "Web" ["_folk", "_names", "_watches", "_pulls"])
    (T : Txt K mg) (D : Dw K "__init__" "Web.__init__" s_Web__init [dv_Web__init_0] p_Web__init f fd) : FnOk P w K mg base (L2.CX P w) 7 f fd p_Web__init (sp_Web__init K) := by
  refine D.okX sc_Web__init (fun vs H Q E h => ?_) (fun cdv A outer s' H vs Q E hr h => ?_)
  · obtain ⟨_, _, _, _, _, _, _, rfl, _⟩ := h
    rfl
  · obtain ⟨x, dx, P0, fs, ws, v, u, rfl, hx, hv, hfa, hu, hwa, k1, k2, k3, k4, k5, k6⟩ := h
    have n1 := X_Web.no "_folk" (by decide)
    have n2 := X_Web.no "_names" (by decide)
    have n3 := X_Web.no "_watches" (by decide)
    have n4 := X_Web.no "_pulls" (by decide)
    refine ⟨_, (pss_cons (ps_expr (pe_call G_check_count (hr.mono (by omega)) (by rfl) D_check_count.m D_check_count.F.kp D_check_count.b .nil (passes_call (takes_of rfl rfl rfl rfl) (fun _ _ _ _ h => h)) (pa_cons pe_str (pa_cons (pe_callB (n_lenVK (K := K) rfl) (by rfl) T.b_len (by decide +kernel) (pa_cons (pv 1) pa_nil)) (pa_cons pe_int (pa_cons (pe_globE (by rfl) T.c_MOST_FOLK) pa_nil))))))
  (pss_cons (ps_fldK (K := K) rfl (pv 0) (pe_call G_examined_folk (hr.mono (by omega)) (by rfl) D_examined_folk.m D_examined_folk.F.kp D_examined_folk.b .nil (passes_call (takes_of rfl rfl rfl rfl) (fun _ _ _ _ h => h)) (pa_cons (pe_tup pa_nil) (pa_cons (pv 1) pa_nil))) rfl)
  (pss_cons (ps_fldK (K := K) rfl (pv 0) (pe_callTy (n_tupF (K := K) rfl) (by rfl) T.b_tuple (by decide +kernel) (pa_cons (pe_lc (own := [("row", 3)]) rfl sc_Web__init.nd (pi_tup (pe_fldK (K := K) rfl (pv 0) rfl)) (blkOk_by (own := [("row", 3)]) (N := n_Web__init) (sc := defScope s_Web__init) (by decide +kernel)) (fun _ _ _ _ _ => (pg_name (i := 3) sc_Web__init.nd rfl (Or.inl rfl))) (fun _ _ _ _ _ => pts_nil) (fun _ _ _ _ _ => (pe_ix (ix_tupK (K := K) rfl) (pv 3) pe_int (fun _ _ => rfl)))) pa_nil)) rfl)
  (pss_cons (ps_fldK (K := K) rfl (pv 0) (pe_call G_examined_watches (hr.mono (by omega)) (by rfl) D_examined_watches.m D_examined_watches.F.kp D_examined_watches.b .nil (passes_call (takes_of rfl rfl rfl rfl) (fun _ _ _ _ h => h)) (pa_cons (pe_tup pa_nil) (pa_cons (pe_fldK (K := K) rfl (pv 0) rfl) (pa_cons (pv 2) pa_nil)))) rfl)
  (pss_one (ps_fldK (K := K) rfl (pv 0) (pe_call G_all_pulls (hr.mono (by omega)) (by rfl) D_all_pulls.m D_all_pulls.F.kp D_all_pulls.b .nil pass0 (pa_cons (pe_fldK (K := K) rfl (pv 0) rfl) (pa_cons (pe_fldK (K := K) rfl (pv 0) rfl) pa_nil))) rfl)))))), ?_⟩
    obtain ⟨pv0, vs0, rfl, hp0, hl0, _, _⟩ := rp_seq hv
    rw [List.length_map] at hl0
    walk_at "my sts"
    refine i_lenVA hp0 ?_
    walk_at "my sts"
    refine ⟨_, _, _, _, rfl, ?_⟩
    by_cases hc0 : ¬ (1 ≤ fs.length ∧ fs.length ≤ 10)
    · refine .inr ⟨by omega, fun d H' hd ed s => ?_⟩
      rw [hl0] at ed
      exact k2 hc0 d H' hd ed (Sx.same s)
    have hc0 := Classical.not_not.mp hc0
    have l1 := hc0.1
    have l2 := hc0.2
    refine .inl ⟨by omega, by omega, fun Ha sa => ?_⟩
    walk_at "my sts"
    refine tup_end (show 0 ≤ 100000 by decide) fun tb Hb htb sb hb => ?_
    have sab := sa.trans sb
    walk_at "my sts"
    refine ⟨P0, tb, [], fs, _, rfl, .inl hb, hv.same sab, hfa, by omega, fun hf q1 rows H1 hq1 s1' h1 hr1 => ?_, fun c f y hf d H' hd ed s => k3 l1 l2 c f y hf d H' (sab.free hd) ed (Sx.same (sab.trans s))⟩
    have s1 := sab.trans s1'
    have k1 := k1 l1 l2 hf
    have k4 := k4 l1 l2 hf
    have k5 := k5 l1 l2 hf
    have k6 := k6 l1 l2 hf
    have hx1 := s1 _ _ hx
    walk_at "my sts"
    refine sfld_end hx1 X_Web.cl n1 (by show 0 ≤ 900; decide) ?_
    rw [put1]
    obtain ⟨H2, hH2⟩ : ∃ H2, H2 = upd H1 x (.ins (gad K "Web") dx [(("_folk" : Str), V.ref q1)]) := ⟨_, rfl⟩
    rw [← hH2]
    have hx2 : H2 x = some (.ins (gad K "Web") dx [(("_folk" : Str), V.ref q1)]) := by rw [hH2]; exact upd_same
    have tk2 : Tk H1 H2 := by rw [hH2]; exact ins_set hx1
    have sx2 : Sx x H H2 := by rw [hH2]; exact (Sx.same s1).trans Sx.set
    have hu2 : Rp P0 H 2 (watchD ws) u → Rp P0 H2 2 (watchD ws) u := fun r => by rw [hH2]; exact (r.same s1).set hx1
    have h2 := tk2 _ _ h1
    have hr2 := hr1.keep tk2
    have lr := hr2.len
    rw [List.length_map] at lr
    walk_at "my sts"
    refine fld_end hx2 X_Web.cl n1 lk_folk ?_
    refine ct_ (xs := rows) (sqT h2) (fun Dl i H' => Same H2 H' ∧ H' Dl = some (.lst ((fs.take i).map fun q => V.str q.1))) (fun Dl hD => ⟨same_new hD, upd_same⟩) (fun Dl i H' _ _ g => sqT (g.1 _ _ h2)) ?_ ?_
    · rintro Dl i y H' hD hy ⟨g, gl⟩
      obtain ⟨t, d, rfl, hd, ht⟩ := hr2.get hy
      rw [List.getElem?_map] at hd
      obtain ⟨q, hq, rfl⟩ := Option.map_eq_some_iff.mp hd
      have ht := g _ _ ht
      refine ⟨rfl, ?_⟩
      walk_at "my sts"
      refine ⟨_, gl, Nat.lt_of_le_of_lt (show _ ≤ 1000 by rw [List.length_map, List.length_take]; omega) (by decide), same_mut g hD, ?_⟩
      rw [upd_same, take_map _ hq]
    rintro Dl H' hD ⟨g, gl⟩
    rw [lr, List.take_length] at gl
    walk_at "my sts"
    refine tupF_end (sqL gl) fun q2 o H3 hq2 ho s3 h3 => ?_
    have hx3 := s3 _ _ (g _ _ hx2)
    have s23 := g.trans s3
    walk_at "my sts"
    refine sfld_end hx3 X_Web.cl n2 (by show 1 ≤ 900; decide) ?_
    rw [put2]
    have nt3 : Nt H3 q2 (fs.map (·.1)) := ⟨o, by rw [h3, List.map_map]; rfl, ho⟩
    obtain ⟨H4, hH4⟩ : ∃ H4, H4 = upd H3 x (.ins (gad K "Web") dx [(("_folk" : Str), V.ref q1), (("_names" : Str), V.ref q2)]) := ⟨_, rfl⟩
    rw [← hH4]
    have hx4 : H4 x = some (.ins (gad K "Web") dx [(("_folk" : Str), V.ref q1), (("_names" : Str), V.ref q2)]) := by rw [hH4]; exact upd_same
    have tk4 : Tk H2 H4 := by rw [hH4]; exact (Tk.same s23).trans (ins_set hx3)
    have sx4 : Sx x H H4 := by rw [hH4]; exact sx2.trans ((Sx.same s23).trans Sx.set)
    have nt4 : Nt H4 q2 (fs.map (·.1)) := by rw [hH4]; exact nt3.set hx3
    have hu4 : Rp P0 H 2 (watchD ws) u → Rp P0 H4 2 (watchD ws) u := fun r => by rw [hH4]; exact ((hu2 r).same s23).set hx3
    have fr4 : ∀ {d : Addr}, H4 d = none → H d = none := fun {d} hd => sx4.free hd (ne_none hx4 hd)
    walk_at "my sts"
    refine tup_end (show 0 ≤ 100000 by decide) fun tb4 Hc htc sc hc => ?_
    walk_at "my sts"
    refine fld_end (sc _ _ hx4) X_Web.cl n2 lk_names ?_
    walk_at "my sts"
    refine ⟨P0, tb4, q2, fs.map (·.1), ws, u, rfl, .inl hc, nt4.same sc, (by rw [List.length_map]; omega), hu.imp (fun r => (hu4 r).same sc) id, hwa, fun lw hwf q3 rows3 ds H5 hq3 s5' h5 hr5 hpm hps => ?_, fun lw c f y hf d H' hd ed s => k5 lw c f y hf d H' (fr4 (sc.free hd)) ed (sx4.trans (Sx.same (sc.trans s))), fun lw a b hf d q H' hd ed eq s => k6 lw a b hf d q H' (fr4 (sc.free hd)) ed eq (sx4.trans (Sx.same (sc.trans s))), fun lw d H' hd ed s => k4 lw d H' (fr4 (sc.free hd)) ed (sx4.trans (Sx.same (sc.trans s)))⟩
    have s5 := sc.trans s5'
    have k1 := k1 lw hwf
    have win : ∀ t ∈ ds, t.1 ∈ fs.map (·.1) := fun t ht => by
      obtain ⟨t', ht', rfl⟩ := List.mem_map.mp (hpm.mem_iff.mp ht)
      exact (watchF_in hwf t' ht').1
    have dl : ds.length = ws.length := by
      have := hpm.length_eq
      rw [List.length_map] at this
      exact this
    have hx5 := s5 _ _ hx4
    walk_at "my sts"
    refine sfld_end hx5 X_Web.cl n3 (by show 2 ≤ 900; decide) ?_
    rw [put3]
    obtain ⟨H6, hH6⟩ : ∃ H6, H6 = upd H5 x (.ins (gad K "Web") dx [(("_folk" : Str), V.ref q1), (("_names" : Str), V.ref q2), (("_watches" : Str), V.ref q3)]) := ⟨_, rfl⟩
    rw [← hH6]
    have hx6 : H6 x = some (.ins (gad K "Web") dx [(("_folk" : Str), V.ref q1), (("_names" : Str), V.ref q2), (("_watches" : Str), V.ref q3)]) := by rw [hH6]; exact upd_same
    have tk56 : Tk H5 H6 := by rw [hH6]; exact ins_set hx5
    have tk6 : Tk H4 H6 := (Tk.same s5).trans tk56
    have sx6 : Sx x H H6 := by rw [hH6]; exact sx4.trans ((Sx.same s5).trans Sx.set)
    have nt6 : Nt H6 q2 (fs.map (·.1)) := by rw [hH6]; exact (nt4.same s5).set hx5
    have h6 := tk56 _ _ h5
    have hr6 := hr5.keep tk56
    walk_at "my sts"
    refine fld_end hx6 X_Web.cl n2 lk_names ?_
    walk_at "my sts"
    refine fld_end hx6 X_Web.cl n3 lk_watches ?_
    walk_at "my sts"
    refine ⟨q2, q3, fs.map (·.1), rows3, ds, rfl, nt6, h6, hr6, by omega, (by rw [List.length_map]; omega), win, fun q4 acc H8 hq4 s8 h8 hpa => ?_⟩
    have s68 := s8
    have hx8 := s68 _ _ hx6
    walk_at "my sts"
    refine sfld_end hx8 X_Web.cl n4 (by show 3 ≤ 900; decide) ?_
    rw [put4]
    have tk8 : Tk H6 (upd H8 x (.ins (gad K "Web") dx (wf (.ref q1) (.ref q2) (.ref q3) (.ref q4)))) := (Tk.same s68).trans (ins_set hx8)
    have tk24 := tk4.trans (tk6.trans tk8)
    refine k1 ds _ ⟨dx, q1, q2, q3, q4, rows, rows3, acc, upd_same, tk24 _ _ h2, ?_, ?_, tk8 _ _ h6, hr6.keep tk8, ins_set hx8 _ _ h8, ?_⟩ hpm hps (sx6.trans ((Sx.same s68).trans Sx.set))
    · rw [List.map_map]
      exact hr2.keep tk24
    · rw [List.map_map]
      exact (nt6.same s68).set hx8
    · have e : (fs.map fI).map (·.1) = fs.map (·.1) := by rw [List.map_map]; rfl
      rw [e]
      exact hpa.keep (ins_set hx8)
theorem WebAt.nk {K : PySem.W.Frag} {H H' : Hp} {x : Addr} {fs : List (Str × Int)} {ws : List (Str × Str × Int)} (h : WebAt K H x fs ws) (k : Nk H H') : WebAt K H' x fs ws := by
  obtain ⟨dx, pf, pn, pw, pp, rf, rw, rp, h1, h2, h3, ⟨o, h4, h4'⟩, h5, h6, h7, h8⟩ := h
  exact ⟨dx, pf, pn, pw, pp, rf, rw, rp, k _ _ h1 (fun _ z => nomatch z), k.tk _ _ h2, h3.keep k.tk, ⟨o, k _ _ h4 (fun _ z => nomatch z), h4'⟩, k.tk _ _ h5, h6.keep k.tk, k.tk _ _ h7, h8.keep k.tk⟩
def fD (f : Str × Int) : Str × Dt := (f.1, .int f.2)
def wD (t : Str × Str × Int) : Str × Str × Dt := (t.1, t.2.1, .int t.2.2)
theorem folkD_rows (fs : List (Str × Int)) : folkD (fs.map fD) = rowsD (fs.map frow) := by
  unfold folkD rowsD
  rw [List.map_map, List.map_map]
  rfl
theorem watchD_rows (ws : List (Str × Str × Int)) : watchD (ws.map wD) = rowsD (ws.map trow) := by
  unfold watchD rowsD
  rw [List.map_map, List.map_map]
  rfl
theorem folkF_good : ∀ {fs : List (Str × Int)} {seen : List Str}, (∀ f ∈ fs, nameB f.1 = true ∧ 0 ≤ f.2 ∧ f.2 ≤ 9999) → (fs.map (·.1)).Nodup → (∀ a ∈ seen, a ∉ fs.map (·.1)) → folkF seen (fs.map fD) = none
  | [], _, _, _, _ => rfl
  | (a, d) :: r, seen, h, nd, hs => by
    have h0 := h (a, d) List.mem_cons_self
    rw [List.map_cons, List.nodup_cons] at nd
    show folkF seen ((a, Dt.int d) :: r.map fD) = none
    unfold folkF
    have hi : inR 0 9999 (Dt.int d) = true := by
      show (decide (0 ≤ d) && decide (d ≤ 9999)) = true
      rw [decide_eq_true h0.2.1, decide_eq_true h0.2.2]
      rfl
    rw [if_pos h0.1, if_pos hi, if_neg fun e => hs a e List.mem_cons_self]
    refine folkF_good (fun f hf => h f (List.mem_cons_of_mem _ hf)) nd.2 fun b hb hb' => ?_
    rcases List.mem_append.mp hb with hb | hb
    · exact hs b hb (List.mem_cons_of_mem _ hb')
    · rw [List.mem_singleton.mp hb] at hb'
      exact nd.1 hb'
theorem watchF_good {ns : List Str} : ∀ {ws : List (Str × Str × Int)} {seen : List (Str × Str)}, (ws.map fun t => (t.1, t.2.1)).Nodup → (∀ t ∈ ws, t.1 ∈ ns ∧ t.2.1 ∈ ns ∧ t.1 ≠ t.2.1 ∧ 1 ≤ t.2.2 ∧ t.2.2 ≤ 9999) → (∀ p ∈ seen, p ∉ ws.map fun t => (t.1, t.2.1)) → watchF ns seen (ws.map wD) = none
  | [], _, _, _, _ => rfl
  | (a, b, d) :: r, seen, nd, h, hs => by
    have h0 := h (a, b, d) List.mem_cons_self
    rw [List.map_cons, List.nodup_cons] at nd
    show watchF ns seen ((a, b, Dt.int d) :: r.map wD) = none
    unfold watchF
    have hi : inR 1 9999 (Dt.int d) = true := by
      show (decide (1 ≤ d) && decide (d ≤ 9999)) = true
      rw [decide_eq_true h0.2.2.2.1, decide_eq_true h0.2.2.2.2]
      rfl
    rw [if_pos h0.1, if_pos h0.2.1, if_pos hi, if_neg h0.2.2.1, if_neg fun e => hs (a, b) e List.mem_cons_self]
    refine watchF_good nd.2 (fun t ht => h t (List.mem_cons_of_mem _ ht)) fun p hp hp' => ?_
    rcases List.mem_append.mp hp with hp | hp
    · exact hs p hp (List.mem_cons_of_mem _ hp')
    · rw [List.mem_singleton.mp hp] at hp'
      exact nd.1 hp'
theorem web_made {K : PySem.W.Frag} {E : XK} {Q : VK} {H : Hp} {P : Addr → Prop} {v u : V} {us dvs : List V} {fs : List (Str × Int)} {ws : List (Str × Str × Int)} (e : us ++ dvs = [v, u]) (hv : Rp P H 2 (rowsD (fs.map frow)) v) (hu : Rp P H 2 (rowsD (ws.map trow)) u ∨ (ws = [] ∧ ∃ t, u = .ref t ∧ ∀ H', SqT K H' t []))
    (nm : ∀ f ∈ fs, nameB f.1 = true ∧ 0 ≤ f.2 ∧ f.2 ≤ 9999) (nd : (fs.map (·.1)).Nodup) (l1 : 1 ≤ fs.length) (l10 : fs.length ≤ 10) (wn : (ws.map fun t => (t.1, t.2.1)).Nodup) (wm : ∀ t ∈ ws, t.1 ∈ fs.map (·.1) ∧ t.2.1 ∈ fs.map (·.1) ∧ t.1 ≠ t.2.1 ∧ 1 ≤ t.2.2 ∧ t.2.2 ≤ 9999) (wl : ws.length ≤ 24)
    (k : ∀ x ds H', WebAt K H' x fs ds → ds.Perm ws → PairS (fs.map (·.1)) ds → Same H H' → H x = none → Q (.ref x) H') : MakeEnd (gad K "Web") (sp_Web__init K) dvs E Q us H := by
  intro x dx hx hdx nx
  rw [e]
  have nf : (fs.map fD).map fI = fs := by
    rw [List.map_map]
    conv => rhs; rw [← List.map_id fs]
    exact List.map_congr_left fun f _ => rfl
  have nw : (ws.map wD).map wI = ws := by
    rw [List.map_map]
    conv => rhs; rw [← List.map_id ws]
    exact List.map_congr_left fun f _ => rfl
  have n1 : (fs.map fD).map (·.1) = fs.map (·.1) := by rw [List.map_map]; rfl
  have fF := folkF_good nm nd (seen := []) (fun _ h => nomatch h)
  have wF := watchF_good (ns := fs.map (·.1)) wn wm (seen := []) (fun _ h => nomatch h)
  have sm : Same H (upd (upd H dx (.own x)) x (.ins (gad K "Web") dx [])) := fun b o h => by
    rw [upd_ne (ne_of_none h hx), upd_ne (ne_of_none h hdx)]
    exact h
  have len : (fs.map fD).length = fs.length := List.length_map _
  have lenw : (ws.map wD).length = ws.length := List.length_map _
  refine ⟨x, dx, P, fs.map fD, ws.map wD, v, u, rfl, upd_same, by rw [folkD_rows]; exact hv.same sm, fun q hq => ?_, ?_, fun t ht => ?_, fun _ _ _ _ _ ds H' hw pm ps sx => ?_, fun h => absurd ⟨by omega, by omega⟩ h, fun _ _ c f y h => ?_, fun _ _ _ h => absurd (by omega) h, fun _ _ _ _ c f y h => ?_, fun _ _ _ _ a b h => ?_⟩
  · obtain ⟨f, hf, rfl⟩ := List.mem_map.mp hq
    have := nameB_len (nm f hf).1
    exact ⟨by show f.1.length ≤ 1000; omega, rfl⟩
  · rcases hu with hu | ⟨e2, t, rfl, ht⟩
    · exact .inl (by rw [watchD_rows]; exact hu.same sm)
    · exact .inr ⟨by rw [e2]; rfl, t, rfl, ht⟩
  · obtain ⟨w, hw, rfl⟩ := List.mem_map.mp ht
    rfl
  · rw [nf] at hw
    rw [nw] at pm
    rw [n1] at ps
    exact ⟨rfl, k x ds H' hw pm ps (fun b o h => sx b o (sm b o h) (ne_of_none h hx)) hx⟩
  · rw [fF] at h
    cases h
  · rw [n1, wF] at h
    cases h
  · rw [n1, wF] at h
    cases h
theorem atomF (fs : List (Str × Int)) : ∀ r ∈ fs.map frow, r.length ≤ 1000 ∧ ∀ v ∈ r, atomB v = true := by
  intro r hr
  obtain ⟨f, _, rfl⟩ := List.mem_map.mp hr
  refine ⟨show 2 ≤ 1000 by decide, fun v hv => ?_⟩
  rcases List.mem_cons.mp hv with rfl | hv
  · rfl
  · rw [List.mem_singleton.mp hv]
    rfl
theorem atomT (ws : List (Str × Str × Int)) : ∀ r ∈ ws.map trow, r.length ≤ 1000 ∧ ∀ v ∈ r, atomB v = true := by
  intro r hr
  obtain ⟨f, _, rfl⟩ := List.mem_map.mp hr
  refine ⟨show 3 ≤ 1000 by decide, fun v hv => ?_⟩
  rcases List.mem_cons.mp hv with rfl | hv
  · rfl
  · rcases List.mem_cons.mp hv with rfl | hv
    · rfl
    · rw [List.mem_singleton.mp hv]
      rfl
/-- a web as the law has drawn it: folk and watches, in lists of their own -/
structure WebD (H : Hp) (fp wp : Addr) (fs : List (Str × Int)) (ws : List (Str × Str × Int)) : Prop where
  f : ∃ ys, H fp = some (.lst ys) ∧ Rows H ys (fs.map frow)
  w : ∃ xs, H wp = some (.lst xs) ∧ Rows H xs (ws.map trow)
  nd : (fs.map (·.1)).Nodup
  nm : ∀ f ∈ fs, nameB f.1 = true ∧ 0 ≤ f.2 ∧ f.2 ≤ 9999
  l1 : 1 ≤ fs.length
  l10 : fs.length ≤ 10
  wok : Wok (fs.map (·.1)) ws
theorem WebD.fr {H H' : Hp} {s fp wp : Addr} {fs : List (Str × Int)} {ws : List (Str × Str × Int)} (h : WebD H fp wp fs ws) (nf : fp ≠ s) (nw : wp ≠ s) (hs : StOk H s) (f : Fr s H H') : WebD H' fp wp fs ws := by
  obtain ⟨⟨ys, hf, rf⟩, ⟨xs, hw, rw0⟩, nd, nm, l1, l10, wok⟩ := h
  exact ⟨⟨ys, f.1 _ _ hf nf, rf.keep (f.tk hs)⟩, ⟨xs, f.1 _ _ hw nw, rw0.keep (f.tk hs)⟩, nd, nm, l1, l10, wok⟩
theorem WebD.names {H : Hp} {fp wp : Addr} {fs : List (Str × Int)} {ws : List (Str × Str × Int)} (h : WebD H fp wp fs ws) : ∀ n ∈ fs.map (·.1), nameB n = true := fun n hn => by
  obtain ⟨f, hf, rfl⟩ := List.mem_map.mp hn
  exact (h.nm f hf).1
/-- sorted lists of the same watches are one -/
theorem sort_one {ns : List Str} {ws ds es : List (Str × Str × Int)} (wok : Wok ns ws) (p1 : ds.Perm ws) (p2 : es.Perm ws) (s1 : PairS ns ds) (s2 : PairS ns es) : ds = es := by
  refine List.Perm.eq_of_pairwise (fun a b ha hb h1 h2 => ?_) s1 s2 (p1.trans p2.symm)
  have ma := p1.mem_iff.mp ha
  have mb := p2.mem_iff.mp hb
  have e1 : plc ns a.2.1 = plc ns b.2.1 ∧ plc ns a.1 = plc ns b.1 := by omega
  have plc_inj : ∀ {x y : Str}, x ∈ ns → y ∈ ns → plc ns x = plc ns y → x = y := fun {x y} hx hy e => by rw [← nth_plc hx, ← nth_plc hy, e]
  have ea : a.1 = b.1 := plc_inj (wok.mem a ma).1 (wok.mem b mb).1 e1.2
  have eb : a.2.1 = b.2.1 := plc_inj (wok.mem a ma).2.1 (wok.mem b mb).2.1 e1.1
  obtain ⟨i, hi⟩ := List.mem_iff_getElem?.mp ma
  obtain ⟨j, hj⟩ := List.mem_iff_getElem?.mp mb
  have ij : i = j := nd_ix wok.nd (show (ws.map fun t => (t.1, t.2.1))[i]? = some (a.1, a.2.1) by rw [List.getElem?_map, hi]; rfl) (show (ws.map fun t => (t.1, t.2.1))[j]? = some (a.1, a.2.1) by rw [List.getElem?_map, hj, ea, eb]; rfl)
  rw [ij, hj] at hi
  exact (Option.some.inj hi).symm
/-- a web beside the lists that it was made of -/
structure Wb (K : PySem.W.Frag) (H : Hp) (s x sd : Addr) (fs : List (Str × Int)) (ws : List (Str × Str × Int)) : Prop where
  web : ∃ ds, WebAt K H x fs ds ∧ ds.Perm ws ∧ PairS (fs.map (·.1)) ds
  side : ∃ fp wp, H sd = some (.lst [.ref fp, .ref wp]) ∧ fp ≠ s ∧ wp ≠ s ∧ WebD H fp wp fs ws
  ns : sd ≠ s
theorem Wb.fr {K : PySem.W.Frag} {H H' : Hp} {s x sd : Addr} {fs : List (Str × Int)} {ws : List (Str × Str × Int)} (h : Wb K H s x sd fs ws) (hs : StOk H s) (f : Fr s H H') : Wb K H' s x sd fs ws := by
  obtain ⟨⟨ds, h1, h2, h3⟩, ⟨fp, wp, e, nf, nw, wd⟩, n⟩ := h
  exact ⟨⟨ds, h1.nk (Nk.fr f hs), h2, h3⟩, ⟨fp, wp, f.1 _ _ e n, nf, nw, wd.fr nf nw hs f⟩, n⟩
theorem prs_len8 (ns : List Str) : (prs ns).length ≤ ns.length * ns.length := by
  have h1 : ∀ l : List Str, (l.flatMap (prsIn ns)).length ≤ l.length * ns.length := by
    intro l
    induction l with
    | nil => simp
    | cons b r ih =>
      rw [List.flatMap_cons, List.length_append, List.length_cons, Nat.succ_mul]
      have : (prsIn ns b).length ≤ ns.length := by
        unfold prsIn
        rw [List.length_map]
        exact List.length_filter_le _ _
      omega
  exact h1 ns
def sp_law_drawn (K : PySem.W.Frag) : Sp := fun vs H Q _ => ∃ (s : Addr), vs = [.ref s] ∧ StOk H s ∧
  ∀ p fp wp ys xs (fs : List (Str × Int)) (ws : List (Str × Str × Int)) H', H p = none → H' p = some (.lst [.ref fp, .ref wp]) → fp ≠ s → wp ≠ s → H' fp = some (.lst ys) → Rows H' ys (fs.map frow) → H' wp = some (.lst xs) → Rows H' xs (ws.map trow) → 1 ≤ fs.length → fs.length ≤ 10 → ws.length ≤ 24 → (∀ f ∈ fs, nameB f.1 = true ∧ 0 ≤ f.2 ∧ f.2 ≤ 9999) → (∀ t ∈ ws, nameB t.1 = true ∧ nameB t.2.1 = true ∧ 0 ≤ t.2.2 ∧ t.2.2 ≤ 9999) → StOk H' s → Fr s H H' → Q (.ref p) H'
theorem ok_law_drawn {f : Addr} {fd : FuncData}
    {f_law_names : Addr} {fd_law_names : FuncData} (D_law_names : Dn K mg "_law_names" s_law_names p_law_names f_law_names fd_law_names) (G_law_names : FnOk P w K mg base CX0 5 f_law_names fd_law_names p_law_names (sp_law_names K))
    {f_law_some : Addr} {fd_law_some : FuncData} (D_law_some : Dn K mg "_law_some" s_law_some p_law_some f_law_some fd_law_some) (G_law_some : FnOk P w K mg base CX0 3 f_law_some fd_law_some p_law_some (sp_law_some K))
    {f_law_mixed : Addr} {fd_law_mixed : FuncData} (D_law_mixed : Dn K mg "_law_mixed" s_law_mixed p_law_mixed f_law_mixed fd_law_mixed) (G_law_mixed : FnOk P w K mg base CX0 3 f_law_mixed fd_law_mixed p_law_mixed (sp_law_mixed K))
    {f_law_pairs : Addr} {fd_law_pairs : FuncData} (D_law_pairs : Dn K mg "_law_pairs" s_law_pairs p_law_pairs f_law_pairs fd_law_pairs) (G_law_pairs : FnOk P w K mg base CX0 1 f_law_pairs fd_law_pairs p_law_pairs (sp_law_pairs K))
    {f_law_take : Addr} {fd_law_take : FuncData} (D_law_take : Dn K mg "_law_take" s_law_take p_law_take f_law_take fd_law_take) (G_law_take : FnOk P w K mg base CX0 2 f_law_take fd_law_take p_law_take (sp_law_take K))
    (T : Txt K mg) (D : Dn K mg "_law_drawn" s_law_drawn p_law_drawn f fd) : FnOk P w K mg base CX0 6 f fd p_law_drawn (sp_law_drawn K) := by
  refine D.F.ok sc_law_drawn (fun vs H Q E h => ?_) (fun cdv A outer s' H vs Q E hr h => ?_)
  · obtain ⟨_, rfl, _⟩ := h
    rfl
  · obtain ⟨s, rfl, hst, k⟩ := h
    refine ⟨_, (pss_cons (ps_set (i := 1) sc_law_drawn.nd rfl (Or.inl rfl) (pe_call G_law_names (hr.mono (by omega)) (by rfl) D_law_names.m D_law_names.F.kp D_law_names.b .nil pass0 (pa_cons (pv 0) (pa_cons (pe_call G_law_some (hr.mono (by omega)) (by rfl) D_law_some.m D_law_some.F.kp D_law_some.b .nil pass0 (pa_cons (pv 0) (pa_cons pe_int (pa_cons (pe_op op_add pe_int (pe_call G_law_take (hr.mono (by omega)) (by rfl) D_law_take.m D_law_take.F.kp D_law_take.b .nil pass0 (pa_cons (pv 0) (pa_cons pe_int pa_nil)))) pa_nil)))) pa_nil))))
  (pss_cons (ps_set (i := 2) sc_law_drawn.nd rfl (Or.inl rfl) (pe_slice (sl_listK (K := K) rfl) (pe_call G_law_mixed (hr.mono (by omega)) (by rfl) D_law_mixed.m D_law_mixed.F.kp D_law_mixed.b .nil pass0 (pa_cons (pv 0) (pa_cons (pe_call G_law_pairs (hr.mono (by omega)) (by rfl) D_law_pairs.m D_law_pairs.F.kp D_law_pairs.b .nil pass0 (pa_cons (pv 1) pa_nil)) pa_nil))) po_none (po_some (pe_call G_law_some (hr.mono (by omega)) (by rfl) D_law_some.m D_law_some.F.kp D_law_some.b .nil pass0 (pa_cons (pv 0) (pa_cons pe_int (pa_cons pe_int pa_nil)))))))
  (pss_cons (ps_setLc (i := 3) (own := [("pair", 4)]) rfl sc_law_drawn.nd rfl rfl (sw_true rfl rfl rfl (by decide +kernel)) (pi_list (pv 2)) (blkOk_by (own := [("pair", 4)]) (N := n_law_drawn) (sc := defScope s_law_drawn) (by decide +kernel)) (fun _ _ _ _ _ => (pg_name (i := 4) sc_law_drawn.nd rfl (Or.inl rfl))) (fun _ _ _ _ _ => pts_nil) (fun _ _ _ _ _ => (pe_tup (pa_cons (pe_ix (ix_tupK (K := K) rfl) (pv 4) pe_int (fun _ _ => rfl)) (pa_cons (pe_ix (ix_tupK (K := K) rfl) (pv 4) pe_int (fun _ _ => rfl)) (pa_cons (pe_call G_law_some (hr.mono (by omega)) (by rfl) D_law_some.m D_law_some.F.kp D_law_some.b .nil pass0 (pa_cons (pv 0) (pa_cons pe_int (pa_cons pe_int pa_nil)))) pa_nil))))))
  (pss_one (ps_ret (pe_lst (pa_cons (pe_lc (own := [("name", 5)]) rfl sc_law_drawn.nd (pi_list (pv 1)) (blkOk_by (own := [("name", 5)]) (N := n_law_drawn) (sc := defScope s_law_drawn) (by decide +kernel)) (fun _ _ _ _ _ => (pg_name (i := 5) sc_law_drawn.nd rfl (Or.inl rfl))) (fun _ _ _ _ _ => pts_nil) (fun _ _ _ _ _ => (pe_tup (pa_cons (pv 5) (pa_cons (pe_call G_law_some (hr.mono (by omega)) (by rfl) D_law_some.m D_law_some.F.kp D_law_some.b .nil pass0 (pa_cons (pv 0) (pa_cons pe_int (pa_cons pe_int pa_nil)))) pa_nil))))) (pa_cons (pv 3) pa_nil)))))))), ?_⟩
    walk_at "my sts"
    refine ⟨s, _, rfl, hst, by decide, fun n H1 n0 n1 hst1 f1 => ?_⟩
    walk_at "my sts"
    refine ⟨s, 1, _, rfl, hst1, by omega, fun m H2 m0 m1 hst2 f2 => ?_⟩
    walk_at "my sts"
    refine ⟨s, m, rfl, hst2, by omega, by omega, fun p ns H3 hp h3 ln nd nm hst3 f3 => ?_⟩
    have np := hst2.ne hp
    walk_at "my sts"
    refine ⟨p, ns, rfl, h3, by omega, fun PL pv H4 hPL h4 rv s4 => ?_⟩
    have npl := hst3.ne hPL
    have hst4 := hst3.same s4
    have lpv := rv.len
    rw [List.length_map] at lpv
    walk_at "my sts"
    refine ⟨s, PL, pv, rfl, hst4, .inl h4, npl, ?_, fun l ys H5 hl h5 pm hst5 f5 => ?_⟩
    · have := prs_len8 ns
      have : ns.length * ns.length ≤ 10 * 10 := Nat.mul_le_mul (by omega) (by omega)
      omega
    have nl := hst4.ne hl
    obtain ⟨e0, pe0, rv5⟩ := (rv.keep (f5.tk hst4)).perm pm
    obtain ⟨ps, pps, rfl⟩ := perm_map_inv prow pe0
    walk_at "my sts"
    refine ⟨s, 0, 24, rfl, hst5, by decide, fun c H6 c0 c1 hst6 f6 => ?_⟩
    obtain ⟨c, rfl⟩ : ∃ d : Nat, c = (d : Int) := ⟨c.toNat, by omega⟩
    have h6 := f6.1 _ _ h5 nl
    refine ⟨_, rfl, ?_⟩
    refine sl_end (sqL h6) fun S H7 hS s7 h7 => ?_
    rw [cutV_to] at h7
    have rv7 := ((rv5.keep (f6.tk hst5)).keep (Tk.same s7)).take c
    rw [← List.map_take] at rv7
    have hst7 := hst6.same s7
    have nS := hst6.ne hS
    have lS := rv7.len
    rw [List.length_map, List.length_take] at lS
    walk_at "my sts"
    refine cl (xs := ys.take c) (sqL h7) (fun D i H' => StOk H' s ∧ Fr s H7 H' ∧ ∃ acc ws, H' D = some (.lst acc) ∧ acc.length = i ∧ Rows H' acc ((ws : List (Str × Str × Int)).map trow) ∧ ∀ t ∈ ws, nameB t.1 = true ∧ nameB t.2.1 = true ∧ 0 ≤ t.2.2 ∧ t.2.2 ≤ 9999) (fun D hD => ⟨hst7.new hD, Fr.new Fr.refl hD, [], [], upd_same, rfl, Rows.nil, nofun⟩) (fun D i H' _ _ g => sqL (g.2.1.1 _ _ h7 nS)) ?_ ?_
    · rintro D i v H' hD hv ⟨hst', f', acc, ws, hacc, lacc, racc, gw⟩
      have nD := hst7.ne hD
      obtain ⟨t, d, rfl, hd, ht⟩ := (rv7.keep (f'.tk hst7)).get hv
      rw [List.getElem?_map] at hd
      obtain ⟨q, hq, rfl⟩ := Option.map_eq_some_iff.mp hd
      have hi := (List.getElem?_eq_some_iff.mp hv).1
      rw [List.length_take] at hi
      have hqm := mem_prs.mp (show (q.1, q.2) ∈ prs ns from pps.mem_iff.mp (List.mem_of_mem_take (List.mem_of_getElem? hq)))
      refine ⟨rfl, ?_⟩
      walk_at "my sts"
      refine ⟨s, 1, 9999, rfl, hst', by decide, fun w H8 w0 w1 hst8 f8 => ?_⟩
      have hacc8 := f8.1 _ _ hacc nD
      have racc8 := racc.keep (f8.tk hst')
      walk_at "my sts"
      refine tup_end (show 3 ≤ 100000 by decide) fun T H9 hT s9 h9 => ?_
      have h89 := s9 _ _ hacc8
      obtain ⟨a1, a2, a3, _⟩ := mut_all (ys := acc ++ [.ref T]) hst7 ((f'.trans f8).trans (Fr.same s9)) (hst8.same s9) hD
      have tk : Tk H9 (upd H9 D (.lst (acc ++ [.ref T]))) := fun x d e => Tk.lst h89 _ _ e
      refine ⟨acc, h89, Nat.lt_of_le_of_lt (show acc.length ≤ 1000 by omega) (by decide), a1, a2, _, ws ++ [(q.1, q.2, w)], a3, by rw [List.length_append, lacc]; rfl, ?_, fun u hu => ?_⟩
      · rw [List.map_append]
        exact ((racc8.keep (Tk.same s9)).keep tk).app (Rows.one (tk _ _ h9))
      · rcases List.mem_append.mp hu with hu | hu
        · exact gw u hu
        · rw [List.mem_singleton.mp hu]
          exact ⟨nm _ hqm.1, nm _ hqm.2.1, by show 0 ≤ w; omega, by show w ≤ 9999; omega⟩
    rintro W H8 hW ⟨hst8, f8, accW, ws, hW8, lW, rW, gw⟩
    have nW := hst7.ne hW
    have lws := rW.len
    rw [List.length_map] at lws
    have f38 := (Fr.same s4).trans (f5.trans (f6.trans ((Fr.same s7).trans f8)))
    have h38 := f38.1 _ _ h3 np
    walk_at "my sts"
    refine cl (xs := ns.map V.str) (sqL h38) (fun D i H' => StOk H' s ∧ Fr s H8 H' ∧ ∃ acc fs, H' D = some (.lst acc) ∧ acc.length = i ∧ Rows H' acc ((fs : List (Str × Int)).map frow) ∧ ∀ f ∈ fs, nameB f.1 = true ∧ 0 ≤ f.2 ∧ f.2 ≤ 9999) (fun D hD => ⟨hst8.new hD, Fr.new Fr.refl hD, [], [], upd_same, rfl, Rows.nil, nofun⟩) (fun D i H' _ _ g => sqL (g.2.1.1 _ _ h38 np)) ?_ ?_
    · rintro D i v H' hD hv ⟨hst', f', acc, fs, hacc, lacc, racc, gf⟩
      have nD := hst8.ne hD
      rw [List.getElem?_map] at hv
      obtain ⟨b, hb, rfl⟩ := Option.map_eq_some_iff.mp hv
      have hi := (List.getElem?_eq_some_iff.mp hb).1
      refine ⟨rfl, ?_⟩
      walk_at "my sts"
      refine ⟨s, 0, 9999, rfl, hst', by decide, fun w H9 w0 w1 hst9 f9 => ?_⟩
      have hacc9 := f9.1 _ _ hacc nD
      have racc9 := racc.keep (f9.tk hst')
      walk_at "my sts"
      refine tup_end (show 2 ≤ 100000 by decide) fun T H10 hT s10 h10 => ?_
      have h89 := s10 _ _ hacc9
      obtain ⟨a1, a2, a3, _⟩ := mut_all (ys := acc ++ [.ref T]) hst8 ((f'.trans f9).trans (Fr.same s10)) (hst9.same s10) hD
      have tk : Tk H10 (upd H10 D (.lst (acc ++ [.ref T]))) := fun x d e => Tk.lst h89 _ _ e
      refine ⟨acc, h89, Nat.lt_of_le_of_lt (show acc.length ≤ 1000 by omega) (by decide), a1, a2, _, fs ++ [(b, w)], a3, by rw [List.length_append, lacc]; rfl, ?_, fun u hu => ?_⟩
      · rw [List.map_append]
        exact ((racc9.keep (Tk.same s10)).keep tk).app (Rows.one (tk _ _ h10))
      · rcases List.mem_append.mp hu with hu | hu
        · exact gf u hu
        · rw [List.mem_singleton.mp hu]
          exact ⟨nm _ (List.mem_of_getElem? hb), by show 0 ≤ w; omega, by show w ≤ 9999; omega⟩
    rintro F H9 hF ⟨hst9, f9, accF, fs, hF9, lF, rF, gf⟩
    have nF := hst8.ne hF
    have lfs := rF.len
    rw [List.length_map] at lfs lF
    have hW9 := f9.1 _ _ hW8 nW
    have rW9 := rW.keep (f9.tk hst8)
    walk_at "my sts"
    refine lst_end (show 2 ≤ 100000 by decide) fun R H10 hR s10 h10 => ?_
    have f0 := f1.trans (f2.trans (f3.trans (f38.trans f9)))
    exact k R F W accF accW fs ws H10 (f0.free hR (hst9.ne hR)) h10 nF nW (s10 _ _ hF9) (rF.keep (Tk.same s10)) (s10 _ _ hW9) (rW9.keep (Tk.same s10)) (by omega) (by omega) (by rw [List.length_take] at lW; omega) gf gw (hst9.same s10) (f0.trans (Fr.same s10))
def sp_law_names_of (K : PySem.W.Frag) : Sp := fun vs H Q _ => ∃ (p : Addr) (xs : List V) (fs : List (Str × Int)), vs = [.ref p] ∧ H p = some (.lst xs) ∧ Rows H xs (fs.map frow) ∧ fs.length ≤ 1000 ∧ ∀ l H', H l = none → H' l = some (.lst ((fs.map (·.1)).map V.str)) → Same H H' → Q (.ref l) H'
theorem ok_law_names_of {f : Addr} {fd : FuncData}
    (T : Txt K mg) (D : Dn K mg "_law_names_of" s_law_names_of p_law_names_of f fd) : FnOk P w K mg base CX0 1 f fd p_law_names_of (sp_law_names_of K) := by
  refine D.F.ok sc_law_names_of (fun vs H Q E h => ?_) (fun cdv A outer s' H vs Q E hr h => ?_)
  · obtain ⟨p, xs, fs, rfl, _⟩ := h
    rfl
  · obtain ⟨p, xs, fs, rfl, hp, hr1, hl, k⟩ := h
    refine ⟨_, (pss_one (ps_ret (pe_lc (own := [("pair", 1)]) rfl sc_law_names_of.nd (pi_list (pv 0)) (blkOk_by (own := [("pair", 1)]) (N := n_law_names_of) (sc := defScope s_law_names_of) (by decide +kernel)) (fun _ _ _ _ _ => (pg_name (i := 1) sc_law_names_of.nd rfl (Or.inl rfl))) (fun _ _ _ _ _ => pts_nil) (fun _ _ _ _ _ => (pe_ix (ix_tupK (K := K) rfl) (pv 1) pe_int (fun _ _ => rfl)))))), ?_⟩
    walk_at "my sts"
    refine cl (xs := xs) (sqL hp) (fun D i H' => Same H H' ∧ H' D = some (.lst (((fs.take i).map (·.1)).map V.str))) (fun D hD => ⟨same_new hD, upd_same⟩) (fun D i H' hD _ g => sqL (g.1 _ _ hp)) ?_ ?_
    · rintro D i x H' hD hx ⟨g1, g2⟩
      obtain ⟨t, d, rfl, hd, ht⟩ := hr1.get hx
      rw [List.getElem?_map] at hd
      obtain ⟨f, hf, rfl⟩ := Option.map_eq_some_iff.mp hd
      have ht := g1 _ _ ht
      refine ⟨rfl, ?_⟩
      walk_at "my sts"
      refine ⟨_, g2, ?_, same_mut g1 hD, ?_⟩
      · rw [List.length_map, List.length_map, List.length_take]
        exact Nat.lt_of_le_of_lt (show min i fs.length ≤ 1000 by omega) (by decide)
      · rw [upd_same, take_map _ hf, List.map_append]
        rfl
    · rintro D H' hD ⟨g1, g2⟩
      walk_at "my sts"
      rw [hr1.len, List.length_map, List.take_length] at g2
      exact k D H' hD g2 g1
def sp_Web_folk (K : PySem.W.Frag) : Sp := fun vs H Q _ => ∃ (x : Addr) (fs : List (Str × Int)) (ws : List (Str × Str × Int)), vs = [.ref x] ∧ WebAt K H x fs ws ∧ ∀ p rf H', Same H H' → H' p = some (.tup rf) → Rows H' rf (fs.map frow) → Q (.ref p) H'
theorem ok_Web_folk {f : Addr} {fd : FuncData}
    (X_Web : Ci K mg "Web" ["_folk", "_names", "_watches", "_pulls"])
    (T : Txt K mg) (D : Dm K "folk" "Web.folk" s_Web_folk p_Web_folk f fd) : FnOk P w K mg base CX0 1 f fd p_Web_folk (sp_Web_folk K) := by
  refine D.F.ok sc_Web_folk (fun vs H Q E h => ?_) (fun cdv A outer s' H vs Q E hr h => ?_)
  · obtain ⟨_, _, _, rfl, _⟩ := h
    rfl
  · obtain ⟨x, fs, ws, rfl, hw, k⟩ := h
    obtain ⟨dx, pf, pn, pw, pp, rf, rw, rp, h1, h2, h3, h4, h5, h6, h7, h8⟩ := hw
    refine ⟨_, (pss_one (ps_ret (pe_fldK (K := K) rfl (pv 0) rfl))), ?_⟩
    walk_at "my sts"
    refine fld_end h1 X_Web.cl (X_Web.no "_folk" (by decide)) lk_folk ?_
    exact k _ _ _ (Same.refl _) h2 h3
def sp_Web_watches (K : PySem.W.Frag) : Sp := fun vs H Q _ => ∃ (x : Addr) (fs : List (Str × Int)) (ws : List (Str × Str × Int)), vs = [.ref x] ∧ WebAt K H x fs ws ∧ ∀ p rf H', Same H H' → H' p = some (.tup rf) → Rows H' rf (ws.map trow) → Q (.ref p) H'
theorem ok_Web_watches {f : Addr} {fd : FuncData}
    (X_Web : Ci K mg "Web" ["_folk", "_names", "_watches", "_pulls"])
    (T : Txt K mg) (D : Dm K "watches" "Web.watches" s_Web_watches p_Web_watches f fd) : FnOk P w K mg base CX0 1 f fd p_Web_watches (sp_Web_watches K) := by
  refine D.F.ok sc_Web_watches (fun vs H Q E h => ?_) (fun cdv A outer s' H vs Q E hr h => ?_)
  · obtain ⟨_, _, _, rfl, _⟩ := h
    rfl
  · obtain ⟨x, fs, ws, rfl, hw, k⟩ := h
    obtain ⟨dx, pf, pn, pw, pp, rf, rw, rp, h1, h2, h3, h4, h5, h6, h7, h8⟩ := hw
    refine ⟨_, (pss_one (ps_ret (pe_fldK (K := K) rfl (pv 0) rfl))), ?_⟩
    walk_at "my sts"
    refine fld_end h1 X_Web.cl (X_Web.no "_watches" (by decide)) lk_watches ?_
    exact k _ _ _ (Same.refl _) h5 h6
def N09 : List Nat := [48, 49, 50, 51, 52, 53, 54, 55, 56, 57]
/-- 0, or one to four digits of which the first is not 0 -/
def numB (z : Str) : Bool := decide (1 ≤ z.length) && (decide (z.length ≤ 4) && ((z.cps.toList.all fun c => decide (c ∈ N09)) && (decide (z = "0") || !decide (z.cps.toList[0]? = some 48))))
def numS (n : Nat) : Str := Str.ofString (toString (n : Int))
theorem numS_tl (n : Nat) : (numS n).cps.toList = (Nat.toDigits 10 n).map Char.toNat := PySem.W.KIN.signs_num n
theorem n09_iff {c : Nat} : c ∈ N09 ↔ 48 ≤ c ∧ c ≤ 57 := by
  unfold N09
  simp only [List.mem_cons, List.not_mem_nil, or_false]
  omega
theorem numS_all (n : Nat) : PySem.NumText.AllDigits (numS n).cps.toList := fun c hc => by
  rw [numS_tl] at hc
  obtain ⟨d, hd, rfl⟩ := List.mem_map.mp hc
  have := Nat.isDigit_of_mem_toDigits (by decide) (by decide) hd
  unfold Char.isDigit at this
  rw [Bool.and_eq_true, decide_eq_true_eq, decide_eq_true_eq] at this
  exact ⟨this.1, this.2⟩
theorem numS_len {n : Nat} (h : n ≤ 9999) : 1 ≤ (numS n).length ∧ (numS n).length ≤ 4 := by
  have e : (numS n).length = (Nat.toDigits 10 n).length := by
    have := congrArg List.length (numS_tl n)
    rw [List.length_map] at this
    rw [← this, Array.length_toList]
    rfl
  rw [e]
  exact ⟨PySem.toDigits_len_ge 10 n, PySem.toDigits_len_pow (by decide) (by decide) (by omega)⟩
section
variable {σ : L2.St} {H : Hp} {Q : VK} {t te : TE} {ts : List TE} {acc : Str} {R : Str → Hp → Prop}
/-- a text put together -/
def JsEnd (acc : Str) (ts : List TE) (σ : L2.St) (R : Str → Hp → Prop) : V → Hp → Prop := fun x H1 => ∃ y, x = V.str y ∧ (acc ++ y).length ≤ sizeLine ∧ tJs ts (acc ++ y) σ H1 R
theorem i_js (q : t σ H fun x H1 => JsEnd acc ts σ R x H1) : tJs (t :: ts) acc σ H R := q
instance : Nx (tJs (t :: ts) acc σ H R) (t σ H fun x H1 => JsEnd acc ts σ R x H1) := ⟨i_js⟩
theorem i_js0 (q : R acc H) : tJs [] acc σ H R := q
instance : Nx (tJs [] acc σ H R) (R acc H) := ⟨i_js0⟩
theorem js_end {y : Str} (l : (acc ++ y).length ≤ sizeLine) (q : tJs ts (acc ++ y) σ H R) : JsEnd acc ts σ R (.str y) H := ⟨y, rfl, l, q⟩
def FmtEnd (Q : VK) : V → Hp → Prop := fun x H1 => (∃ y, x = V.str y ∧ y.length ≤ sizeLine ∧ Q (V.str y) H1) ∨ ∃ i, x = V.int i ∧ i.natAbs.log2 < 1920 ∧ Q (V.str (Str.ofString (toString i))) H1
theorem i_fmt (q : te σ H fun x H1 => FmtEnd Q x H1) : tFmt te σ H Q := q
instance : Nx (tFmt te σ H Q) (te σ H fun x H1 => FmtEnd Q x H1) := ⟨i_fmt⟩
theorem fmt_str {y : Str} (l : y.length ≤ sizeLine) (q : Q (.str y) H) : FmtEnd Q (.str y) H := .inl ⟨y, rfl, l, q⟩
theorem fmt_int {i : Int} (l : i.natAbs ≤ 100000) (q : Q (.str (Str.ofString (toString i))) H) : FmtEnd Q (.int i) H := .inr ⟨i, rfl, by
  by_cases e : i.natAbs = 0
  · rw [e]; decide
  · have := (Nat.log2_lt (k := 17) e).mpr (Nat.lt_of_le_of_lt l (by decide))
    omega, q⟩
end
theorem str_emptyL (a : Str) : Str.empty ++ a = a := by
  show (⟨#[] ++ a.cps⟩ : Str) = a
  rw [Array.empty_append]
def numZ (i : Int) : Str := Str.ofString (toString i)
def lnF (f : Str × Int) : Str := "folk " ++ f.1 ++ " " ++ numZ f.2
def lnW (t : Str × Str × Int) : Str := "watch " ++ t.1 ++ " " ++ t.2.1 ++ " " ++ numZ t.2.2
def linesW (fs : List (Str × Int)) (ds : List (Str × Str × Int)) : List Str := fs.map lnF ++ ds.map lnW
def textW (fs : List (Str × Int)) (ds : List (Str × Str × Int)) : Str := Txt.join "\n" (linesW fs ds)
theorem numZ_nat {i : Int} (h : 0 ≤ i) : numZ i = numS i.toNat := by
  unfold numZ numS
  rw [show ((i.toNat : Nat) : Int) = i by omega]
theorem numZ_len {i : Int} (h0 : 0 ≤ i) (h : i ≤ 9999) : (numZ i).length ≤ 4 := by
  rw [numZ_nat h0]
  exact (numS_len (by omega)).2
theorem lnF_len {f : Str × Int} (h : nameB f.1 = true ∧ 0 ≤ f.2 ∧ f.2 ≤ 9999) : (lnF f).length ≤ 40 := by
  have a := (nameB_len h.1).2
  have b := numZ_len h.2.1 h.2.2
  have c : ("folk " : Str).length = 5 := by decide +kernel
  have d : (" " : Str).length = 1 := by decide +kernel
  unfold lnF
  rw [strLen_append, strLen_append, strLen_append]
  omega
theorem lnW_len {t : Str × Str × Int} (h : nameB t.1 = true ∧ nameB t.2.1 = true ∧ 0 ≤ t.2.2 ∧ t.2.2 ≤ 9999) : (lnW t).length ≤ 40 := by
  have a := (nameB_len h.1).2
  have a2 := (nameB_len h.2.1).2
  have b := numZ_len h.2.2.1 h.2.2.2
  have c : ("watch " : Str).length = 6 := by decide +kernel
  have d : (" " : Str).length = 1 := by decide +kernel
  unfold lnW
  rw [strLen_append, strLen_append, strLen_append, strLen_append, strLen_append]
  omega
theorem sum_len {l : List Str} (h : ∀ z ∈ l, z.length ≤ 40) : (l.map fun x => x.length).sum ≤ l.length * 40 := by
  induction l with
  | nil => exact Nat.le_refl 0
  | cons a r ih =>
    rw [List.map_cons, List.sum_cons, List.length_cons]
    have := h a List.mem_cons_self
    have := ih fun z hz => h z (List.mem_cons_of_mem _ hz)
    omega
theorem linesW_len {fs : List (Str × Int)} {ds : List (Str × Str × Int)} (nf : ∀ f ∈ fs, nameB f.1 = true ∧ 0 ≤ f.2 ∧ f.2 ≤ 9999) (nt : ∀ t ∈ ds, nameB t.1 = true ∧ nameB t.2.1 = true ∧ 0 ≤ t.2.2 ∧ t.2.2 ≤ 9999) : ∀ z ∈ linesW fs ds, z.length ≤ 40 := fun z hz => by
  rcases List.mem_append.mp hz with h | h
  · obtain ⟨f, hf, rfl⟩ := List.mem_map.mp h
    exact lnF_len (nf f hf)
  · obtain ⟨t, ht, rfl⟩ := List.mem_map.mp h
    exact lnW_len (nt t ht)
def sp_web_text (K : PySem.W.Frag) : Sp := fun vs H Q _ => ∃ (x : Addr) (fs : List (Str × Int)) (ds : List (Str × Str × Int)), vs = [.ref x] ∧ WebAt K H x fs ds ∧ fs.length ≤ 10 ∧ ds.length ≤ 100 ∧ (∀ f ∈ fs, nameB f.1 = true ∧ 0 ≤ f.2 ∧ f.2 ≤ 9999) ∧ (∀ t ∈ ds, nameB t.1 = true ∧ nameB t.2.1 = true ∧ 0 ≤ t.2.2 ∧ t.2.2 ≤ 9999) ∧ ∀ H', Same H H' → Q (.str (textW fs ds)) H'
theorem ok_web_text {f : Addr} {fd : FuncData}
    {f_Web_folk : Addr} {fd_Web_folk : FuncData} (D_Web_folk : Dm K "folk" "Web.folk" s_Web_folk p_Web_folk f_Web_folk fd_Web_folk) (G_Web_folk : FnOk P w K mg base CX0 1 f_Web_folk fd_Web_folk p_Web_folk (sp_Web_folk K))
    {pp_Web_folk : Addr} (P_Web_folk : PropOf K (gad K "Web") "folk" pp_Web_folk f_Web_folk)
    {f_Web_watches : Addr} {fd_Web_watches : FuncData} (D_Web_watches : Dm K "watches" "Web.watches" s_Web_watches p_Web_watches f_Web_watches fd_Web_watches) (G_Web_watches : FnOk P w K mg base CX0 1 f_Web_watches fd_Web_watches p_Web_watches (sp_Web_watches K))
    {pp_Web_watches : Addr} (P_Web_watches : PropOf K (gad K "Web") "watches" pp_Web_watches f_Web_watches)
    (X_Web : Ci K mg "Web" ["_folk", "_names", "_watches", "_pulls"])
    (T : Txt K mg) (D : Dn K mg "web_text" s_web_text p_web_text f fd) : FnOk P w K mg base CX0 3 f fd p_web_text (sp_web_text K) := by
  refine D.F.ok sc_web_text (fun vs H Q E h => ?_) (fun cdv A outer s' H vs Q E hr h => ?_)
  · obtain ⟨_, _, _, rfl, _⟩ := h
    rfl
  · obtain ⟨x, fs, ds, rfl, hw, lf, ld, nf, nt, k⟩ := h
    obtain ⟨dx, pf, pn, pw, pp, rf, rw, rp, h1, h2, h3, h4, h5, h6, _⟩ := id hw
    refine ⟨_, (pss_cons (ps_setLc (i := 1) (own := [("name", 2), ("need", 3)]) rfl sc_web_text.nd rfl rfl (sw_true rfl rfl rfl (by decide +kernel)) (pi_tup (pe_prop (pv 0) X_Web.cl P_Web_folk G_Web_folk (hr.mono (by omega)) D_Web_folk.b .nil pass0 rfl)) (blkOk_by (own := [("name", 2), ("need", 3)]) (N := n_web_text) (sc := defScope s_web_text) (by decide +kernel)) (fun _ _ _ _ _ => (by refine pg_tupK (K := K) (n := 2) (t := (gCons (gName 2) (gCons (gName 3) gNil))) rfl rfl ?_; refine pgs_cons (pg_name (i := 2) sc_web_text.nd rfl (Or.inl rfl)) ?_; refine pgs_cons (pg_name (i := 3) sc_web_text.nd rfl (Or.inl rfl)) ?_; exact pgs_nil)) (fun _ _ _ _ _ => pts_nil) (fun _ _ _ _ _ => (pe_joined (.cons pe_str (.cons (pe_fmt (pv 2)) (.cons pe_str (.cons (pe_fmt (pv 3)) .nil)))))))
  (pss_cons (ps_expr (pe_bm PySem.F.plainAttrs_list PySem.F.slot_list_extend PySem.F.type_list_extend mt_extend (pv 1) (pa_cons (pe_lc (own := [("watcher", 4), ("watched", 5), ("weight", 6)]) rfl sc_web_text.nd (pi_tup (pe_prop (pv 0) X_Web.cl P_Web_watches G_Web_watches (hr.mono (by omega)) D_Web_watches.b .nil pass0 rfl)) (blkOk_by (own := [("watcher", 4), ("watched", 5), ("weight", 6)]) (N := n_web_text) (sc := defScope s_web_text) (by decide +kernel)) (fun _ _ _ _ _ => (by refine pg_tupK (K := K) (n := 3) (t := (gCons (gName 4) (gCons (gName 5) (gCons (gName 6) gNil)))) rfl rfl ?_; refine pgs_cons (pg_name (i := 4) sc_web_text.nd rfl (Or.inl rfl)) ?_; refine pgs_cons (pg_name (i := 5) sc_web_text.nd rfl (Or.inl rfl)) ?_; refine pgs_cons (pg_name (i := 6) sc_web_text.nd rfl (Or.inl rfl)) ?_; exact pgs_nil)) (fun _ _ _ _ _ => pts_nil) (fun _ _ _ _ _ => (pe_joined (.cons pe_str (.cons (pe_fmt (pv 4)) (.cons pe_str (.cons (pe_fmt (pv 5)) (.cons pe_str (.cons (pe_fmt (pv 6)) .nil))))))))) pa_nil)))
  (pss_one (ps_ret (pe_bm PySem.F.plainAttrs_str PySem.F.slot_str_join PySem.F.type_str_join mt_join pe_str (pa_cons (pv 1) pa_nil)))))), ?_⟩
    walk_at "my sts"
    refine prop_end h1 ?_
    refine ⟨x, fs, ds, rfl, hw, fun pF rfF H1 s1 hF rF => ?_⟩
    have lF := rF.len
    rw [List.length_map] at lF
    refine ct_g (xs := rfF) (sqT hF) (fun D i H' => Same H1 H' ∧ H' D = some (.lst (((fs.take i).map lnF).map V.str))) (fun D hD => ⟨same_new hD, upd_same⟩) (fun D i H' _ _ g => sqT (g.1 _ _ hF)) ?_ ?_
    · rintro D i v H2 hD hv ⟨s2, h2⟩
      obtain ⟨t, d, rfl, hd, ht⟩ := (rF.keep (Tk.same s2)).get hv
      rw [List.getElem?_map] at hd
      obtain ⟨f, hf, rfl⟩ := Option.map_eq_some_iff.mp hd
      refine ⟨t, _, rfl, sqT ht, rfl, _, _, rfl, _, _, rfl, rfl, rfl, ?_⟩
      have ok := nf f (List.mem_of_getElem? hf)
      have a := (nameB_len ok.1).2
      have b := numZ_len ok.2.1 ok.2.2
      have c : ("folk " : Str).length = 5 := by decide +kernel
      have d : (" " : Str).length = 1 := by decide +kernel
      have sz : (1000 : Nat) ≤ sizeLine := by decide
      walk_at "my sts"
      refine js_end (by rw [str_emptyL]; omega) ?_
      rw [str_emptyL]
      walk_at "my sts"
      refine fmt_str (by omega) ?_
      refine js_end (by rw [strLen_append]; omega) ?_
      walk_at "my sts"
      refine js_end (by rw [strLen_append, strLen_append]; omega) ?_
      walk_at "my sts"
      refine fmt_int (by omega) ?_
      refine js_end (by rw [strLen_append, strLen_append, strLen_append]; exact Nat.le_trans (show _ ≤ 1000 by have : (Str.ofString (toString f.2)).length ≤ 4 := b; omega) sz) ?_
      walk_at "my sts"
      refine ⟨_, h2, Nat.lt_of_le_of_lt (show _ ≤ 1000 by rw [List.length_map, List.length_map, List.length_take]; omega) (by decide), same_mut s2 hD, ?_⟩
      rw [upd_same, take_map _ hf, List.map_append]
      rfl
    rintro L H2 hL ⟨s2, h2⟩
    rw [lF, List.take_length] at h2
    have s12 := s1.trans s2
    walk_at "my sts"
    refine prop_end (s12 _ _ h1) ?_
    refine ⟨x, fs, ds, rfl, hw.same s12, fun pT rfT H3 s3 hT rT => ?_⟩
    have lT := rT.len
    rw [List.length_map] at lT
    have h23 := s3 _ _ h2
    refine ct_g (xs := rfT) (sqT hT) (fun D i H' => Same H3 H' ∧ H' D = some (.lst (((ds.take i).map lnW).map V.str))) (fun D hD => ⟨same_new hD, upd_same⟩) (fun D i H' _ _ g => sqT (g.1 _ _ hT)) ?_ ?_
    · rintro D i v H4 hD hv ⟨s4, h4⟩
      obtain ⟨t, d, rfl, hd, ht⟩ := (rT.keep (Tk.same s4)).get hv
      rw [List.getElem?_map] at hd
      obtain ⟨w, hwt, rfl⟩ := Option.map_eq_some_iff.mp hd
      refine ⟨t, _, rfl, sqT ht, rfl, _, _, rfl, _, _, rfl, _, _, rfl, rfl, rfl, ?_⟩
      have ok := nt w (List.mem_of_getElem? hwt)
      have a := (nameB_len ok.1).2
      have a2 := (nameB_len ok.2.1).2
      have b := numZ_len ok.2.2.1 ok.2.2.2
      have c : ("watch " : Str).length = 6 := by decide +kernel
      have d : (" " : Str).length = 1 := by decide +kernel
      have sz : (1000 : Nat) ≤ sizeLine := by decide
      walk_at "my sts"
      refine js_end (by rw [str_emptyL]; omega) ?_
      rw [str_emptyL]
      walk_at "my sts"
      refine fmt_str (by omega) ?_
      refine js_end (by rw [strLen_append]; omega) ?_
      walk_at "my sts"
      refine js_end (by rw [strLen_append, strLen_append]; omega) ?_
      walk_at "my sts"
      refine fmt_str (by omega) ?_
      refine js_end (by rw [strLen_append, strLen_append, strLen_append]; omega) ?_
      walk_at "my sts"
      refine js_end (by rw [strLen_append, strLen_append, strLen_append, strLen_append]; omega) ?_
      walk_at "my sts"
      refine fmt_int (by omega) ?_
      refine js_end (by rw [strLen_append, strLen_append, strLen_append, strLen_append, strLen_append]; exact Nat.le_trans (show _ ≤ 1000 by have : (Str.ofString (toString w.2.2)).length ≤ 4 := b; omega) sz) ?_
      walk_at "my sts"
      refine ⟨_, h4, Nat.lt_of_le_of_lt (show _ ≤ 1000 by rw [List.length_map, List.length_map, List.length_take]; omega) (by decide), same_mut s4 hD, ?_⟩
      rw [upd_same, take_map _ hwt, List.map_append]
      rfl
    rintro L2' H4 hL2 ⟨s4, h4⟩
    rw [lT, List.take_length] at h4
    have h24 := (s3.trans s4) _ _ h2
    walk_at "my sts"
    refine ⟨L, L2', _, _, rfl, rfl, h24, h4, Nat.le_trans (show _ ≤ 1000 by rw [List.length_map, List.length_map, List.length_map, List.length_map]; omega) (by decide), ?_⟩
    have s14 := s12.trans (s3.trans s4)
    have hL1 : H1 L = none := hL
    have e : (fs.map lnF).map V.str ++ (ds.map lnW).map V.str = (linesW fs ds).map V.str := List.map_append.symm
    rw [e]
    have sF : Same H (upd H4 L (.lst ((linesW fs ds).map V.str))) := same_mut s14 (s1.free hL1)
    have hF2 : (upd H4 L (.lst ((linesW fs ds).map V.str))) L = some (.lst ((linesW fs ds).map V.str)) := upd_same
    generalize upd H4 L (.lst ((linesW fs ds).map V.str)) = H5 at *
    walk_at "my sts"
    refine ⟨_, L, linesW fs ds, rfl, rfl, .inl (sqL hF2), ?_, ?_⟩
    · have a := sum_len (linesW_len nf nt)
      have b : (linesW fs ds).length ≤ 110 := by
        unfold linesW
        rw [List.length_append, List.length_map, List.length_map]
        omega
      have c : ("\n" : Str).length = 1 := by decide +kernel
      rw [c]
      omega
    · exact k H5 sF
def sp_law_web_lines (K : PySem.W.Frag) : Sp := fun vs H Q _ => ∃ (p q : Addr) (ys xs : List V) (fs : List (Str × Int)) (ws : List (Str × Str × Int)), vs = [.ref p, .ref q] ∧ Lt2 H p ys ∧ Rows H ys (fs.map frow) ∧ Lt2 H q xs ∧ Rows H xs (ws.map trow) ∧ fs.length ≤ 10 ∧ ws.length ≤ 100 ∧ (∀ f ∈ fs, nameB f.1 = true ∧ 0 ≤ f.2 ∧ f.2 ≤ 9999) ∧ (∀ t ∈ ws, nameB t.1 = true ∧ nameB t.2.1 = true ∧ 0 ≤ t.2.2 ∧ t.2.2 ≤ 9999) ∧ ∀ l H', H l = none → Same H H' → H' l = some (.lst ((linesW fs ws).map V.str)) → Q (.ref l) H'
theorem log_small {i : Int} (l : i.natAbs ≤ 100000) : i.natAbs.log2 < 1920 := by
  by_cases e : i.natAbs = 0
  · rw [e]; decide
  · have := (Nat.log2_lt (k := 17) e).mpr (Nat.lt_of_le_of_lt l (by decide))
    omega
theorem ok_law_web_lines {f : Addr} {fd : FuncData}
    (T : Txt K mg) (D : Dn K mg "_law_web_lines" s_law_web_lines p_law_web_lines f fd) : FnOk P w K mg base CX0 1 f fd p_law_web_lines (sp_law_web_lines K) := by
  refine D.F.ok sc_law_web_lines (fun vs H Q E h => ?_) (fun cdv A outer s' H vs Q E hr h => ?_)
  · obtain ⟨_, _, _, _, _, _, rfl, _⟩ := h
    rfl
  · obtain ⟨p, q, ys, xs, fs, ws, rfl, hp, rp, hq, rq, lf, lw, nf, nt, k⟩ := h
    have ly := rp.len
    have lx := rq.len
    rw [List.length_map] at ly lx
    refine ⟨_, (pss_cons (ps_setLc (i := 2) (own := [("pair", 3)]) rfl sc_law_web_lines.nd rfl rfl (sw_true rfl rfl rfl (by decide +kernel)) (pi_any (K := K) rfl (pv 0)) (blkOk_by (own := [("pair", 3)]) (N := n_law_web_lines) (sc := defScope s_law_web_lines) (by decide +kernel)) (fun _ _ _ _ _ => (pg_name (i := 3) sc_law_web_lines.nd rfl (Or.inl rfl))) (fun _ _ _ _ _ => pts_nil) (fun _ _ _ _ _ => (pe_op n_addZ (pe_op n_addZ (pe_op n_addZ pe_str (pe_ix (ix_tupK (K := K) rfl) (pv 3) pe_int (fun _ _ => rfl))) pe_str) (pe_callTy call_str_int (by rfl) T.b_str (by decide +kernel) (pa_cons (pe_ix (ix_tupK (K := K) rfl) (pv 3) pe_int (fun _ _ => rfl)) pa_nil)))))
  (pss_one (ps_ret (pe_op op_cat (pv 2) (pe_lc (own := [("x", 4)]) rfl sc_law_web_lines.nd (pi_any (K := K) rfl (pv 1)) (blkOk_by (own := [("x", 4)]) (N := n_law_web_lines) (sc := defScope s_law_web_lines) (by decide +kernel)) (fun _ _ _ _ _ => (pg_name (i := 4) sc_law_web_lines.nd rfl (Or.inl rfl))) (fun _ _ _ _ _ => pts_nil) (fun _ _ _ _ _ => (pe_op n_addZ (pe_op n_addZ (pe_op n_addZ (pe_op n_addZ (pe_op n_addZ pe_str (pe_ix (ix_tupK (K := K) rfl) (pv 4) pe_int (fun _ _ => rfl))) pe_str) (pe_ix (ix_tupK (K := K) rfl) (pv 4) pe_int (fun _ _ => rfl))) pe_str) (pe_callTy call_str_int (by rfl) T.b_str (by decide +kernel) (pa_cons (pe_ix (ix_tupK (K := K) rfl) (pv 4) pe_int (fun _ _ => rfl)) pa_nil))))))))), ?_⟩
    walk_at "my sts"
    refine lcLt (xs := ys) rfl hp (fun D i H' => Same H H' ∧ H' D = some (.lst (((fs.take i).map lnF).map V.str))) (fun D hD => ⟨same_new hD, upd_same⟩) (fun D i H' u _ g h => g.1 _ _ h) ?_ ?_
    · rintro D i v H2 hD hv ⟨s2, h2⟩
      obtain ⟨t, d, rfl, hd, ht⟩ := (rp.keep (Tk.same s2)).get hv
      rw [List.getElem?_map] at hd
      obtain ⟨f, hf, rfl⟩ := Option.map_eq_some_iff.mp hd
      refine ⟨rfl, ?_⟩
      have ok := nf f (List.mem_of_getElem? hf)
      have a := (nameB_len ok.1).2
      have b := numZ_len ok.2.1 ok.2.2
      have c : ("folk " : Str).length = 5 := by decide +kernel
      have d : (" " : Str).length = 1 := by decide +kernel
      walk_at "my sts"
      refine ⟨_, rfl, log_small (by omega), ?_⟩
      refine i_addZ (Nat.le_trans (show _ ≤ 1000 by simp only [strLen_append]; have : (Str.ofString (toString f.2)).length ≤ 4 := b; have : (Str.ofString "folk ").length = 5 := c; have : (Str.ofString " ").length = 1 := d; omega) (by decide)) ?_
      refine ⟨_, h2, Nat.lt_of_le_of_lt (show _ ≤ 1000 by rw [List.length_map, List.length_map, List.length_take]; omega) (by decide), same_mut s2 hD, ?_⟩
      rw [upd_same, take_map _ hf, List.map_append]
      rfl
    rintro L H2 hL ⟨s2, h2⟩
    rw [ly, List.take_length] at h2
    walk_at "my sts"
    refine lcLt (xs := xs) rfl (hq.same s2) (fun D i H' => Same H2 H' ∧ H' D = some (.lst (((ws.take i).map lnW).map V.str))) (fun D hD => ⟨same_new hD, upd_same⟩) (fun D i H' u _ g h => g.1 _ _ h) ?_ ?_
    · rintro D i v H3 hD hv ⟨s3, h3⟩
      obtain ⟨t, d, rfl, hd, ht⟩ := (rq.keep (Tk.same (s2.trans s3))).get hv
      rw [List.getElem?_map] at hd
      obtain ⟨w, hw, rfl⟩ := Option.map_eq_some_iff.mp hd
      refine ⟨rfl, ?_⟩
      have ok := nt w (List.mem_of_getElem? hw)
      have a := (nameB_len ok.1).2
      have a2 := (nameB_len ok.2.1).2
      have b := numZ_len ok.2.2.1 ok.2.2.2
      have c : ("watch " : Str).length = 6 := by decide +kernel
      have d : (" " : Str).length = 1 := by decide +kernel
      walk_at "my sts"
      refine ⟨_, rfl, log_small (by omega), ?_⟩
      refine i_addZ (Nat.le_trans (show _ ≤ 1000 by simp only [strLen_append]; have : (Str.ofString (toString w.2.2)).length ≤ 4 := b; have : (Str.ofString "watch ").length = 6 := c; have : (Str.ofString " ").length = 1 := d; omega) (by decide)) ?_
      refine ⟨_, h3, Nat.lt_of_le_of_lt (show _ ≤ 1000 by rw [List.length_map, List.length_map, List.length_take]; omega) (by decide), same_mut s3 hD, ?_⟩
      rw [upd_same, take_map _ hw, List.map_append]
      rfl
    rintro L2' H4 hL2 ⟨s4, h4⟩
    rw [lx, List.take_length] at h4
    have h24 := s4 _ _ h2
    refine cat_end h24 h4 (Nat.le_trans (show _ ≤ 1000 by simp only [List.length_map]; omega) (by decide)) fun r H5 hr s5 h5 => ?_
    have sA := (s2.trans s4).trans s5
    refine k r H5 ((s2.trans s4).free hr) sA ?_
    rw [h5, ← List.map_append]
    rfl
def tot (l : List Str) : Nat := (l.map fun x => x.length).sum
theorem tot_cons (a : Str) (l : List Str) : tot (a :: l) = a.length + tot l := by
  unfold tot
  rw [List.map_cons, List.sum_cons]
theorem tot_app (l m : List Str) : tot (l ++ m) = tot l + tot m := by
  unfold tot
  rw [List.map_append, List.sum_append]
theorem tot_mem {l : List Str} {z : Str} (h : z ∈ l) : z.length ≤ tot l := by
  induction l with
  | nil => cases h
  | cons a l ih =>
    rw [tot_cons]
    rcases List.mem_cons.mp h with rfl | h
    · omega
    · have := ih h
      omega
theorem tot_take (l : List Str) (i : Nat) : tot l = tot (l.take i) + tot (l.drop i) := by
  rw [← tot_app, List.take_append_drop]
theorem tot_ins (l : List Str) (x : Str) (i : Nat) : tot (l.take i ++ [x] ++ l.drop i) = tot l + x.length := by
  rw [tot_app, tot_app, tot_take l i]
  show _ + (x.length + 0) + _ = _
  omega
theorem tot_set {l : List Str} {x : Str} {i : Nat} : tot (l.set i x) ≤ tot l + x.length := by
  induction l generalizing i with
  | nil => rw [List.set_nil]; exact Nat.zero_le _
  | cons a l ih =>
    cases i with
    | zero => rw [List.set_cons_zero, tot_cons, tot_cons]; omega
    | succ i =>
      rw [List.set_cons_succ, tot_cons, tot_cons]
      have := ih (i := i)
      omega
theorem tot_erase (l : List Str) (i : Nat) : tot (l.eraseIdx i) ≤ tot l := by
  induction l generalizing i with
  | nil => exact Nat.zero_le _
  | cons a l ih =>
    cases i with
    | zero => rw [List.eraseIdx_cons_zero, tot_cons]; omega
    | succ i =>
      rw [List.eraseIdx_cons_succ, tot_cons, tot_cons]
      have := ih i
      omega
theorem tot_le {l : List Str} {n : Nat} (h : ∀ z ∈ l, z.length ≤ n) : tot l ≤ l.length * n := by
  induction l with
  | nil => exact Nat.zero_le _
  | cons a r ih =>
    rw [tot_cons, List.length_cons, Nat.succ_mul]
    have := h a List.mem_cons_self
    have := ih fun z hz => h z (List.mem_cons_of_mem _ hz)
    omega
theorem tot_join (y : Str) : ∀ l : List Str, (Txt.join y l).length ≤ tot l + l.length * y.length := by
  have e : ∀ l : List Str, (Str.join y l).length ≤ tot l + l.length * y.length := by
    intro l
    induction l with
    | nil => exact Nat.zero_le _
    | cons a l ih =>
      cases l with
      | nil =>
        show a.length ≤ _
        rw [tot_cons]
        omega
      | cons b r =>
        show (a ++ y ++ Str.join y (b :: r)).length ≤ _
        rw [strLen_append, strLen_append, tot_cons, List.length_cons, Nat.succ_mul]
        omega
  intro l
  rw [TL.join_eq]
  exact e l
theorem num_short {i : Int} {k : Nat} (hk : 1 ≤ k) (h0 : 0 ≤ i) (h : i < 10 ^ k) : (Str.ofString (toString i)).length ≤ k := by
  obtain ⟨n, rfl⟩ := Int.eq_ofNat_of_zero_le h0
  have e : (numS n).length = (Nat.toDigits 10 n).length := by
    have := congrArg List.length (numS_tl n)
    rw [List.length_map] at this
    rw [← this, Array.length_toList]
    rfl
  show (numS n).length ≤ k
  rw [e]
  have hn : n < 10 ^ k := by
    have : ((n : Nat) : Int) < ((10 ^ k : Nat) : Int) := by
      rw [Int.natCast_pow]
      exact h
    exact Int.ofNat_lt.mp this
  exact PySem.toDigits_len_pow (by decide) hk hn
theorem tot_setE : ∀ {l : List Str} {x y : Str} {i : Nat}, l[i]? = some y → tot (l.set i x) + y.length = tot l + x.length
  | [], _, _, i, h => by cases i <;> cases h
  | a :: l, x, y, 0, h => by
    cases h
    rw [List.set_cons_zero, tot_cons, tot_cons]
    omega
  | a :: l, x, y, i + 1, h => by
    rw [List.set_cons_succ, tot_cons, tot_cons]
    have := tot_setE (l := l) (x := x) (y := y) (i := i) h
    omega
theorem ins_map (ls : List Str) (x : Str) (n : Nat) : (ls.map V.str).take n ++ [V.str x] ++ (ls.map V.str).drop n = (ls.take n ++ [x] ++ ls.drop n).map V.str := by
  rw [List.map_append, List.map_append, List.map_take, List.map_drop]
  rfl
theorem ins_len {ls : List Str} {x : Str} {n : Nat} (h : n ≤ ls.length) : (ls.take n ++ [x] ++ ls.drop n).length = ls.length + 1 := by
  rw [List.length_append, List.length_append, List.length_take, List.length_drop]
  simp only [List.length_cons, List.length_nil]
  omega
theorem erase_map : ∀ (l : List Str) (i : Nat), (l.map V.str).eraseIdx i = (l.eraseIdx i).map V.str
  | [], _ => rfl
  | _ :: _, 0 => rfl
  | a :: l, i + 1 => by
    rw [List.map_cons, List.eraseIdx_cons_succ, List.eraseIdx_cons_succ, List.map_cons, erase_map l i]
def sp_law_fresh (K : PySem.W.Frag) : Sp := fun vs H Q _ => ∃ (s p : Addr) (ns : List Str), vs = [.ref s, .ref p] ∧ StOk H s ∧ H p = some (.lst (ns.map V.str)) ∧ p ≠ s ∧ ns.length ≤ 20 ∧ ∀ (z : Str) H', z ∉ ns → nameB z = true → StOk H' s → Fr s H H' → Q (.str z) H'
theorem ok_law_fresh {f : Addr} {fd : FuncData}
    {f_law_unlike : Addr} {fd_law_unlike : FuncData} (D_law_unlike : Dn K mg "_law_unlike" s_law_unlike p_law_unlike f_law_unlike fd_law_unlike) (G_law_unlike : FnOk P w K mg base CX0 1 f_law_unlike fd_law_unlike p_law_unlike (sp_law_unlike K))
    {f_law_name : Addr} {fd_law_name : FuncData} (D_law_name : Dn K mg "_law_name" s_law_name p_law_name f_law_name fd_law_name) (G_law_name : FnOk P w K mg base CX0 4 f_law_name fd_law_name p_law_name (sp_law_name K))
    (T : Txt K mg) (D : Dn K mg "_law_fresh" s_law_fresh p_law_fresh f fd) : FnOk P w K mg base CX0 5 f fd p_law_fresh (sp_law_fresh K) := by
  refine D.F.ok sc_law_fresh (fun vs H Q E h => ?_) (fun cdv A outer s' H vs Q E hr h => ?_)
  · obtain ⟨_, _, _, rfl, _⟩ := h
    rfl
  · obtain ⟨s, p, ns, rfl, hst, hp, np, l, k⟩ := h
    refine ⟨_, (pss_one (ps_ret (pe_call G_law_unlike (hr.mono (by omega)) (by rfl) D_law_unlike.m D_law_unlike.F.kp D_law_unlike.b .nil pass0 (pa_cons (pe_call G_law_name (hr.mono (by omega)) (by rfl) D_law_name.m D_law_name.F.kp D_law_name.b .nil pass0 (pa_cons (pv 0) pa_nil)) (pa_cons (pv 1) pa_nil))))), ?_⟩
    walk_at "my sts"
    refine ⟨s, rfl, hst, fun z H1 nz hst1 f1 => ?_⟩
    have := nameB_len nz
    walk_at "my sts"
    exact ⟨z, p, ns, rfl, f1.1 _ _ hp np, l, by omega, fun y H2 ny ok _ s2 => k y H2 ny (ok nz) (hst1.same s2) (f1.trans (Fr.same s2))⟩
def sp_law_bad_name (K : PySem.W.Frag) : Sp := fun vs H Q _ => ∃ (s : Addr), vs = [.ref s] ∧ StOk H s ∧ ∀ (z : Str) H', z.length ≤ 1000 → StOk H' s → Fr s H H' → Q (.str z) H'
theorem ok_law_bad_name {f : Addr} {fd : FuncData}
    {f_law_name : Addr} {fd_law_name : FuncData} (D_law_name : Dn K mg "_law_name" s_law_name p_law_name f_law_name fd_law_name) (G_law_name : FnOk P w K mg base CX0 4 f_law_name fd_law_name p_law_name (sp_law_name K))
    {f_law_take : Addr} {fd_law_take : FuncData} (D_law_take : Dn K mg "_law_take" s_law_take p_law_take f_law_take fd_law_take) (G_law_take : FnOk P w K mg base CX0 2 f_law_take fd_law_take p_law_take (sp_law_take K))
    {f_law_some : Addr} {fd_law_some : FuncData} (D_law_some : Dn K mg "_law_some" s_law_some p_law_some f_law_some fd_law_some) (G_law_some : FnOk P w K mg base CX0 3 f_law_some fd_law_some p_law_some (sp_law_some K))
    (T : Txt K mg) (D : Dn K mg "_law_bad_name" s_law_bad_name p_law_bad_name f fd) : FnOk P w K mg base CX0 5 f fd p_law_bad_name (sp_law_bad_name K) := by
  refine D.F.ok sc_law_bad_name (fun vs H Q E h => ?_) (fun cdv A outer s' H vs Q E hr h => ?_)
  · obtain ⟨s, rfl, _⟩ := h
    rfl
  · obtain ⟨s, rfl, hst, k⟩ := h
    refine ⟨_, (pss_cons (ps_set (i := 1) sc_law_bad_name.nd rfl (Or.inl rfl) pe_str)
  (pss_cons (ps_set (i := 2) sc_law_bad_name.nd rfl (Or.inl rfl) (pe_call G_law_name (hr.mono (by omega)) (by rfl) D_law_name.m D_law_name.F.kp D_law_name.b .nil pass0 (pa_cons (pv 0) pa_nil)))
  (pss_cons (ps_set (i := 3) sc_law_bad_name.nd rfl (Or.inl rfl) (pe_call G_law_take (hr.mono (by omega)) (by rfl) D_law_take.m D_law_take.F.kp D_law_take.b .nil pass0 (pa_cons (pv 0) (pa_cons pe_int pa_nil))))
  (pss_cons (ps_if (pt_cmpR op_eq (pv 3) pe_int (nomark _)) (pss_one (ps_ret pe_str)) pss_nil)
  (pss_cons (ps_if (pt_cmpR op_eq (pv 3) pe_int (nomark _)) (pss_one (ps_ret (pe_op n_addZ (pe_ix ix_str pe_str (pe_call G_law_take (hr.mono (by omega)) (by rfl) D_law_take.m D_law_take.F.kp D_law_take.b .nil pass0 (pa_cons (pv 0) (pa_cons pe_int pa_nil))) (fun _ _ => rfl)) (pe_slice sl_str (pv 2) po_none (po_some pe_int))))) pss_nil)
  (pss_cons (ps_if (pt_cmpR op_eq (pv 3) pe_int (nomark _)) (pss_one (ps_ret (pe_slice sl_str (pe_op op_mul_str (pv 2) pe_int) po_none (po_some (pe_op op_add pe_int (pe_call G_law_some (hr.mono (by omega)) (by rfl) D_law_some.m D_law_some.F.kp D_law_some.b .nil pass0 (pa_cons (pv 0) (pa_cons pe_int (pa_cons pe_int pa_nil))))))))) pss_nil)
  (pss_cons (ps_if (pt_cmpR op_eq (pv 3) pe_int (nomark _)) (pss_one (ps_ret (pe_op n_addZ (pe_bm0 PySem.F.plainAttrs_str PySem.F.slot_str_upper PySem.F.type_str_upper n_upper (pe_slice sl_str (pv 2) po_none (po_some pe_int))) (pe_slice sl_str (pv 2) (po_some pe_int) po_none)))) pss_nil)
  (pss_cons (ps_set (i := 4) sc_law_bad_name.nd rfl (Or.inl rfl) (pe_call G_law_take (hr.mono (by omega)) (by rfl) D_law_take.m D_law_take.F.kp D_law_take.b .nil pass0 (pa_cons (pv 0) (pa_cons (pe_callB n_lenZ (by rfl) T.b_len (by decide +kernel) (pa_cons (pv 2) pa_nil)) pa_nil))))
  (pss_cons (ps_set (i := 5) sc_law_bad_name.nd rfl (Or.inl rfl) (pe_ix ix_str (pv 1) (pe_call G_law_take (hr.mono (by omega)) (by rfl) D_law_take.m D_law_take.F.kp D_law_take.b .nil pass0 (pa_cons (pv 0) (pa_cons (pe_callB n_lenZ (by rfl) T.b_len (by decide +kernel) (pa_cons (pv 1) pa_nil)) pa_nil))) (fun _ _ => rfl)))
  (pss_cons (ps_if (pt_cmpR op_eq (pv 3) pe_int (nomark _)) (pss_one (ps_ret (pe_op n_addZ (pe_op n_addZ (pe_slice sl_str (pv 2) po_none (po_some (pv 4))) (pv 5)) (pe_slice sl_str (pv 2) (po_some (pe_op op_add (pv 4) pe_int)) po_none)))) pss_nil)
  (pss_one (ps_ret (pe_op n_addZ (pe_op n_addZ (pe_slice sl_str (pv 2) po_none (po_some (pe_op op_add (pv 4) pe_int))) (pv 5)) (pe_slice sl_str (pv 2) (po_some (pe_op op_add (pv 4) pe_int)) po_none)))))))))))))), ?_⟩
    walk_at "my sts"
    refine ⟨s, rfl, hst, fun z H1 hz hst1 f1 => ?_⟩
    obtain ⟨z0, z1⟩ := nameB_len hz
    walk_at "my sts"
    refine ⟨s, _, rfl, hst1, by decide, fun n H2 n0 n1 hst2 f2 => ?_⟩
    have f2 := f1.trans f2
    walk_at "my sts"
    refine i_ite (fun _ => ?_) fun _ => ?_
    · walk_at "my sts"
      exact k _ _ (by decide) hst2 f2
    walk_at "my sts"
    refine i_ite (fun _ => ?_) fun _ => ?_
    · have ls : ("0123456789" : Str).length = 10 := by decide +kernel
      walk_at "my sts"
      refine ⟨s, _, rfl, hst2, by decide, fun n3 H3 c0 c1 hst3 f3 => ?_⟩
      obtain ⟨c, hc, _⟩ := at_str (z := "0123456789") (i := n3) c0 (by omega)
      refine i_ixS (by rw [ls]; decide) hc ?_
      have := len_one c
      walk_at "my abs"
      exact k _ _ (by omega) hst3 (f2.trans f3)
    walk_at "my sts"
    refine i_ite (fun _ => ?_) fun _ => ?_
    · walk_at "my sts"
      refine a_mul (by decide) (by omega) fun w hw => ?_
      have hw : w.length = 60 * z.length := hw
      walk_at "my sts"
      refine ⟨s, 0, 51, rfl, hst2, by decide, fun n3 H3 b0 b1 hst3 f3 => ?_⟩
      walk_at "my abs"
      exact k _ _ (by omega) hst3 (f2.trans f3)
    walk_at "my sts"
    refine i_ite (fun _ => ?_) fun _ => ?_
    · walk_at "my abs"
      exact k _ _ (by omega) hst2 f2
    have ls : (" !\"#$&'()*+,-./:;<=>?@ABCDEFGHIJKLMNOPQRSTUVWXYZ[\\]^_`{|}~" : Str).length = 58 := by decide +kernel
    walk_at "my sts"
    refine ⟨s, _, rfl, hst2, by omega, fun n3 H3 b0 b1 hst3 f3 => ?_⟩
    walk_at "my sts"
    refine ⟨s, _, rfl, hst3, by rw [ls]; decide, fun n4 H4 d0 d1 hst4 f4 => ?_⟩
    rw [ls] at d1
    obtain ⟨c, hc, _⟩ := at_str (z := " !\"#$&'()*+,-./:;<=>?@ABCDEFGHIJKLMNOPQRSTUVWXYZ[\\]^_`{|}~") (i := n4) d0 (by rw [ls]; omega)
    refine i_ixS (by rw [ls]; decide) hc ?_
    have := len_one c
    have f4 := f2.trans (f3.trans f4)
    walk_at "my sts"
    refine i_ite (fun _ => ?_) fun _ => ?_
    · walk_at "my abs"
      exact k _ _ (by omega) hst4 f4
    · walk_at "my abs"
      exact k _ _ (by omega) hst4 f4
def sp_law_bent_number (K : PySem.W.Frag) : Sp := fun vs H Q _ => ∃ (s : Addr), vs = [.ref s] ∧ StOk H s ∧ ∀ (z : Str) H', z.length ≤ 60 → StOk H' s → Fr s H H' → Q (.str z) H'
theorem ok_law_bent_number {f : Addr} {fd : FuncData}
    {f_law_pick : Addr} {fd_law_pick : FuncData} (D_law_pick : Dn K mg "_law_pick" s_law_pick p_law_pick f_law_pick fd_law_pick) (G_law_pick : FnOk P w K mg base CX0 3 f_law_pick fd_law_pick p_law_pick (sp_law_pick K))
    {f_law_take : Addr} {fd_law_take : FuncData} (D_law_take : Dn K mg "_law_take" s_law_take p_law_take f_law_take fd_law_take) (G_law_take : FnOk P w K mg base CX0 2 f_law_take fd_law_take p_law_take (sp_law_take K))
    (T : Txt K mg) (D : Dn K mg "_law_bent_number" s_law_bent_number p_law_bent_number f fd) : FnOk P w K mg base CX0 4 f fd p_law_bent_number (sp_law_bent_number K) := by
  refine D.F.ok sc_law_bent_number (fun vs H Q E h => ?_) (fun cdv A outer s' H vs Q E hr h => ?_)
  · obtain ⟨_, rfl, _⟩ := h
    rfl
  · obtain ⟨s, rfl, hst, k⟩ := h
    refine ⟨_, (pss_cons (ps_set (i := 1) sc_law_bent_number.nd rfl (Or.inl rfl) (pe_lst (pa_cons pe_str (pa_cons pe_str (pa_cons pe_str (pa_cons pe_str (pa_cons pe_str (pa_cons pe_str (pa_cons pe_str (pa_cons pe_str (pa_cons pe_str (pa_cons pe_str (pa_cons pe_str (pa_cons pe_str (pa_cons pe_str (pa_cons pe_str (pa_cons pe_str (pa_cons pe_str pa_nil))))))))))))))))))
  (pss_cons (ps_if (pt_cmpR op_eq (pe_call G_law_take (hr.mono (by omega)) (by rfl) D_law_take.m D_law_take.F.kp D_law_take.b .nil pass0 (pa_cons (pv 0) (pa_cons pe_int pa_nil))) pe_int (nomark _)) (pss_one (ps_ret (pe_callTy call_str_int (by rfl) T.b_str (by decide +kernel) (pa_cons (pe_op op_add pe_int (pe_call G_law_take (hr.mono (by omega)) (by rfl) D_law_take.m D_law_take.F.kp D_law_take.b .nil pass0 (pa_cons (pv 0) (pa_cons (pe_op op_pow pe_int pe_int) pa_nil)))) pa_nil)))) pss_nil)
  (pss_one (ps_ret (pe_call G_law_pick (hr.mono (by omega)) (by rfl) D_law_pick.m D_law_pick.F.kp D_law_pick.b .nil pass0 (pa_cons (pv 0) (pa_cons (pv 1) pa_nil))))))), ?_⟩
    walk_at "my sts"
    have small : ∀ z ∈ [("" : Str), "00", "01", "007", "0000", "10000", "99999", "-1", "+1", "1.0", "x", "0x1", "1_0", "12a", " 1", "one"], z.length ≤ 60 := by decide +kernel
    refine lst_end (xs := [("" : Str), "00", "01", "007", "0000", "10000", "99999", "-1", "+1", "1.0", "x", "0x1", "1_0", "12a", " 1", "one"].map V.str) (show 16 ≤ 100000 by decide) fun l H1 hl s1 h1 => ?_
    have ll : [("" : Str), "00", "01", "007", "0000", "10000", "99999", "-1", "+1", "1.0", "x", "0x1", "1_0", "12a", " 1", "one"].length = 16 := rfl
    generalize [("" : Str), "00", "01", "007", "0000", "10000", "99999", "-1", "+1", "1.0", "x", "0x1", "1_0", "12a", " 1", "one"] = zs at *
    have hst1 := hst.same s1
    have nl := hst.ne hl
    walk_at "my sts"
    refine ⟨s, _, rfl, hst1, by decide, fun n H2 n0 n1 hst2 f2 => ?_⟩
    have h2 := f2.1 _ _ h1 nl
    walk_at "my sts"
    refine i_ite (fun c => ?_) fun c => ?_
    · walk_at "my sts"
      refine ⟨s, _, rfl, hst2, show ((10 : Int) ^ 40) < 10 ^ 70 by decide, fun i H3 i0 i1 hst3 f3 => ?_⟩
      have i1 : i < (10 : Int) ^ 40 ∨ i = 0 := i1
      have e40 : (10 : Int) ^ 40 = 10000000000000000000000000000000000000000 := by decide
      have e60 : (10 : Int) ^ 60 = 1000000000000000000000000000000000000000000000000000000000000 := by decide
      have hb : 10000 + i < (10 : Int) ^ 60 := by rw [e60]; rw [e40] at i1; omega
      walk_at "my sts"
      refine ⟨_, rfl, ?_, ?_⟩
      · by_cases e : (10000 + i).natAbs = 0
        · rw [e]; decide
        · refine Nat.lt_trans ((Nat.log2_lt (k := 200) e).mpr ?_) (by decide)
          have e200 : (2 : Nat) ^ 200 = 1606938044258990275541962092341162602522202993782792835301376 := by decide
          rw [e200]
          rw [e60] at hb
          omega
      · exact k _ H3 (num_short (by decide) (by omega) hb) hst3 ((Fr.same s1).trans (f2.trans f3))
    · walk_at "my sts"
      refine ⟨s, _, rfl, hst2, .inl ⟨l, _, rfl, h2, nl, by rw [List.length_map]; omega, by rw [List.length_map]; omega, fun v H3 hv hst3 f3 => ?_⟩⟩
      obtain ⟨a, ha, rfl⟩ := List.mem_map.mp hv
      exact k a H3 (small a ha) hst3 ((Fr.same s1).trans (f2.trans f3))
theorem log_small8 {i : Int} (l : i.natAbs ≤ 100000) : i.natAbs.log2 < 1920 := by
  by_cases e : i.natAbs = 0
  · rw [e]; decide
  · have := (Nat.log2_lt (k := 17) e).mpr (Nat.lt_of_le_of_lt l (by decide))
    omega
def sp_law_word (K : PySem.W.Frag) : Sp := fun vs H Q _ => ∃ (s : Addr) (y : Str), vs = [.ref s, .str y] ∧ StOk H s ∧ y.length ≤ 30000 ∧ ∀ (z : Str) H', z.length ≤ 3 * y.length + 1000 → StOk H' s → Fr s H H' → Q (.str z) H'
theorem ok_law_word {f : Addr} {fd : FuncData}
    {f_law_take : Addr} {fd_law_take : FuncData} (D_law_take : Dn K mg "_law_take" s_law_take p_law_take f_law_take fd_law_take) (G_law_take : FnOk P w K mg base CX0 2 f_law_take fd_law_take p_law_take (sp_law_take K))
    {f_law_bent_number : Addr} {fd_law_bent_number : FuncData} (D_law_bent_number : Dn K mg "_law_bent_number" s_law_bent_number p_law_bent_number f_law_bent_number fd_law_bent_number) (G_law_bent_number : FnOk P w K mg base CX0 4 f_law_bent_number fd_law_bent_number p_law_bent_number (sp_law_bent_number K))
    {f_law_bad_name : Addr} {fd_law_bad_name : FuncData} (D_law_bad_name : Dn K mg "_law_bad_name" s_law_bad_name p_law_bad_name f_law_bad_name fd_law_bad_name) (G_law_bad_name : FnOk P w K mg base CX0 5 f_law_bad_name fd_law_bad_name p_law_bad_name (sp_law_bad_name K))
    {f_law_pick : Addr} {fd_law_pick : FuncData} (D_law_pick : Dn K mg "_law_pick" s_law_pick p_law_pick f_law_pick fd_law_pick) (G_law_pick : FnOk P w K mg base CX0 3 f_law_pick fd_law_pick p_law_pick (sp_law_pick K))
    {f_law_some : Addr} {fd_law_some : FuncData} (D_law_some : Dn K mg "_law_some" s_law_some p_law_some f_law_some fd_law_some) (G_law_some : FnOk P w K mg base CX0 3 f_law_some fd_law_some p_law_some (sp_law_some K))
    (T : Txt K mg) (D : Dn K mg "_law_word" s_law_word p_law_word f fd) : FnOk P w K mg base CX0 6 f fd p_law_word (sp_law_word K) := by
  refine D.F.ok sc_law_word (fun vs H Q E h => ?_) (fun cdv A outer s' H vs Q E hr h => ?_)
  · obtain ⟨_, _, rfl, _⟩ := h
    rfl
  · obtain ⟨s, y, rfl, hst, ly, k⟩ := h
    refine ⟨_, (pss_cons (ps_set (i := 2) sc_law_word.nd rfl (Or.inl rfl) (pe_lst (pa_cons pe_str (pa_cons pe_str (pa_cons pe_str (pa_cons pe_str (pa_cons pe_str (pa_cons pe_str (pa_cons pe_str (pa_cons pe_str (pa_cons pe_str (pa_cons (pe_op n_addZ (pv 1) pe_str) (pa_cons (pe_bm0 PySem.F.plainAttrs_str PySem.F.slot_str_upper PySem.F.type_str_upper n_upper (pv 1)) (pa_cons pe_str pa_nil))))))))))))))
  (pss_cons (ps_set (i := 3) sc_law_word.nd rfl (Or.inl rfl) (pe_call G_law_take (hr.mono (by omega)) (by rfl) D_law_take.m D_law_take.F.kp D_law_take.b .nil pass0 (pa_cons (pv 0) (pa_cons pe_int pa_nil))))
  (pss_cons (ps_if (pt_cmpR op_eq (pv 3) pe_int (nomark _)) (pss_one (ps_ret (pe_call G_law_bent_number (hr.mono (by omega)) (by rfl) D_law_bent_number.m D_law_bent_number.F.kp D_law_bent_number.b .nil pass0 (pa_cons (pv 0) pa_nil)))) pss_nil)
  (pss_cons (ps_if (pt_cmpR op_eq (pv 3) pe_int (nomark _)) (pss_one (ps_ret (pe_call G_law_bad_name (hr.mono (by omega)) (by rfl) D_law_bad_name.m D_law_bad_name.F.kp D_law_bad_name.b .nil pass0 (pa_cons (pv 0) pa_nil)))) pss_nil)
  (pss_cons (ps_if (pt_cmpR op_eq (pv 3) pe_int (nomark _)) (pss_one (ps_ret (pe_call G_law_pick (hr.mono (by omega)) (by rfl) D_law_pick.m D_law_pick.F.kp D_law_pick.b .nil pass0 (pa_cons (pv 0) (pa_cons (pv 2) pa_nil))))) pss_nil)
  (pss_one (ps_ret (pe_callTy call_str_int (by rfl) T.b_str (by decide +kernel) (pa_cons (pe_call G_law_some (hr.mono (by omega)) (by rfl) D_law_some.m D_law_some.F.kp D_law_some.b .nil pass0 (pa_cons (pv 0) (pa_cons pe_int (pa_cons pe_int pa_nil)))) pa_nil))))))))), ?_⟩
    walk_at "my sts"
    have c1 : (Str.ofString "0").length = 1 := by decide +kernel
    refine i_addZ ?_ ?_
    · omega
    walk_at "my sts"
    refine lst_end (xs := [("folk" : Str), "watch", "Folk", "", "-", "0", "9999", "10000", "00", y ++ "0", Txt.upper y, "need"].map V.str) (show 12 ≤ 100000 by decide) fun l H1 hl s1 h1 => ?_
    have lu : (Txt.upper y).length ≤ 3 * y.length := PyProof.Rows.len_upper y
    have l0 : (y ++ "0").length = y.length + 1 := by rw [strLen_append]; exact congrArg (y.length + ·) c1
    have small : ∀ z ∈ [("folk" : Str), "watch", "Folk", "", "-", "0", "9999", "10000", "00", "need"], z.length ≤ 5 := by decide +kernel
    have all : ∀ z ∈ [("folk" : Str), "watch", "Folk", "", "-", "0", "9999", "10000", "00", y ++ "0", Txt.upper y, "need"], z.length ≤ 3 * y.length + 1000 := fun z hz => by
      have : z ∈ [("folk" : Str), "watch", "Folk", "", "-", "0", "9999", "10000", "00", "need"] ∨ z = y ++ "0" ∨ z = Txt.upper y := by
        simp only [List.mem_cons, List.not_mem_nil, or_false] at hz ⊢
        grind
      rcases this with h | rfl | rfl
      · have := small z h
        omega
      · omega
      · omega
    have ll : [("folk" : Str), "watch", "Folk", "", "-", "0", "9999", "10000", "00", y ++ "0", Txt.upper y, "need"].length = 12 := rfl
    generalize [("folk" : Str), "watch", "Folk", "", "-", "0", "9999", "10000", "00", y ++ "0", Txt.upper y, "need"] = zs at *
    have hst1 := hst.same s1
    have nl := hst.ne hl
    walk_at "my sts"
    refine ⟨s, _, rfl, hst1, by decide, fun n H2 n0 n1 hst2 f2 => ?_⟩
    have h2 := f2.1 _ _ h1 nl
    have f02 : Fr s H H2 := (Fr.same s1).trans f2
    walk_at "my sts"
    refine i_ite (fun c => ?_) fun c => ?_
    · walk_at "my sts"
      exact ⟨s, rfl, hst2, fun z H3 lz hst3 f3 => k z H3 (by omega) hst3 (f02.trans f3)⟩
    walk_at "my sts"
    refine i_ite (fun c => ?_) fun c => ?_
    · walk_at "my sts"
      exact ⟨s, rfl, hst2, fun z H3 lz hst3 f3 => k z H3 (by omega) hst3 (f02.trans f3)⟩
    walk_at "my sts"
    refine i_ite (fun c => ?_) fun c => ?_
    · walk_at "my sts"
      refine ⟨s, _, rfl, hst2, .inl ⟨l, _, rfl, h2, nl, by rw [List.length_map]; omega, by rw [List.length_map]; omega, fun v H3 hv hst3 f3 => ?_⟩⟩
      obtain ⟨a, ha, rfl⟩ := List.mem_map.mp hv
      exact k a H3 (all a ha) hst3 (f02.trans f3)
    walk_at "my sts"
    refine ⟨s, _, _, rfl, hst2, by decide, fun i H3 i0 i1 hst3 f3 => ?_⟩
    walk_at "my sts"
    refine ⟨_, rfl, log_small8 (by omega), ?_⟩
    exact k _ H3 (Nat.le_trans (num_short (k := 4) (by decide) i0 (by show i < 10000; omega)) (by omega)) hst3 (f02.trans f3)
def sp_law_bent_spaces (K : PySem.W.Frag) : Sp := fun vs H Q _ => ∃ (s : Addr) (y : Str), vs = [.ref s, .str y] ∧ StOk H s ∧ y.length ≤ 40000 ∧ ∀ (z : Str) H', z.length ≤ 2 * y.length + 1 → StOk H' s → Fr s H H' → Q (.str z) H'
theorem ok_law_bent_spaces {f : Addr} {fd : FuncData}
    {f_law_take : Addr} {fd_law_take : FuncData} (D_law_take : Dn K mg "_law_take" s_law_take p_law_take f_law_take fd_law_take) (G_law_take : FnOk P w K mg base CX0 2 f_law_take fd_law_take p_law_take (sp_law_take K))
    (T : Txt K mg) (D : Dn K mg "_law_bent_spaces" s_law_bent_spaces p_law_bent_spaces f fd) : FnOk P w K mg base CX0 3 f fd p_law_bent_spaces (sp_law_bent_spaces K) := by
  refine D.F.ok sc_law_bent_spaces (fun vs H Q E h => ?_) (fun cdv A outer s' H vs Q E hr h => ?_)
  · obtain ⟨_, _, rfl, _⟩ := h
    rfl
  · obtain ⟨s, y, rfl, hst, ly, k⟩ := h
    refine ⟨_, (pss_cons (ps_set (i := 2) sc_law_bent_spaces.nd rfl (Or.inl rfl) (pe_call G_law_take (hr.mono (by omega)) (by rfl) D_law_take.m D_law_take.F.kp D_law_take.b .nil pass0 (pa_cons (pv 0) (pa_cons pe_int pa_nil))))
  (pss_cons (ps_if (pt_cmpR op_eq (pv 2) pe_int (nomark _)) (pss_one (ps_ret (pe_op n_addZ pe_str (pv 1)))) pss_nil)
  (pss_cons (ps_if (pt_cmpR op_eq (pv 2) pe_int (nomark _)) (pss_one (ps_ret (pe_op n_addZ (pv 1) pe_str))) pss_nil)
  (pss_cons (ps_set (i := 3) sc_law_bent_spaces.nd rfl (Or.inl rfl) (pe_bm PySem.F.plainAttrs_str PySem.F.slot_str_find PySem.F.type_str_find mt_find (pv 1) (pa_cons pe_str pa_nil)))
  (pss_cons (ps_if (pt_cmpR op_eq (pv 2) pe_int (nomark _)) (pss_one (ps_ret (pe_op n_addZ (pe_slice sl_str (pv 1) po_none (po_some (pv 3))) (pe_slice sl_str (pv 1) (po_some (pe_op op_add (pv 3) pe_int)) po_none)))) pss_nil)
  (pss_one (ps_ret (pe_op n_addZ (pe_op n_addZ (pe_slice sl_str (pv 1) po_none (po_some (pv 3))) pe_str) (pe_slice sl_str (pv 1) (po_some (pv 3)) po_none))))))))), ?_⟩
    walk_at "my sts"
    refine ⟨s, _, rfl, hst, by decide, fun n H2 n0 n1 hst2 f2 => ?_⟩
    have c1 : (Str.ofString " ").length = 1 := by decide +kernel
    walk_at "my sts"
    refine i_ite (fun c => ?_) fun c => ?_
    · walk_at "my sts"
      exact k _ H2 (by rw [strLen_append]; omega) hst2 f2
    walk_at "my sts"
    refine i_ite (fun c => ?_) fun c => ?_
    · walk_at "my sts"
      exact k _ H2 (by rw [strLen_append]; omega) hst2 f2
    walk_at "my sts"
    refine ⟨y, _, rfl, rfl, ?_⟩
    generalize Txt.find y (Str.ofString " ") = at_ at *
    walk_at "my sts"
    have la := len_cut y none (some at_)
    have lb := len_cut y (some (at_ + 1)) none
    have lc := len_cut y (some at_) none
    refine i_ite (fun c => ?_) fun c => ?_
    · walk_at "my sts"
      exact k _ H2 (by rw [strLen_append]; omega) hst2 f2
    · walk_at "my sts"
      exact k _ H2 (by rw [strLen_append, strLen_append]; omega) hst2 f2
theorem log_small9 {i : Int} (l : i.natAbs ≤ 100000) : i.natAbs.log2 < 1920 := by
  by_cases e : i.natAbs = 0
  · rw [e]; decide
  · have := (Nat.log2_lt (k := 17) e).mpr (Nat.lt_of_le_of_lt l (by decide))
    omega
theorem last8 {xs : List V} {v : V} {n : Nat} (l : xs.length = n + 1) (h : xs[n]? = some v) : atI xs (-1) = some v := by
  have e : ixN xs.length (-1) = some n := by
    unfold ixN
    rw [l, if_neg (by decide), if_pos (by omega)]
    congr 1
    omega
  unfold atI
  rw [e]
  exact h
def sp_law_late_folk (K : PySem.W.Frag) : Sp := fun vs H Q _ => ∃ (H0 : Hp) (s q p : Addr) (ns ls : List Str) (m : Int), vs = [.ref s, .ref q, .ref p, .int m] ∧ StOk H0 s ∧ Fr s H0 H ∧ H0 q = none ∧ StOk H s ∧ H0 p = some (.lst (ns.map V.str)) ∧ p ≠ s ∧ 1 ≤ ns.length ∧ ns.length ≤ 10 ∧ H q = some (.lst (ls.map V.str)) ∧ ls.length ≤ 500 ∧ 1 ≤ ls.length ∧ m ≤ 500 ∧
  ∀ i (ls' : List Str) H', H' q = some (.lst (ls'.map V.str)) → 1 ≤ ls'.length → ls'.length ≤ ls.length + 11 → tot ls' ≤ tot ls + 400 → StOk H' s → Fr s H0 H' → Q (.int i) H'
theorem ok_law_late_folk {f : Addr} {fd : FuncData}
    {f_law_take : Addr} {fd_law_take : FuncData} (D_law_take : Dn K mg "_law_take" s_law_take p_law_take f_law_take fd_law_take) (G_law_take : FnOk P w K mg base CX0 2 f_law_take fd_law_take p_law_take (sp_law_take K))
    {f_law_fresh : Addr} {fd_law_fresh : FuncData} (D_law_fresh : Dn K mg "_law_fresh" s_law_fresh p_law_fresh f_law_fresh fd_law_fresh) (G_law_fresh : FnOk P w K mg base CX0 5 f_law_fresh fd_law_fresh p_law_fresh (sp_law_fresh K))
    (T : Txt K mg) (D : Dn K mg "_law_late_folk" s_law_late_folk p_law_late_folk f fd) : FnOk P w K mg base CX0 6 f fd p_law_late_folk (sp_law_late_folk K) := by
  refine D.F.ok sc_law_late_folk (fun vs H Q E h => ?_) (fun cdv A outer s' H vs Q E hr h => ?_)
  · obtain ⟨_, _, _, _, _, _, _, rfl, _⟩ := h
    rfl
  · obtain ⟨H0, s, q, p, ns, ls, m, rfl, hst0, f0, q0, hst, hp0, np, l1, l10, hq, l500, lq1, m500, k⟩ := h
    have nq := hst0.ne q0
    have hp := f0.1 _ _ hp0 np
    refine ⟨_, (pss_cons (ps_set (i := 4) sc_law_late_folk.nd rfl (Or.inl rfl) (pe_callTy (n_listK (K := K) rfl) (by rfl) T.b_list (by decide +kernel) (pa_cons (pv 2) pa_nil)))
  (pss_cons (ps_if (pt_cmpR op_gt (pv 3) pe_int (nomark _)) (pss_cons (ps_set (i := 5) sc_law_late_folk.nd rfl (Or.inl rfl) (pe_op op_add (pe_op op_add (pe_callB (n_lenQK (K := K) rfl) (by rfl) T.b_len (by decide +kernel) (pa_cons (pv 2) pa_nil)) pe_int) (pe_call G_law_take (hr.mono (by omega)) (by rfl) D_law_take.m D_law_take.F.kp D_law_take.b .nil pass0 (pa_cons (pv 0) (pa_cons (pv 3) pa_nil)))))
  (pss_cons (ps_expr (pe_bm PySem.F.plainAttrs_list PySem.F.slot_list_insert PySem.F.type_list_insert mt_insertR (pv 1) (pa_cons (pv 5) (pa_cons (pe_op n_addZ (pe_op n_addZ (pe_op n_addZ pe_str (pe_call G_law_fresh (hr.mono (by omega)) (by rfl) D_law_fresh.m D_law_fresh.F.kp D_law_fresh.b .nil pass0 (pa_cons (pv 0) (pa_cons (pv 4) pa_nil)))) pe_str) (pe_callTy call_str_int (by rfl) T.b_str (by decide +kernel) (pa_cons (pe_call G_law_take (hr.mono (by omega)) (by rfl) D_law_take.m D_law_take.F.kp D_law_take.b .nil pass0 (pa_cons (pv 0) (pa_cons pe_int pa_nil))) pa_nil))) pa_nil))))
  (pss_one (ps_ret (pv 5))))) pss_nil)
  (pss_cons (ps_for PassesOwn.never rfl (pi_range1 (by rfl) T.b_range (pa_cons (pe_op op_sub pe_int (pe_callB (n_lenQK (K := K) rfl) (by rfl) T.b_len (by decide +kernel) (pa_cons (pv 2) pa_nil))) pa_nil)) (pg_name (i := 6) sc_law_late_folk.nd rfl (Or.inl rfl))
   (pss_cons (ps_expr (pe_bm PySem.F.plainAttrs_list PySem.F.slot_list_append PySem.F.type_list_append mt_append (pv 4) (pa_cons (pe_call G_law_fresh (hr.mono (by omega)) (by rfl) D_law_fresh.m D_law_fresh.F.kp D_law_fresh.b .nil pass0 (pa_cons (pv 0) (pa_cons (pv 4) pa_nil))) pa_nil)))
  (pss_one (ps_expr (pe_bm PySem.F.plainAttrs_list PySem.F.slot_list_append PySem.F.type_list_append mt_append (pv 1) (pa_cons (pe_op n_addZ (pe_op n_addZ pe_str (pe_ix (ix_listK (K := K) rfl) (pv 4) (pe_un un_neg pe_int) (fun _ _ => rfl))) pe_str) pa_nil))))))
  (pss_one (ps_ret pe_int))))), ?_⟩
    have w5 : (Str.ofString "folk ").length = 5 := by decide +kernel
    have c1 : (Str.ofString " ").length = 1 := by decide +kernel
    have c2 : (Str.ofString " 1").length = 2 := by decide +kernel
    walk_at "my sts"
    refine list_end (sqL hp) fun kn H1 hkn s1 h1 => ?_
    have nk := hst.ne hkn
    have hst1 := hst.same s1
    have f1 := f0.trans (Fr.same s1)
    have k0 : H0 kn = none := f0.free hkn nk
    have hq1 := s1 _ _ hq
    have hp1 := s1 _ _ hp
    have nkq : kn ≠ q := ne_none hq hkn
    walk_at "my sts"
    refine i_ite (fun c => ?_) fun c => ?_
    · walk_at "my sts"
      refine ⟨s, _, rfl, hst1, by omega, fun n H2 n0 n1 hst2 f2 => ?_⟩
      have hm := of_decide_eq_true c
      have hq2 := f2.1 _ _ hq1 nq
      walk_at "my sts"
      refine ⟨s, kn, ns, rfl, hst2, f2.1 _ _ h1 nk, nk, by omega, fun z H3 _ bz hst3 f3 => ?_⟩
      have lz := (nameB_len bz).2
      walk_at "my sts"
      refine ⟨s, _, rfl, hst3, by decide, fun d H4 d0 d1 hst4 f4 => ?_⟩
      have f24 := f2.trans (f3.trans f4)
      have hq4 := f24.1 _ _ hq1 nq
      have ld : (Str.ofString (toString d)).length ≤ 1 := num_short (k := 1) (by decide) d0 (by show d < 10; omega)
      walk_at "my sts"
      refine ⟨_, rfl, log_small9 (by omega), ?_⟩
      refine i_addZ ?_ ?_
      · simp only [strLen_append]
        omega
      walk_at "my sts"
      rw [List.length_map]
      have ll : (Str.ofString "folk " ++ z ++ Str.ofString " " ++ Str.ofString (toString d)).length ≤ 15 := by
        simp only [strLen_append]
        omega
      generalize Str.ofString "folk " ++ z ++ Str.ofString " " ++ Str.ofString (toString d) = line at *
      refine i_insert hq4 (by rw [List.length_map]; omega) (by omega) (by omega) ?_
      have e : (ls.map V.str).take (((ns.length : Int) + 1 + n).toNat) ++ [V.str line] ++ (ls.map V.str).drop (((ns.length : Int) + 1 + n).toNat) = (ls.take (((ns.length : Int) + 1 + n).toNat) ++ [line] ++ ls.drop (((ns.length : Int) + 1 + n).toNat)).map V.str := by
        rw [List.map_append, List.map_append, List.map_take, List.map_drop]
        rfl
      rw [e]
      have et := tot_ins ls line (((ns.length : Int) + 1 + n).toNat)
      have el : (ls.take (((ns.length : Int) + 1 + n).toNat) ++ [line] ++ ls.drop (((ns.length : Int) + 1 + n).toNat)).length = ls.length + 1 := by
        rw [List.length_append, List.length_append, List.length_take, List.length_drop]
        simp only [List.length_cons, List.length_nil]
        omega
      generalize ls.take (((ns.length : Int) + 1 + n).toNat) ++ [line] ++ ls.drop (((ns.length : Int) + 1 + n).toNat) = ls3 at *
      obtain ⟨a1, a2, a3, _⟩ := mut_all (ys := ls3.map V.str) hst0 (f1.trans f24) hst4 q0
      walk_at "my sts"
      exact k _ ls3 _ a3 (by omega) (by omega) (by omega) a1 a2
    · walk_at "my sts"
      refine fr1 (by rw [List.length_map]; omega) (by rw [List.length_map]; omega) (fun i σ' H' => StOk H' s ∧ Fr s H0 H' ∧ ∃ u5 u6 kl ls2, σ' = [some (.ref s), some (.ref q), some (.ref p), some (.int m), some (.ref kn), u5, u6] ∧ H' kn = some (.lst ((kl : List Str).map V.str)) ∧ kl.length = ns.length + i ∧ H' q = some (.lst ((ls2 : List Str).map V.str)) ∧ ls2.length = ls.length + i ∧ tot ls2 ≤ tot ls + 15 * i) ⟨hst1, f1, _, _, ns, ls, rfl, h1, rfl, hq1, rfl, by omega⟩ ?_ ?_
      · rintro i σ' H' hi ⟨hst', f', u5, u6, kl, ls2, rfl, hk, lk, hqq, l2, t2⟩
        walk_at "my sts"
        rw [List.length_map] at hi
        refine ⟨s, kn, kl, rfl, hst', hk, nk, by omega, fun z H2 _ bz hst2 f2 => ?_⟩
        have lz := (nameB_len bz).2
        have hk2 := f2.1 _ _ hk nk
        have hq2 := f2.1 _ _ hqq nq
        walk_at "my sts"
        refine i_append hk2 (by rw [List.length_map]; omega) ?_
        obtain ⟨a1, a2, a3, a4⟩ := mut_all (ys := kl.map V.str ++ [V.str z]) hst0 (f'.trans f2) hst2 k0
        have hq3 := a4 _ _ nkq.symm hq2
        generalize upd H2 kn (.lst (kl.map V.str ++ [V.str z])) = H3 at *
        walk_at "my sts"
        have a3' : H3 kn = some (.lst ((kl ++ [z]).map V.str)) := by rw [List.map_append]; exact a3
        refine i_ixL (v := .str z) (sqL a3) (last8 (n := kl.length) (by rw [List.length_append, List.length_map]; rfl) (by rw [List.getElem?_append_right (by rw [List.length_map]; exact Nat.le_refl _), List.length_map, Nat.sub_self]; rfl)) ?_
        walk_at "my sts"
        have ll : (Str.ofString "folk " ++ z ++ Str.ofString " 1").length ≤ 15 := by
          simp only [strLen_append]
          omega
        generalize Str.ofString "folk " ++ z ++ Str.ofString " 1" = line at *
        refine i_append hq3 (by rw [List.length_map]; omega) ?_
        obtain ⟨b1, b2, b3, b4⟩ := mut_all (ys := ls2.map V.str ++ [V.str line]) hst0 a2 a1 q0
        refine ⟨b1, b2, _, _, kl ++ [z], ls2 ++ [line], rfl, b4 _ _ nkq a3', by rw [List.length_append]; show kl.length + 1 = _; omega, by rw [List.map_append]; exact b3, by rw [List.length_append]; show ls2.length + 1 = _; omega, ?_⟩
        rw [tot_app]
        show tot ls2 + (line.length + 0) ≤ _
        omega
      · rintro σ' H' ⟨hst', f', u5, u6, kl, ls2, rfl, hk, lk, hqq, l2, t2⟩
        walk_at "my sts"
        exact k _ ls2 H' hqq (by omega) (by omega) (by omega) hst' f'
def sp_law_bad_watch_line (K : PySem.W.Frag) : Sp := fun vs H Q _ => ∃ (s p : Addr) (ns : List Str), vs = [.ref s, .ref p] ∧ StOk H s ∧ H p = some (.lst (ns.map V.str)) ∧ p ≠ s ∧ 1 ≤ ns.length ∧ ns.length ≤ 10 ∧ (∀ n ∈ ns, nameB n = true) ∧ ∀ (z : Str) H', z.length ≤ 60 → StOk H' s → Fr s H H' → Q (.str z) H'
theorem ok_law_bad_watch_line {f : Addr} {fd : FuncData}
    {f_law_pick : Addr} {fd_law_pick : FuncData} (D_law_pick : Dn K mg "_law_pick" s_law_pick p_law_pick f_law_pick fd_law_pick) (G_law_pick : FnOk P w K mg base CX0 3 f_law_pick fd_law_pick p_law_pick (sp_law_pick K))
    {f_law_fresh : Addr} {fd_law_fresh : FuncData} (D_law_fresh : Dn K mg "_law_fresh" s_law_fresh p_law_fresh f_law_fresh fd_law_fresh) (G_law_fresh : FnOk P w K mg base CX0 5 f_law_fresh fd_law_fresh p_law_fresh (sp_law_fresh K))
    {f_law_take : Addr} {fd_law_take : FuncData} (D_law_take : Dn K mg "_law_take" s_law_take p_law_take f_law_take fd_law_take) (G_law_take : FnOk P w K mg base CX0 2 f_law_take fd_law_take p_law_take (sp_law_take K))
    (T : Txt K mg) (D : Dn K mg "_law_bad_watch_line" s_law_bad_watch_line p_law_bad_watch_line f fd) : FnOk P w K mg base CX0 6 f fd p_law_bad_watch_line (sp_law_bad_watch_line K) := by
  refine D.F.ok sc_law_bad_watch_line (fun vs H Q E h => ?_) (fun cdv A outer s' H vs Q E hr h => ?_)
  · obtain ⟨_, _, _, rfl, _⟩ := h
    rfl
  · obtain ⟨s, p, ns, rfl, hst, hp, np, l1, l10, nm, k⟩ := h
    refine ⟨_, (pss_cons (ps_set (i := 2) sc_law_bad_watch_line.nd rfl (Or.inl rfl) (pe_call G_law_pick (hr.mono (by omega)) (by rfl) D_law_pick.m D_law_pick.F.kp D_law_pick.b .nil pass0 (pa_cons (pv 0) (pa_cons (pv 1) pa_nil))))
  (pss_cons (ps_set (i := 3) sc_law_bad_watch_line.nd rfl (Or.inl rfl) (pe_call G_law_pick (hr.mono (by omega)) (by rfl) D_law_pick.m D_law_pick.F.kp D_law_pick.b .nil pass0 (pa_cons (pv 0) (pa_cons (pv 1) pa_nil))))
  (pss_cons (ps_set (i := 4) sc_law_bad_watch_line.nd rfl (Or.inl rfl) (pe_call G_law_fresh (hr.mono (by omega)) (by rfl) D_law_fresh.m D_law_fresh.F.kp D_law_fresh.b .nil pass0 (pa_cons (pv 0) (pa_cons (pv 1) pa_nil))))
  (pss_cons (ps_set (i := 5) sc_law_bad_watch_line.nd rfl (Or.inl rfl) (pe_call G_law_take (hr.mono (by omega)) (by rfl) D_law_take.m D_law_take.F.kp D_law_take.b .nil pass0 (pa_cons (pv 0) (pa_cons pe_int pa_nil))))
  (pss_cons (ps_if (pt_cmpR op_eq (pv 5) pe_int (nomark _)) (pss_one (ps_ret (pe_op n_addZ (pe_op n_addZ (pe_op n_addZ (pe_op n_addZ pe_str (pv 2)) pe_str) (pv 2)) pe_str))) pss_nil)
  (pss_cons (ps_if (pt_cmpR op_eq (pv 5) pe_int (nomark _)) (pss_one (ps_ret (pe_op n_addZ (pe_op n_addZ (pe_op n_addZ (pe_op n_addZ pe_str (pv 4)) pe_str) (pv 2)) pe_str))) pss_nil)
  (pss_cons (ps_if (pt_cmpR op_eq (pv 5) pe_int (nomark _)) (pss_one (ps_ret (pe_op n_addZ (pe_op n_addZ (pe_op n_addZ (pe_op n_addZ pe_str (pv 2)) pe_str) (pv 4)) pe_str))) pss_nil)
  (pss_cons (ps_if (pt_cmpR op_eq (pv 5) pe_int (nomark _)) (pss_one (ps_ret (pe_op n_addZ (pe_op n_addZ (pe_op n_addZ (pe_op n_addZ pe_str (pv 2)) pe_str) (pv 3)) pe_str))) pss_nil)
  (pss_cons (ps_if (pt_cmpR op_eq (pv 5) pe_int (nomark _)) (pss_one (ps_ret (pe_op n_addZ (pe_op n_addZ (pe_op n_addZ pe_str (pv 2)) pe_str) (pv 3)))) pss_nil)
  (pss_one (ps_ret (pe_op n_addZ (pe_op n_addZ (pe_op n_addZ (pe_op n_addZ pe_str (pv 2)) pe_str) (pv 3)) pe_str)))))))))))), ?_⟩
    walk_at "my sts"
    have pick : ∀ {H' : Hp} {Q' : VK} {E' : XK}, StOk H' s → H' p = some (.lst (ns.map V.str)) → (∀ (z : Str) H'', z.length ≤ 8 → StOk H'' s → Fr s H' H'' → H'' p = some (.lst (ns.map V.str)) → Q' (.str z) H'') → sp_law_pick K [.ref s, .ref p] H' Q' E' := fun {H' Q' E'} a b g => ⟨s, _, rfl, a, .inl ⟨p, _, rfl, b, np, by rw [List.length_map]; omega, by rw [List.length_map]; omega, fun v H'' hv h' f => by
      obtain ⟨z, hz, rfl⟩ := List.mem_map.mp hv
      exact g z H'' (nameB_len (nm z hz)).2 h' f (f.1 _ _ b np)⟩⟩
    refine pick hst hp fun one H1 lo hst1 f1 hp1 => ?_
    walk_at "my sts"
    refine pick hst1 hp1 fun other H2 lt hst2 f2 hp2 => ?_
    walk_at "my sts"
    refine ⟨s, p, ns, rfl, hst2, hp2, np, by omega, fun fresh H3 _ bf hst3 f3 => ?_⟩
    have lf := (nameB_len bf).2
    walk_at "my sts"
    refine ⟨s, _, rfl, hst3, by decide, fun n H4 n0 n1 hst4 f4 => ?_⟩
    have f04 := f1.trans (f2.trans (f3.trans f4))
    have w6 : (Str.ofString "watch ").length = 6 := by decide +kernel
    have c1 : (Str.ofString " ").length = 1 := by decide +kernel
    have c2 : (Str.ofString " 1").length = 2 := by decide +kernel
    have c3 : (Str.ofString " 0").length = 2 := by decide +kernel
    have c4 : (Str.ofString " 1 1").length = 4 := by decide +kernel
    walk_at "my sts"
    refine i_ite (fun c => ?_) fun c => ?_
    · walk_at "my sts"
      exact k _ H4 (by simp only [strLen_append]; omega) hst4 f04
    walk_at "my sts"
    refine i_ite (fun c => ?_) fun c => ?_
    · walk_at "my sts"
      exact k _ H4 (by simp only [strLen_append]; omega) hst4 f04
    walk_at "my sts"
    refine i_ite (fun c => ?_) fun c => ?_
    · walk_at "my sts"
      exact k _ H4 (by simp only [strLen_append]; omega) hst4 f04
    walk_at "my sts"
    refine i_ite (fun c => ?_) fun c => ?_
    · walk_at "my sts"
      exact k _ H4 (by simp only [strLen_append]; omega) hst4 f04
    walk_at "my sts"
    refine i_ite (fun c => ?_) fun c => ?_
    · walk_at "my sts"
      exact k _ H4 (by simp only [strLen_append]; omega) hst4 f04
    walk_at "my sts"
    exact k _ H4 (by simp only [strLen_append]; omega) hst4 f04
abbrev SpJ (s p q o : Addr) (j : Nat) (pick : Int) (ls : List Str) (H : Hp) (n : Int) : L2.St → Hp → Prop := fun σ' H' => StOk H' s ∧ Fr s H H' ∧ ∃ (ls' : List Str) (u6 u7 u8 u9 u10 : Option V), σ' = [some (.ref s), some (.ref p), some (.ref q), some (.ref o), some (.int (j : Int)), some (.int pick), u6, u7, u8, u9, u10] ∧ H' o = some (.lst (ls'.map V.str)) ∧ 1 ≤ ls'.length ∧ ls'.length ≤ ls.length + 11 ∧ tot ls' ≤ 4 * tot ls + 1200 ∧ (n ≤ pick → ls' = ls)
def sp_law_spoilt (K : PySem.W.Frag) : Sp := fun vs H Q _ => ∃ (s p q : Addr) (ns ls : List Str), vs = [.ref s, .ref p, .ref q] ∧ StOk H s ∧ H p = some (.lst (ns.map V.str)) ∧ p ≠ s ∧ 1 ≤ ns.length ∧ ns.length ≤ 10 ∧ (∀ n ∈ ns, nameB n = true) ∧ H q = some (.lst (ls.map V.str)) ∧ q ≠ s ∧ 1 ≤ ls.length ∧ ls.length ≤ 400 ∧ tot ls ≤ 30000 ∧
  ∀ o (ls' : List Str) H', H o = none → H' o = some (.lst (ls'.map V.str)) → 1 ≤ ls'.length → ls'.length ≤ ls.length + 11 → tot ls' ≤ 4 * tot ls + 1200 → StOk H' s → Fr s H H' → Q (.ref o) H'
theorem ok_law_spoilt {f : Addr} {fd : FuncData}
    {f_law_take : Addr} {fd_law_take : FuncData} (D_law_take : Dn K mg "_law_take" s_law_take p_law_take f_law_take fd_law_take) (G_law_take : FnOk P w K mg base CX0 2 f_law_take fd_law_take p_law_take (sp_law_take K))
    {f_law_word : Addr} {fd_law_word : FuncData} (D_law_word : Dn K mg "_law_word" s_law_word p_law_word f_law_word fd_law_word) (G_law_word : FnOk P w K mg base CX0 6 f_law_word fd_law_word p_law_word (sp_law_word K))
    {f_law_pick : Addr} {fd_law_pick : FuncData} (D_law_pick : Dn K mg "_law_pick" s_law_pick p_law_pick f_law_pick fd_law_pick) (G_law_pick : FnOk P w K mg base CX0 3 f_law_pick fd_law_pick p_law_pick (sp_law_pick K))
    {f_law_bent_spaces : Addr} {fd_law_bent_spaces : FuncData} (D_law_bent_spaces : Dn K mg "_law_bent_spaces" s_law_bent_spaces p_law_bent_spaces f_law_bent_spaces fd_law_bent_spaces) (G_law_bent_spaces : FnOk P w K mg base CX0 3 f_law_bent_spaces fd_law_bent_spaces p_law_bent_spaces (sp_law_bent_spaces K))
    {f_law_late_folk : Addr} {fd_law_late_folk : FuncData} (D_law_late_folk : Dn K mg "_law_late_folk" s_law_late_folk p_law_late_folk f_law_late_folk fd_law_late_folk) (G_law_late_folk : FnOk P w K mg base CX0 6 f_law_late_folk fd_law_late_folk p_law_late_folk (sp_law_late_folk K))
    {f_law_some : Addr} {fd_law_some : FuncData} (D_law_some : Dn K mg "_law_some" s_law_some p_law_some f_law_some fd_law_some) (G_law_some : FnOk P w K mg base CX0 3 f_law_some fd_law_some p_law_some (sp_law_some K))
    {f_law_bad_watch_line : Addr} {fd_law_bad_watch_line : FuncData} (D_law_bad_watch_line : Dn K mg "_law_bad_watch_line" s_law_bad_watch_line p_law_bad_watch_line f_law_bad_watch_line fd_law_bad_watch_line) (G_law_bad_watch_line : FnOk P w K mg base CX0 6 f_law_bad_watch_line fd_law_bad_watch_line p_law_bad_watch_line (sp_law_bad_watch_line K))
    (T : Txt K mg) (D : Dn K mg "_law_spoilt" s_law_spoilt p_law_spoilt f fd) : FnOk P w K mg base CX0 7 f fd p_law_spoilt (sp_law_spoilt K) := by
  refine D.F.ok sc_law_spoilt (fun vs H Q E h => ?_) (fun cdv A outer s' H vs Q E hr h => ?_)
  · obtain ⟨_, _, _, _, _, rfl, _⟩ := h
    rfl
  · obtain ⟨s, p, q, ns, ls, rfl, hst, hp, np, l1, l10, nm, hq, nq, q1, q400, qt, k⟩ := h
    refine ⟨_, (pss_cons (ps_set (i := 3) sc_law_spoilt.nd rfl (Or.inl rfl) (pe_callTy (n_listK (K := K) rfl) (by rfl) T.b_list (by decide +kernel) (pa_cons (pv 2) pa_nil)))
  (pss_cons (ps_set (i := 4) sc_law_spoilt.nd rfl (Or.inl rfl) (pe_call G_law_take (hr.mono (by omega)) (by rfl) D_law_take.m D_law_take.F.kp D_law_take.b .nil pass0 (pa_cons (pv 0) (pa_cons (pe_callB (n_lenQK (K := K) rfl) (by rfl) T.b_len (by decide +kernel) (pa_cons (pv 3) pa_nil)) pa_nil))))
  (pss_cons (ps_set (i := 5) sc_law_spoilt.nd rfl (Or.inl rfl) (pe_call G_law_take (hr.mono (by omega)) (by rfl) D_law_take.m D_law_take.F.kp D_law_take.b .nil pass0 (pa_cons (pv 0) (pa_cons pe_int pa_nil))))
  (Evl.pss_cut (ps_if (pt_cmpR op_eq (pv 5) pe_int (nomark _)) (pss_one (ps_expr (pe_bm PySem.F.plainAttrs_list PySem.F.slot_list_insert PySem.F.type_list_insert mt_insertR (pv 3) (pa_cons (pe_call G_law_some (hr.mono (by omega)) (by rfl) D_law_some.m D_law_some.F.kp D_law_some.b .nil pass0 (pa_cons (pv 0) (pa_cons pe_int (pa_cons (pe_callB (n_lenQK (K := K) rfl) (by rfl) T.b_len (by decide +kernel) (pa_cons (pv 3) pa_nil)) pa_nil)))) (pa_cons (pe_ix (ix_listK (K := K) rfl) (pv 3) (pv 4) (fun _ _ => rfl)) pa_nil))))) pss_nil)
  (Evl.pss_cut (ps_if (PW.pt (pw_and (pt_cmpR op_eq (pv 5) pe_int (nomark _)) (pw_and1 (pt_cmpR op_gt (pe_callB (n_lenQK (K := K) rfl) (by rfl) T.b_len (by decide +kernel) (pa_cons (pv 3) pa_nil)) pe_int (nomark _))))) (pss_one (ps_expr (pe_bm PySem.F.plainAttrs_list PySem.F.slot_list_pop PySem.F.type_list_pop mt_popAt (pv 3) (pa_cons (pv 4) pa_nil)))) pss_nil)
  (Evl.pss_cut (ps_if (pt_cmpR op_eq (pv 5) pe_int (nomark _)) (pss_cons (ps_set (i := 6) sc_law_spoilt.nd rfl (Or.inl rfl) (pe_call G_law_take (hr.mono (by omega)) (by rfl) D_law_take.m D_law_take.F.kp D_law_take.b .nil pass0 (pa_cons (pv 0) (pa_cons (pe_callB (n_lenQK (K := K) rfl) (by rfl) T.b_len (by decide +kernel) (pa_cons (pv 3) pa_nil)) pa_nil))))
  (pss_cons (ps_set (i := 7) sc_law_spoilt.nd rfl (Or.inl rfl) (pe_ix (ix_listK (K := K) rfl) (pv 3) (pv 4) (fun _ _ => rfl)))
  (pss_cons (ps_asg (pe_ix (ix_listK (K := K) rfl) (pv 3) (pv 6) (fun _ _ => rfl)) (pg_sub (pv 3) (pv 4) set_list))
  (pss_one (ps_asg (pv 7) (pg_sub (pv 3) (pv 6) set_list)))))) pss_nil)
  (Evl.pss_cut (ps_if (PW.pt (pw_or (pt_cmpR op_eq (pv 5) pe_int (nomark _)) (pw_or1 (pt_cmpR op_eq (pv 5) pe_int (nomark _))))) (pss_cons (ps_set (i := 8) sc_law_spoilt.nd rfl (Or.inl rfl) (pe_bm PySem.F.plainAttrs_str PySem.F.slot_str_split PySem.F.type_str_split mt_split (pe_ix (ix_listK (K := K) rfl) (pv 3) (pv 4) (fun _ _ => rfl)) (pa_cons pe_str pa_nil)))
  (pss_cons (ps_set (i := 9) sc_law_spoilt.nd rfl (Or.inl rfl) (pe_call G_law_take (hr.mono (by omega)) (by rfl) D_law_take.m D_law_take.F.kp D_law_take.b .nil pass0 (pa_cons (pv 0) (pa_cons (pe_callB (n_lenQK (K := K) rfl) (by rfl) T.b_len (by decide +kernel) (pa_cons (pv 8) pa_nil)) pa_nil))))
  (pss_cons (ps_set (i := 10) sc_law_spoilt.nd rfl (Or.inl rfl) (pe_call G_law_word (hr.mono (by omega)) (by rfl) D_law_word.m D_law_word.F.kp D_law_word.b .nil pass0 (pa_cons (pv 0) (pa_cons (pe_ix (ix_listK (K := K) rfl) (pv 8) (pv 9) (fun _ _ => rfl)) pa_nil))))
  (pss_cons (ps_asg (pe_call G_law_pick (hr.mono (by omega)) (by rfl) D_law_pick.m D_law_pick.F.kp D_law_pick.b .nil pass0 (pa_cons (pv 0) (pa_cons (pe_lst (pa_cons (pv 10) (pa_cons (pv 10) (pa_cons (pe_call G_law_pick (hr.mono (by omega)) (by rfl) D_law_pick.m D_law_pick.F.kp D_law_pick.b .nil pass0 (pa_cons (pv 0) (pa_cons (pv 1) pa_nil))) pa_nil)))) pa_nil))) (pg_sub (pv 8) (pv 9) set_list))
  (pss_one (ps_asg (pe_bm PySem.F.plainAttrs_str PySem.F.slot_str_join PySem.F.type_str_join mt_join pe_str (pa_cons (pv 8) pa_nil)) (pg_sub (pv 3) (pv 4) set_list))))))) pss_nil)
  (Evl.pss_cut (ps_if (PW.pt (pw_and (pt_cmpR op_eq (pv 5) pe_int (nomark _)) (pw_and1 (pt_cmpR op_ge (pe_bm PySem.F.plainAttrs_str PySem.F.slot_str_find PySem.F.type_str_find mt_find (pe_ix (ix_listK (K := K) rfl) (pv 3) (pv 4) (fun _ _ => rfl)) (pa_cons pe_str pa_nil)) pe_int (nomark _))))) (pss_one (ps_asg (pe_call G_law_bent_spaces (hr.mono (by omega)) (by rfl) D_law_bent_spaces.m D_law_bent_spaces.F.kp D_law_bent_spaces.b .nil pass0 (pa_cons (pv 0) (pa_cons (pe_ix (ix_listK (K := K) rfl) (pv 3) (pv 4) (fun _ _ => rfl)) pa_nil))) (pg_sub (pv 3) (pv 4) set_list))) pss_nil)
  (Evl.pss_cut (ps_if (pt_cmpR op_eq (pv 5) pe_int (nomark _)) (pss_cons (ps_set (i := 7) sc_law_spoilt.nd rfl (Or.inl rfl) (pe_call G_law_pick (hr.mono (by omega)) (by rfl) D_law_pick.m D_law_pick.F.kp D_law_pick.b .nil pass0 (pa_cons (pv 0) (pa_cons (pe_lst (pa_cons pe_str (pa_cons pe_str (pa_cons pe_str (pa_cons pe_str (pa_cons pe_str (pa_cons pe_str (pa_cons pe_str pa_nil)))))))) pa_nil))))
  (pss_one (ps_expr (pe_bm PySem.F.plainAttrs_list PySem.F.slot_list_insert PySem.F.type_list_insert mt_insertR (pv 3) (pa_cons (pe_call G_law_some (hr.mono (by omega)) (by rfl) D_law_some.m D_law_some.F.kp D_law_some.b .nil pass0 (pa_cons (pv 0) (pa_cons pe_int (pa_cons (pe_callB (n_lenQK (K := K) rfl) (by rfl) T.b_len (by decide +kernel) (pa_cons (pv 3) pa_nil)) pa_nil)))) (pa_cons (pv 7) pa_nil)))))) pss_nil)
  (Evl.pss_cut (ps_if (pt_cmpR op_eq (pv 5) pe_int (nomark _)) (pss_one (ps_expr (pe_bm PySem.F.plainAttrs_list PySem.F.slot_list_insert PySem.F.type_list_insert mt_insertR (pv 3) (pa_cons (pe_call G_law_some (hr.mono (by omega)) (by rfl) D_law_some.m D_law_some.F.kp D_law_some.b .nil pass0 (pa_cons (pv 0) (pa_cons pe_int (pa_cons (pe_callB (n_lenQK (K := K) rfl) (by rfl) T.b_len (by decide +kernel) (pa_cons (pv 3) pa_nil)) pa_nil)))) (pa_cons (pe_call G_law_bad_watch_line (hr.mono (by omega)) (by rfl) D_law_bad_watch_line.m D_law_bad_watch_line.F.kp D_law_bad_watch_line.b .nil pass0 (pa_cons (pv 0) (pa_cons (pv 1) pa_nil))) pa_nil))))) pss_nil)
  (Evl.pss_cut (ps_if (pt_cmpR op_eq (pv 5) pe_int (nomark _)) (pss_one (ps_expr (pe_call G_law_late_folk (hr.mono (by omega)) (by rfl) D_law_late_folk.m D_law_late_folk.F.kp D_law_late_folk.b .nil pass0 (pa_cons (pv 0) (pa_cons (pv 3) (pa_cons (pv 1) (pa_cons (pe_callB (n_max rfl) (by rfl) T.b_max (by decide +kernel) (pa_cons pe_int (pa_cons (pe_op op_sub (pe_callB (n_lenQK (K := K) rfl) (by rfl) T.b_len (by decide +kernel) (pa_cons (pv 3) pa_nil)) (pe_callB (n_lenQK (K := K) rfl) (by rfl) T.b_len (by decide +kernel) (pa_cons (pv 1) pa_nil))) pa_nil))) pa_nil))))))) pss_nil)
  (pss_one (ps_ret (pv 3)))))))))))))), ?_⟩
    walk_at "my sts"
    refine list_end (sqL hq) fun o H1 ho s1 h1 => ?_
    have no := hst.ne ho
    have hst1 := hst.same s1
    have f1 : Fr s H H1 := Fr.same s1
    walk_at "my sts"
    refine ⟨s, _, rfl, hst1, by rw [List.length_map]; omega, fun place H2 p0 p1 hst2 f2 => ?_⟩
    rw [List.length_map] at p1
    have h2 := f2.1 _ _ h1 no
    obtain ⟨j, rfl⟩ : ∃ j : Nat, place = (j : Int) := ⟨place.toNat, by omega⟩
    have hj : j < ls.length := by omega
    walk_at "my sts"
    refine ⟨s, _, rfl, hst2, by decide, fun pick H3 k0 k1 hst3 f3 => ?_⟩
    have h3 := f3.1 _ _ h2 no
    have f03 := f1.trans (f2.trans f3)
    walk_at "my sts"
    obtain ⟨lsX, hstX, fX, hX, b1, b2, b3, bX⟩ : ∃ (lsX : List Str), StOk H3 s ∧ Fr s H H3 ∧ H3 o = some (.lst (lsX.map V.str)) ∧ 1 ≤ lsX.length ∧ lsX.length ≤ ls.length + 11 ∧ tot lsX ≤ 4 * tot ls + 1200 ∧ ((0 : Int) ≤ pick → lsX = ls) := ⟨ls, hst3, f03, h3, q1, by omega, by omega, fun _ => rfl⟩
    refine i_cut (SpJ s p q o j pick ls H 1) ?_ ?_
    · walk_at "my sts"
      refine i_ite (fun c => ?_) fun c => ?_
      · have hk : pick = 0 := by
          have := of_decide_eq_true c
          injection this
        have eX := bX (by omega)
        subst eX
        have hpX := fX.1 _ _ hp np
        walk_at "my sts"
        refine ⟨s, 0, _, rfl, hstX, by rw [List.length_map]; omega, fun i H4 i0 i1 hst4 f4 => ?_⟩
        rw [List.length_map] at i1
        have h4 := f4.1 _ _ hX no
        walk_at "my sts"
        refine i_ixL (sqL h4) (at_nth hj) ?_
        walk_at "my sts"
        refine i_insert h4 (by rw [List.length_map]; omega) i0 (by omega) ?_
        rw [ins_map]
        have tl := tot_mem (nth_mem hj)
        have ti := tot_ins lsX (nth lsX j) i.toNat
        have li := ins_len (ls := lsX) (x := nth lsX j) (n := i.toNat) (by omega)
        generalize lsX.take i.toNat ++ [nth lsX j] ++ lsX.drop i.toNat = l9 at *
        obtain ⟨a1, a2, a3, _⟩ := mut_all (ys := l9.map V.str) hst (fX.trans f4) hst4 ho
        exact ⟨a1, a2, l9, _, _, _, _, _, rfl, a3, by omega, by omega, by omega, fun h => absurd h (by omega)⟩
      · have hk : ¬ pick = 0 := fun e => of_decide_eq_false c (by rw [e])
        walk_at "my sts"
        exact ⟨hstX, fX, lsX, _, _, _, _, _, rfl, hX, b1, b2, b3, fun h => bX (by omega)⟩
    rintro σX HX ⟨hstX, fX, lsX, u6, u7, u8, u9, u10, rfl, hX, b1, b2, b3, bX⟩
    refine i_cut (SpJ s p q o j pick ls H 2) ?_ ?_
    · walk_at "my sts"
      refine i_ite (fun c => ?_) fun c => ?_
      · have hk : pick = 1 := by
          have := of_decide_eq_true c
          injection this
        have eX := bX (by omega)
        subst eX
        have hpX := fX.1 _ _ hp np
        walk_at "my sts"
        refine i_ite (fun c1 => ?_) fun c1 => ?_
        · walk_at "my sts"
          have lc : 1 < lsX.length := by
            have := of_decide_eq_true c1
            rw [List.length_map] at this
            omega
          refine i_popAt hX (by omega) (by rw [List.length_map]; omega) (by rw [List.length_map]; omega) fun y hy => ?_
          walk_at "my sts"
          have em : (lsX.map V.str).eraseIdx (j : Int).toNat = (lsX.eraseIdx j).map V.str := erase_map lsX j
          rw [em]
          have te := tot_erase lsX j
          have le := List.length_eraseIdx_of_lt hj
          obtain ⟨a1, a2, a3, _⟩ := mut_all (ys := (lsX.eraseIdx j).map V.str) hst fX hstX ho
          exact ⟨a1, a2, lsX.eraseIdx j, _, _, _, _, _, rfl, a3, by omega, by omega, by omega, fun h => absurd h (by omega)⟩
        · walk_at "my sts"
          exact ⟨hstX, fX, lsX, _, _, _, _, _, rfl, hX, b1, b2, b3, fun h => absurd h (by omega)⟩
      · have hk : ¬ pick = 1 := fun e => of_decide_eq_false c (by rw [e])
        walk_at "my sts"
        exact ⟨hstX, fX, lsX, _, _, _, _, _, rfl, hX, b1, b2, b3, fun h => bX (by omega)⟩
    rintro σX HX ⟨hstX, fX, lsX, u6, u7, u8, u9, u10, rfl, hX, b1, b2, b3, bX⟩
    refine i_cut (SpJ s p q o j pick ls H 3) ?_ ?_
    · walk_at "my sts"
      refine i_ite (fun c => ?_) fun c => ?_
      · have hk : pick = 2 := by
          have := of_decide_eq_true c
          injection this
        have eX := bX (by omega)
        subst eX
        have hpX := fX.1 _ _ hp np
        walk_at "my sts"
        refine ⟨s, _, rfl, hstX, by rw [List.length_map]; omega, fun i H4 i0 i1 hst4 f4 => ?_⟩
        rw [List.length_map] at i1
        obtain ⟨m, rfl⟩ : ∃ m : Nat, i = (m : Int) := ⟨i.toNat, by omega⟩
        have hm : m < lsX.length := by omega
        have h4 := f4.1 _ _ hX no
        walk_at "my sts"
        refine i_ixL (sqL h4) (at_nth hj) ?_
        walk_at "my sts"
        refine i_ixL (sqL h4) (at_nth hm) ?_
        walk_at "my sts"
        refine i_setL (j := j) h4 (by unfold ixN; rw [List.length_map, if_pos (by omega), if_pos (by omega)]; rfl) ?_
        have e1 : (lsX.map V.str).set j (V.str (nth lsX m)) = (lsX.set j (nth lsX m)).map V.str := List.map_set.symm
        rw [e1]
        obtain ⟨b1', b2', b3', _⟩ := mut_all (ys := (lsX.set j (nth lsX m)).map V.str) hst (fX.trans f4) hst4 ho
        have t1 := tot_setE (l := lsX) (x := nth lsX m) (nth_get hj)
        have lm := tot_mem (nth_mem hm)
        have lj := tot_mem (nth_mem hj)
        have l9 : (lsX.set j (nth lsX m)).length = lsX.length := List.length_set
        generalize upd H4 o (.lst ((lsX.set j (nth lsX m)).map V.str)) = H5 at *
        generalize lsX.set j (nth lsX m) = l5 at *
        walk_at "my sts"
        refine i_setL (j := m) b3' (by unfold ixN; rw [List.length_map, if_pos (by omega), if_pos (by omega)]; rfl) ?_
        have e2 : (l5.map V.str).set m (V.str (nth lsX j)) = (l5.set m (nth lsX j)).map V.str := List.map_set.symm
        rw [e2]
        have t2 := tot_set (l := l5) (x := nth lsX j) (i := m)
        have l8 : (l5.set m (nth lsX j)).length = l5.length := List.length_set
        obtain ⟨a1, a2, a3, _⟩ := mut_all (ys := (l5.set m (nth lsX j)).map V.str) hst b2' b1' ho
        exact ⟨a1, a2, l5.set m (nth lsX j), _, _, _, _, _, rfl, a3, by omega, by omega, by omega, fun h => absurd h (by omega)⟩
      · have hk : ¬ pick = 2 := fun e => of_decide_eq_false c (by rw [e])
        walk_at "my sts"
        exact ⟨hstX, fX, lsX, _, _, _, _, _, rfl, hX, b1, b2, b3, fun h => bX (by omega)⟩
    rintro σX HX ⟨hstX, fX, lsX, u6, u7, u8, u9, u10, rfl, hX, b1, b2, b3, bX⟩
    refine i_cut (SpJ s p q o j pick ls H 5) ?_ ?_
    · walk_at "gots"
      refine i_ite (fun c => ?_) fun c => ?_
      · have hk : pick = 3 ∨ pick = 4 := by
          rw [Bool.or_eq_true] at c
          exact c.imp (fun c => by have := of_decide_eq_true c; injection this) fun c => by have := of_decide_eq_true c; injection this
        have eX := bX (by omega)
        subst eX
        have hpX := fX.1 _ _ hp np
        walk_at "my sts"
        refine i_ixL (sqL hX) (at_nth hj) ?_
        walk_at "my sts"
        have lj := tot_mem (nth_mem hj)
        have gj := nth_get hj
        generalize nth lsX j = line at *
        refine ⟨line, " ", rfl, rfl, by decide +kernel, Nat.le_trans (show line.length + 2 ≤ 200000 by omega) (by decide), fun W hW => ?_⟩
        have sw : ((Txt.split line " ").map (·.length)).sum + (Txt.split line " ").length ≤ line.length + 1 := PyProof.Rows.split_weight line " " (by decide +kernel)
        have sp := PyProof.Rows.split_pos line " "
        have sS : Same HX (upd HX W (.lst ((Txt.split line " ").map V.str))) := same_new hW
        have hW5 : (upd HX W (.lst ((Txt.split line " ").map V.str))) W = some (.lst ((Txt.split line " ").map V.str)) := upd_same
        generalize upd HX W (.lst ((Txt.split line " ").map V.str)) = H5 at *
        have sw : tot (Txt.split line " ") + (Txt.split line " ").length ≤ line.length + 1 := sw
        have sp : 1 ≤ (Txt.split line " ").length := sp
        generalize Txt.split line " " = ws at *
        have nW := hstX.ne hW
        have W0 : H W = none := fX.free hW nW
        have nWo : W ≠ o := ne_none hX hW
        have hst5 := hstX.same sS
        walk_at "my sts"
        refine ⟨s, _, rfl, hst5, by rw [List.length_map]; omega, fun i H6 i0 i1 hst6 f6 => ?_⟩
        rw [List.length_map] at i1
        obtain ⟨m, rfl⟩ : ∃ m : Nat, i = (m : Int) := ⟨i.toNat, by omega⟩
        have hm : m < ws.length := by omega
        have hW6 := f6.1 _ _ hW5 nW
        walk_at "my sts"
        refine i_ixL (sqL hW6) (at_nth hm) ?_
        have lm := tot_mem (nth_mem hm)
        walk_at "my sts"
        refine ⟨s, nth ws m, rfl, hst6, by omega, fun new H7 lnew hst7 f7 => ?_⟩
        have f57 := f6.trans f7
        have hp7 := f57.1 _ _ (sS _ _ hpX) np
        walk_at "my sts"
        refine ⟨s, _, rfl, hst7, .inl ⟨p, _, rfl, hp7, np, by rw [List.length_map]; omega, by rw [List.length_map]; omega, fun v H8 hv hst8 f8 => ?_⟩⟩
        obtain ⟨b, hb, rfl⟩ := List.mem_map.mp hv
        have lb := (nameB_len (nm b hb)).2
        walk_at "my sts"
        refine lst_end (xs := [V.str new, V.str new, V.str b]) (show 3 ≤ 100000 by decide) fun e H9 he s9 h9 => ?_
        have ne := hst8.ne he
        have hst9 := hst8.same s9
        walk_at "my sts"
        refine ⟨s, _, rfl, hst9, .inl ⟨e, _, rfl, h9, ne, show 0 < 3 by decide, show 3 < 10 ^ 9 by decide, fun v H10 hv hst10 f10 => ?_⟩⟩
        obtain ⟨w, rfl, lw⟩ : ∃ w : Str, v = .str w ∧ w.length ≤ 3 * line.length + 1003 := by
          simp only [List.mem_cons, List.not_mem_nil, or_false] at hv
          rcases hv with rfl | rfl | rfl
          · exact ⟨new, rfl, by omega⟩
          · exact ⟨new, rfl, by omega⟩
          · exact ⟨b, rfl, by omega⟩
        have f5a := f57.trans (f8.trans ((Fr.same s9).trans f10))
        have hWa := f5a.1 _ _ hW5 nW
        have fa := fX.trans ((Fr.same sS).trans f5a)
        have hXa := f5a.1 _ _ (sS _ _ hX) no
        walk_at "my sts"
        refine i_setL (j := m) hWa (by unfold ixN; rw [List.length_map, if_pos (by omega), if_pos (by omega)]; rfl) ?_
        have e1 : (ws.map V.str).set m (V.str w) = (ws.set m w).map V.str := List.map_set.symm
        rw [e1]
        obtain ⟨b1', b2', b3', b4'⟩ := mut_all (ys := (ws.set m w).map V.str) hst fa hst10 W0
        have hXb := b4' _ _ nWo.symm hXa
        have tw := tot_set (l := ws) (x := w) (i := m)
        have lw2 : (ws.set m w).length = ws.length := List.length_set
        generalize upd H10 W (.lst ((ws.set m w).map V.str)) = H11 at *
        generalize ws.set m w = ws2 at *
        walk_at "my sts"
        have c1 : (Str.ofString " ").length = 1 := by decide +kernel
        have tws : (ws2.map fun x => x.length).sum = tot ws2 := rfl
        refine ⟨_, W, ws2, rfl, rfl, .inl (sqL b3'), by rw [c1, tws]; omega, ?_⟩
        have tj : (Txt.join (Str.ofString " ") ws2).length ≤ tot ws2 + ws2.length * (Str.ofString " ").length := tot_join _ _
        rw [c1] at tj
        generalize Txt.join (Str.ofString " ") ws2 = nl at *
        walk_at "my sts"
        refine i_setL (j := j) hXb (by unfold ixN; rw [List.length_map, if_pos (by omega), if_pos (by omega)]; rfl) ?_
        have e2 : (lsX.map V.str).set j (V.str nl) = (lsX.set j nl).map V.str := List.map_set.symm
        rw [e2]
        have t2 := tot_setE (l := lsX) (x := nl) gj
        have l8 : (lsX.set j nl).length = lsX.length := List.length_set
        obtain ⟨a1, a2, a3, _⟩ := mut_all (ys := (lsX.set j nl).map V.str) hst b2' b1' ho
        exact ⟨a1, a2, lsX.set j nl, _, _, _, _, _, rfl, a3, by omega, by omega, by omega, fun h => absurd h (by omega)⟩
      · have hk : ¬ pick = 3 ∧ ¬ pick = 4 := by
          rw [Bool.or_eq_false_iff] at c
          exact ⟨fun e => of_decide_eq_false c.1 (by rw [e]), fun e => of_decide_eq_false c.2 (by rw [e])⟩
        walk_at "my sts"
        exact ⟨hstX, fX, lsX, _, _, _, _, _, rfl, hX, b1, b2, b3, fun h => bX (by omega)⟩
    rintro σX HX ⟨hstX, fX, lsX, u6, u7, u8, u9, u10, rfl, hX, b1, b2, b3, bX⟩
    refine i_cut (SpJ s p q o j pick ls H 6) ?_ ?_
    · walk_at "my sts"
      refine i_ite (fun c => ?_) fun c => ?_
      · have hk : pick = 5 := by
          have := of_decide_eq_true c
          injection this
        have eX := bX (by omega)
        subst eX
        have hpX := fX.1 _ _ hp np
        walk_at "my sts"
        refine i_ixL (sqL hX) (at_nth hj) ?_
        walk_at "my sts"
        have lj := tot_mem (nth_mem hj)
        have gj := nth_get hj
        refine ⟨_, _, rfl, rfl, ?_⟩
        walk_at "my sts"
        refine i_ite (fun c1 => ?_) fun c1 => ?_
        · walk_at "my sts"
          refine i_ixL (sqL hX) (at_nth hj) ?_
          walk_at "my sts"
          refine ⟨s, nth lsX j, rfl, hstX, by omega, fun nl H4 ll hst4 f4 => ?_⟩
          have h4 := f4.1 _ _ hX no
          walk_at "my sts"
          refine i_setL (j := j) h4 (by unfold ixN; rw [List.length_map, if_pos (by omega), if_pos (by omega)]; rfl) ?_
          have e2 : (lsX.map V.str).set j (V.str nl) = (lsX.set j nl).map V.str := List.map_set.symm
          rw [e2]
          have t2 := tot_setE (l := lsX) (x := nl) gj
          have l8 : (lsX.set j nl).length = lsX.length := List.length_set
          obtain ⟨a1, a2, a3, _⟩ := mut_all (ys := (lsX.set j nl).map V.str) hst (fX.trans f4) hst4 ho
          exact ⟨a1, a2, lsX.set j nl, _, _, _, _, _, rfl, a3, by omega, by omega, by omega, fun h => absurd h (by omega)⟩
        · walk_at "my sts"
          exact ⟨hstX, fX, lsX, _, _, _, _, _, rfl, hX, b1, b2, b3, fun h => absurd h (by omega)⟩
      · have hk : ¬ pick = 5 := fun e => of_decide_eq_false c (by rw [e])
        walk_at "my sts"
        exact ⟨hstX, fX, lsX, _, _, _, _, _, rfl, hX, b1, b2, b3, fun h => bX (by omega)⟩
    rintro σX HX ⟨hstX, fX, lsX, u6, u7, u8, u9, u10, rfl, hX, b1, b2, b3, bX⟩
    refine i_cut (SpJ s p q o j pick ls H 7) ?_ ?_
    · walk_at "my sts"
      refine i_ite (fun c => ?_) fun c => ?_
      · have hk : pick = 6 := by
          have := of_decide_eq_true c
          injection this
        have eX := bX (by omega)
        subst eX
        have hpX := fX.1 _ _ hp np
        walk_at "my sts"
        have small : ∀ z ∈ [("" : Str), " ", "# a", "-", "folk", "watch", "folk a 1 1"], z.length ≤ 20 := by decide +kernel
        refine lst_end (xs := [("" : Str), " ", "# a", "-", "folk", "watch", "folk a 1 1"].map V.str) (show 7 ≤ 100000 by decide) fun e H4 he s4 h4 => ?_
        have l7 : [("" : Str), " ", "# a", "-", "folk", "watch", "folk a 1 1"].length = 7 := rfl
        generalize [("" : Str), " ", "# a", "-", "folk", "watch", "folk a 1 1"] = zs at *
        have ne := hstX.ne he
        have hst4 := hstX.same s4
        walk_at "my sts"
        refine ⟨s, _, rfl, hst4, .inl ⟨e, _, rfl, h4, ne, by rw [List.length_map]; omega, by rw [List.length_map]; omega, fun v H5 hv hst5 f5 => ?_⟩⟩
        obtain ⟨z, hz, rfl⟩ := List.mem_map.mp hv
        have lz := small z hz
        have f45 := (Fr.same s4).trans f5
        have hX5 := f45.1 _ _ hX no
        walk_at "my sts"
        refine ⟨s, 0, _, rfl, hst5, by rw [List.length_map]; omega, fun i H6 i0 i1 hst6 f6 => ?_⟩
        rw [List.length_map] at i1
        walk_at "my sts"
        refine i_insert (f6.1 _ _ hX5 no) (by rw [List.length_map]; omega) i0 (by omega) ?_
        rw [ins_map]
        have ti := tot_ins lsX z i.toNat
        have li := ins_len (ls := lsX) (x := z) (n := i.toNat) (by omega)
        generalize lsX.take i.toNat ++ [z] ++ lsX.drop i.toNat = l9 at *
        obtain ⟨a1, a2, a3, _⟩ := mut_all (ys := l9.map V.str) hst (fX.trans (f45.trans f6)) hst6 ho
        exact ⟨a1, a2, l9, _, _, _, _, _, rfl, a3, by omega, by omega, by omega, fun h => absurd h (by omega)⟩
      · have hk : ¬ pick = 6 := fun e => of_decide_eq_false c (by rw [e])
        walk_at "my sts"
        exact ⟨hstX, fX, lsX, _, _, _, _, _, rfl, hX, b1, b2, b3, fun h => bX (by omega)⟩
    rintro σX HX ⟨hstX, fX, lsX, u6, u7, u8, u9, u10, rfl, hX, b1, b2, b3, bX⟩
    refine i_cut (SpJ s p q o j pick ls H 8) ?_ ?_
    · walk_at "my sts"
      refine i_ite (fun c => ?_) fun c => ?_
      · have hk : pick = 7 := by
          have := of_decide_eq_true c
          injection this
        have eX := bX (by omega)
        subst eX
        have hpX := fX.1 _ _ hp np
        walk_at "my sts"
        refine ⟨s, 0, _, rfl, hstX, by rw [List.length_map]; omega, fun i H4 i0 i1 hst4 f4 => ?_⟩
        rw [List.length_map] at i1
        walk_at "my sts"
        refine ⟨s, p, ns, rfl, hst4, f4.1 _ _ hpX np, np, l1, l10, nm, fun z H5 lz hst5 f5 => ?_⟩
        walk_at "my sts"
        refine i_insert ((f4.trans f5).1 _ _ hX no) (by rw [List.length_map]; omega) i0 (by omega) ?_
        rw [ins_map]
        have ti := tot_ins lsX z i.toNat
        have li := ins_len (ls := lsX) (x := z) (n := i.toNat) (by omega)
        generalize lsX.take i.toNat ++ [z] ++ lsX.drop i.toNat = l9 at *
        obtain ⟨a1, a2, a3, _⟩ := mut_all (ys := l9.map V.str) hst (fX.trans (f4.trans f5)) hst5 ho
        exact ⟨a1, a2, l9, _, _, _, _, _, rfl, a3, by omega, by omega, by omega, fun h => absurd h (by omega)⟩
      · have hk : ¬ pick = 7 := fun e => of_decide_eq_false c (by rw [e])
        walk_at "my sts"
        exact ⟨hstX, fX, lsX, _, _, _, _, _, rfl, hX, b1, b2, b3, fun h => bX (by omega)⟩
    rintro σX HX ⟨hstX, fX, lsX, u6, u7, u8, u9, u10, rfl, hX, b1, b2, b3, bX⟩
    refine i_cut (SpJ s p q o j pick ls H 9) ?_ ?_
    · walk_at "my sts"
      refine i_ite (fun c => ?_) fun c => ?_
      · have hk : pick = 8 := by
          have := of_decide_eq_true c
          injection this
        have eX := bX (by omega)
        subst eX
        have hpX := fX.1 _ _ hp np
        walk_at "my sts"
        refine ⟨H, s, o, p, ns, lsX, _, rfl, hst, fX, ho, hstX, hp, np, l1, l10, hX, by omega, b1, ?_, fun i ls' H' h' la lb lc hst' f' => ?_⟩
        · rw [List.length_map, List.length_map]
          split <;> omega
        · exact ⟨hst', f', ls', _, _, _, _, _, rfl, h', la, by omega, by omega, fun h => absurd h (by omega)⟩
      · have hk : ¬ pick = 8 := fun e => of_decide_eq_false c (by rw [e])
        walk_at "my sts"
        exact ⟨hstX, fX, lsX, _, _, _, _, _, rfl, hX, b1, b2, b3, fun h => bX (by omega)⟩
    rintro σX HX ⟨hstX, fX, lsX, u6, u7, u8, u9, u10, rfl, hX, b1, b2, b3, bX⟩
    walk_at "my sts"
    exact k o lsX HX ho hX b1 b2 b3 hstX fX
def sp_law_sameN (n : Nat) (K : PySem.W.Frag) : Sp := fun vs H Q _ => ∃ (x y : V), vs = [x, y] ∧ Sm H n x y ∧ ∀ H', Same H H' → Q (.bl true) H'
def sp_law_same (K : PySem.W.Frag) : Sp := sp_law_sameN 4 K
theorem ok_law_same0 {f : Addr} {fd : FuncData} (T : Txt K mg) (D_law_same : Dn K mg "_law_same" s_law_same p_law_same f fd) : ∀ n : Nat, FnOk P w K mg base CX0 (n + 1) f fd p_law_same (sp_law_sameN n K) := by
  have body : ∀ (n : Nat) (sp : Sp), FnOk P w K mg base CX0 n f fd p_law_same sp → (∀ m, n = m + 1 → sp = sp_law_sameN m K) → FnOk P w K mg base CX0 (n + 1) f fd p_law_same (sp_law_sameN n K) := by
    intro n sp G_law_same hsp
    refine D_law_same.F.ok sc_law_same (fun vs H Q E h => ?_) (fun cdv A outer s' H vs Q E hr h => ?_)
    · obtain ⟨x, y, rfl, _⟩ := h
      rfl
    · obtain ⟨x, y, rfl, hxy, k⟩ := h
      refine ⟨_, (pss_cons (ps_if (PW.pt (pw_or (pt_val (pe_callB (call_isiK (K := K) rfl) (by rfl) T.b_isinstance (by decide +kernel) (pa_cons (pv 0) (pa_cons (pe_bltn (v := .ty "bool") (by rfl) T.b_bool (by decide +kernel) rfl) pa_nil)))) (pw_or1 (pt_val (pe_callB (call_isiK (K := K) rfl) (by rfl) T.b_isinstance (by decide +kernel) (pa_cons (pv 1) (pa_cons (pe_bltn (v := .ty "bool") (by rfl) T.b_bool (by decide +kernel) rfl) pa_nil))))))) (pss_one (ps_ret (pe_and (pe_callB (call_isiK (K := K) rfl) (by rfl) T.b_isinstance (by decide +kernel) (pa_cons (pv 0) (pa_cons (pe_bltn (v := .ty "bool") (by rfl) T.b_bool (by decide +kernel) rfl) pa_nil))) (pe_and (pe_callB (call_isiK (K := K) rfl) (by rfl) T.b_isinstance (by decide +kernel) (pa_cons (pv 1) (pa_cons (pe_bltn (v := .ty "bool") (by rfl) T.b_bool (by decide +kernel) rfl) pa_nil))) (pe_one (pe_cmpR op_eq (pv 0) (pv 1) (nomark _))))))) pss_nil)
  (pss_cons (ps_if (PW.pt (pw_or (pt_cmpR n_isN (pv 0) pe_non (nomark _)) (pw_or1 (pt_cmpR n_isN (pv 1) pe_non (nomark _))))) (pss_one (ps_ret (pe_and (pe_cmpR n_isN (pv 0) pe_non (nomark _)) (pe_one (pe_cmpR n_isN (pv 1) pe_non (nomark _)))))) pss_nil)
  (pss_cons (ps_if (PW.pt (pw_or (pt_val (pe_callB (call_isiK (K := K) rfl) (by rfl) T.b_isinstance (by decide +kernel) (pa_cons (pv 0) (pa_cons (pe_bltn (v := .ty "int") (by rfl) T.b_int (by decide +kernel) rfl) pa_nil)))) (pw_or1 (pt_val (pe_callB (call_isiK (K := K) rfl) (by rfl) T.b_isinstance (by decide +kernel) (pa_cons (pv 1) (pa_cons (pe_bltn (v := .ty "int") (by rfl) T.b_int (by decide +kernel) rfl) pa_nil))))))) (pss_one (ps_ret (pe_and (pe_callB (call_isiK (K := K) rfl) (by rfl) T.b_isinstance (by decide +kernel) (pa_cons (pv 0) (pa_cons (pe_bltn (v := .ty "int") (by rfl) T.b_int (by decide +kernel) rfl) pa_nil))) (pe_and (pe_callB (call_isiK (K := K) rfl) (by rfl) T.b_isinstance (by decide +kernel) (pa_cons (pv 1) (pa_cons (pe_bltn (v := .ty "int") (by rfl) T.b_int (by decide +kernel) rfl) pa_nil))) (pe_one (pe_cmpR op_eq (pv 0) (pv 1) (nomark _))))))) pss_nil)
  (pss_cons (ps_if (PW.pt (pw_or (pt_val (pe_callB (call_isiK (K := K) rfl) (by rfl) T.b_isinstance (by decide +kernel) (pa_cons (pv 0) (pa_cons (pe_bltn (v := .ty "str") (by rfl) T.b_str (by decide +kernel) rfl) pa_nil)))) (pw_or1 (pt_val (pe_callB (call_isiK (K := K) rfl) (by rfl) T.b_isinstance (by decide +kernel) (pa_cons (pv 1) (pa_cons (pe_bltn (v := .ty "str") (by rfl) T.b_str (by decide +kernel) rfl) pa_nil))))))) (pss_one (ps_ret (pe_and (pe_callB (call_isiK (K := K) rfl) (by rfl) T.b_isinstance (by decide +kernel) (pa_cons (pv 0) (pa_cons (pe_bltn (v := .ty "str") (by rfl) T.b_str (by decide +kernel) rfl) pa_nil))) (pe_and (pe_callB (call_isiK (K := K) rfl) (by rfl) T.b_isinstance (by decide +kernel) (pa_cons (pv 1) (pa_cons (pe_bltn (v := .ty "str") (by rfl) T.b_str (by decide +kernel) rfl) pa_nil))) (pe_one (pe_cmpR op_eq (pv 0) (pv 1) (nomark _))))))) pss_nil)
  (pss_cons (ps_if (PW.pt (pw_and (pt_val (pe_callB (call_isiK (K := K) rfl) (by rfl) T.b_isinstance (by decide +kernel) (pa_cons (pv 0) (pa_cons (pe_bltn (v := .ty "list") (by rfl) T.b_list (by decide +kernel) rfl) pa_nil)))) (pw_and1 (pt_not (pt_val (pe_callB (call_isiK (K := K) rfl) (by rfl) T.b_isinstance (by decide +kernel) (pa_cons (pv 1) (pa_cons (pe_bltn (v := .ty "list") (by rfl) T.b_list (by decide +kernel) rfl) pa_nil)))))))) (pss_one (ps_ret pe_bl)) pss_nil)
  (pss_cons (ps_if (PW.pt (pw_and (pt_val (pe_callB (call_isiK (K := K) rfl) (by rfl) T.b_isinstance (by decide +kernel) (pa_cons (pv 0) (pa_cons (pe_bltn (v := .ty "tuple") (by rfl) T.b_tuple (by decide +kernel) rfl) pa_nil)))) (pw_and1 (pt_not (pt_val (pe_callB (call_isiK (K := K) rfl) (by rfl) T.b_isinstance (by decide +kernel) (pa_cons (pv 1) (pa_cons (pe_bltn (v := .ty "tuple") (by rfl) T.b_tuple (by decide +kernel) rfl) pa_nil)))))))) (pss_one (ps_ret pe_bl)) pss_nil)
  (pss_cons (ps_if (PW.pt (pw_or (pt_not (pt_val (pe_callB (call_isiTK (K := K) rfl) (by rfl) T.b_isinstance (by decide +kernel) (pa_cons (pv 0) (pa_cons (pe_tup (pa_cons (pe_bltn (v := .ty "list") (by rfl) T.b_list (by decide +kernel) rfl) (pa_cons (pe_bltn (v := .ty "tuple") (by rfl) T.b_tuple (by decide +kernel) rfl) pa_nil))) pa_nil))))) (pw_or (pt_not (pt_val (pe_callB (call_isiTK (K := K) rfl) (by rfl) T.b_isinstance (by decide +kernel) (pa_cons (pv 1) (pa_cons (pe_tup (pa_cons (pe_bltn (v := .ty "list") (by rfl) T.b_list (by decide +kernel) rfl) (pa_cons (pe_bltn (v := .ty "tuple") (by rfl) T.b_tuple (by decide +kernel) rfl) pa_nil))) pa_nil))))) (pw_or1 (pt_cmpR op_ne (pe_callB (n_lenVK (K := K) rfl) (by rfl) T.b_len (by decide +kernel) (pa_cons (pv 0) pa_nil)) (pe_callB (n_lenVK (K := K) rfl) (by rfl) T.b_len (by decide +kernel) (pa_cons (pv 1) pa_nil)) (nomark _)))))) (pss_one (ps_ret pe_bl)) pss_nil)
  (pss_cons (ps_for PassesOwn.never rfl (pi_range1 (by rfl) T.b_range (pa_cons (pe_callB (n_lenVK (K := K) rfl) (by rfl) T.b_len (by decide +kernel) (pa_cons (pv 0) pa_nil)) pa_nil)) (pg_name (i := 2) sc_law_same.nd rfl (Or.inl rfl))
   (pss_one (ps_if (pt_not (pt_val (pe_call G_law_same hr (by rfl) D_law_same.m D_law_same.F.kp D_law_same.b .nil pass0 (pa_cons (pe_ix (ix_seqK (K := K) rfl) (pv 0) (pv 2) (fun _ _ => rfl)) (pa_cons (pe_ix (ix_seqK (K := K) rfl) (pv 1) (pv 2) (fun _ _ => rfl)) pa_nil))))) (pss_one (ps_ret pe_bl)) pss_nil)))
  (pss_one (ps_ret pe_bl)))))))))), ?_⟩
      cases hxy with
      | bl n b =>
        walk_at "my sts"
        rw [decide_eq_true rfl]
        exact k _ (Same.refl _)
      | int n i =>
        walk_at "my sts"
        rw [decide_eq_true rfl]
        exact k _ (Same.refl _)
      | str n i =>
        walk_at "my sts"
        rw [decide_eq_true rfl]
        exact k _ (Same.refl _)
      | non n =>
        walk_at "my sts"
        exact k _ (Same.refl _)
      | @lst m a b xs ys ha hb hl hz hall =>
        walk_at "my sts"
        refine tup_end (by decide) fun p H1 hp s1 t1 => ?_
        have a1 := s1 _ _ ha
        have b1 := s1 _ _ hb
        walk_at "my sts"
        refine tup_end (by decide) fun p2 H2 hp2 s2 t2 => ?_
        have a2 := s2 _ _ a1
        have b2 := s2 _ _ b1
        walk_at "my sts"
        refine iteNS (by rw [hl]) ?_
        walk_at "my sts"
        cases hsp m rfl
        refine fr1 (by omega) (by omega) (fun i σ' H' => Same H2 H' ∧ ∃ v, σ' = [some (.ref a), some (.ref b), v]) ⟨Same.refl _, none, rfl⟩ ?_ ?_
        · rintro i σ' H' hi ⟨s3, v, rfl⟩
          have hi1 : i < xs.length := by omega
          have hi2 : i < ys.length := by omega
          walk_at "my sts"
          refine i_ixAL (sqL (s3 _ _ a2)) (at_of rfl (List.getElem?_eq_getElem hi1)) ?_
          walk_at "my sts"
          refine i_ixAL (sqL (s3 _ _ b2)) (at_of rfl (List.getElem?_eq_getElem hi2)) ?_
          walk_at "my sts"
          refine ⟨_, _, rfl, (hall i _ _ (List.getElem?_eq_getElem hi1) (List.getElem?_eq_getElem hi2)).keep (s1.trans (s2.trans s3)), fun H4 s4 => ?_⟩
          walk_at "my sts"
          exact ⟨s3.trans s4, _, rfl⟩
        · rintro σ' H' ⟨s3, v, rfl⟩
          walk_at "my sts"
          exact k _ (s1.trans (s2.trans s3))
      | @tup m a b xs ys ha hb hl hz hall =>
        walk_at "my sts"
        refine tup_end (by decide) fun p H1 hp s1 t1 => ?_
        have a1 := rd_same s1 ha
        have b1 := rd_same s1 hb
        walk_at "my sts"
        refine tup_end (by decide) fun p2 H2 hp2 s2 t2 => ?_
        have a2 := rd_same s2 a1
        have b2 := rd_same s2 b1
        walk_at "my sts"
        refine iteNS (by rw [hl]) ?_
        walk_at "my sts"
        cases hsp m rfl
        refine fr1 (by omega) (by omega) (fun i σ' H' => Same H2 H' ∧ ∃ v, σ' = [some (.ref a), some (.ref b), v]) ⟨Same.refl _, none, rfl⟩ ?_ ?_
        · rintro i σ' H' hi ⟨s3, v, rfl⟩
          have hi1 : i < xs.length := by omega
          have hi2 : i < ys.length := by omega
          walk_at "my sts"
          refine i_ixAT (.inl (rd_same s3 a2)) (at_of rfl (List.getElem?_eq_getElem hi1)) ?_
          walk_at "my sts"
          refine i_ixAT (.inl (rd_same s3 b2)) (at_of rfl (List.getElem?_eq_getElem hi2)) ?_
          walk_at "my sts"
          refine ⟨_, _, rfl, (hall i _ _ (List.getElem?_eq_getElem hi1) (List.getElem?_eq_getElem hi2)).keep (s1.trans (s2.trans s3)), fun H4 s4 => ?_⟩
          walk_at "my sts"
          exact ⟨s3.trans s4, _, rfl⟩
        · rintro σ' H' ⟨s3, v, rfl⟩
          walk_at "my sts"
          exact k _ (s1.trans (s2.trans s3))
  intro n
  induction n with
  | zero => exact body 0 (fun _ _ _ _ => False) ⟨fun _ _ _ _ h => h.elim, fun _ _ _ _ _ _ _ _ _ _ _ _ _ h => h.elim⟩ fun m e => nomatch e
  | succ n ih => exact body (n + 1) _ ih fun m e => by cases e; rfl
theorem ok_law_same {f : Addr} {fd : FuncData} (T : Txt K mg) (D_law_same : Dn K mg "_law_same" s_law_same p_law_same f fd) : FnOk P w K mg base CX0 5 f fd p_law_same (sp_law_same K) := ok_law_same0 T D_law_same 4
theorem dec_strN {i j : Str} : decide (V.str i = V.str j) = decide (i = j) := decide_eq_decide.mpr ⟨V.str.inj, fun e => by rw [e]⟩
theorem sign_zero {c : Nat} : (⟨#[c]⟩ : Str) = "0" ↔ c = 48 := by
  have e : ("0" : Str) = ⟨#[48]⟩ := by decide +kernel
  rw [e]
  constructor
  · intro h
    injection h with h
    have := congrArg Array.toList h
    injection this
  · rintro rfl
    rfl
def sp_is_written_number (K : PySem.W.Frag) : Sp := fun vs H Q _ => ∃ (z : Str), vs = [.str z] ∧ z.length ≤ 100000 ∧ ∀ H', Same H H' → Q (.bl (numB z)) H'
theorem ok_is_written_number {f : Addr} {fd : FuncData}
    (T : Txt K mg) (D : Dn K mg "is_written_number" s_is_written_number p_is_written_number f fd) : FnOk P w K mg base CX0 1 f fd p_is_written_number (sp_is_written_number K) := by
  refine D.F.ok sc_is_written_number (fun vs H Q E h => ?_) (fun cdv A outer s' H vs Q E hr h => ?_)
  · obtain ⟨z, rfl, _⟩ := h
    rfl
  · obtain ⟨z, rfl, hz, k⟩ := h
    refine ⟨_, (pss_cons (ps_if (PW.pt (pw_or (pt_not (pt_chain op_le op_le pe_int (pe_callB n_lenZ (by rfl) T.b_len (by decide +kernel) (pa_cons (pv 0) pa_nil)) (pe_globE (by rfl) T.c_MOST_DIGITS))) (pw_or1 (pt_not (pt_val (pe_callB (cr_allK (K := K) rfl rfl) (by rfl) T.b_all (by decide +kernel) (pa_cons (pe_lc (own := [("sign", 1)]) rfl sc_is_written_number.nd (pi_str (pv 0)) (blkOk_by (own := [("sign", 1)]) (N := n_is_written_number) (sc := defScope s_is_written_number) (by decide +kernel)) (fun _ _ _ _ _ => (pg_name (i := 1) sc_is_written_number.nd rfl (Or.inl rfl))) (fun _ _ _ _ _ => pts_nil) (fun _ _ _ _ _ => (pe_cmpR n_inG (pv 1) pe_str rfl))) pa_nil))))))) (pss_one (ps_ret pe_bl)) pss_nil)
  (pss_one (ps_ret (pe_or (pe_cmpR op_eq (pv 0) pe_str (nomark _)) (pe_one (pe_cmpR op_ne (pe_ix ix_str (pv 0) pe_int (fun _ _ => rfl)) pe_str (nomark _))))))), ?_⟩
    have e09 : ("0123456789" : Str).cps.toList = N09 := by decide +kernel
    walk_at "my sts"
    refine i_ite (fun h1 => ?_) fun h1 => ?_
    · have h1 : 1 ≤ z.length := by
        have := of_decide_eq_true h1
        omega
      walk_at "my sts"
      refine i_ite (fun h2 => ?_) fun h2 => ?_
      · have h2 := of_decide_eq_false (nbT h2)
        have k := k H (Same.refl _)
        rw [show numB z = false by unfold numB; rw [decide_eq_false (show ¬ z.length ≤ 4 by omega), Bool.false_and, Bool.and_false]] at k
        walk_at "my sts"
        exact k
      · have h2 : z.length ≤ 4 := by
          have := of_decide_eq_true (nbF h2)
          omega
        walk_at "my sts"
        refine cs (fun Dl i H' => Same H H' ∧ H' Dl = some (.lst (((z.cps.toList.take i).map fun c => decide (c ∈ N09)).map V.bl))) (fun Dl hD => ⟨same_new hD, upd_same⟩) ?_ ?_
        · rintro Dl i c H' hD hc' ⟨sm, hd⟩
          refine ⟨rfl, ?_⟩
          walk_at "my sts"
          refine ⟨_, hd, ?_, same_mut sm hD, ?_⟩
          · rw [List.length_map, List.length_map, List.length_take]
            exact Nat.lt_of_le_of_lt (m := 4) (by rw [Array.length_toList]; exact Nat.le_trans (Nat.min_le_right _ _) h2) (by decide)
          · rw [upd_same, take_map _ (of_arr hc'), List.map_append, e09]
            rfl
        · rintro Dl H' hD ⟨sm, hd⟩
          walk_at "my sts"
          rw [← Array.length_toList, take_all] at hd
          refine i_all (sqL hd) ?_
          have ea : (z.cps.toList.map fun c => decide (c ∈ N09)).all id = z.cps.toList.all fun c => decide (c ∈ N09) := by
            rw [List.all_map]
            rfl
          rw [ea]
          walk_at "my sts"
          have k := k H' sm
          unfold numB at k
          rw [decide_eq_true h1, decide_eq_true h2, Bool.true_and, Bool.true_and] at k
          refine i_ite (fun c => ?_) fun c => ?_
          · rw [nbT c, Bool.false_and] at k
            walk_at "my sts"
            exact k
          · rw [nbF c, Bool.true_and] at k
            obtain ⟨c0, hc0, _⟩ := first_of h1
            walk_at "my sts"
            rw [dec_strN]
            refine i_ite (fun d => ?_) fun d => ?_
            · rw [d, Bool.true_or] at k
              exact k
            · rw [d, Bool.false_or] at k
              walk_at "my sts"
              refine i_ixS (Nat.le_trans hz (by decide)) (atI_nat (j := 0) hc0) ?_
              walk_at "my sts"
              have e2 : decide (V.str (⟨#[c0]⟩ : Str) = V.str "0") = decide (z.cps.toList[0]? = some 48) := decide_eq_decide.mpr ⟨fun h => by rw [hc0, sign_zero.mp (V.str.inj h)], fun h => by rw [hc0] at h; rw [sign_zero.mpr (Option.some.inj h)]⟩
              rw [e2]
              exact k
    · have h1 := of_decide_eq_false h1
      have k := k H (Same.refl _)
      rw [show numB z = false by unfold numB; rw [decide_eq_false (show ¬ 1 ≤ z.length by omega), Bool.false_and]] at k
      walk_at "my sts"
      exact k
theorem dec_nk (n k : Nat) : decide (V.int (n : Int) = V.int (k : Int)) = decide (n = k) := by
  rw [dec_int2, decide_eq_decide]
  omega
theorem dec_posN (n : Nat) : decide ((0 : Int) < (n : Int)) = !decide (n = 0) := by
  by_cases h : n = 0
  · subst h; rfl
  · rw [decide_eq_false h, decide_eq_true (show (0 : Int) < n by omega)]
    rfl
/-- a right folk line behind what was read -/
def flB (ws : List Str) (fs : List (Str × Int)) (us : List (Str × Str × Int)) : Bool := decide (ws.length = 3) && (decide (nth ws 0 = "folk") && (decide (us.length = 0) && (nameB (nth ws 1) && (numB (nth ws 2) && (decide (fs.length < 10) && !decide (nth ws 1 ∈ fs.map (·.1)))))))
def sp_is_folk_line (K : PySem.W.Frag) : Sp := fun vs H Q _ => ∃ (p q r : Addr) (ys xs : List V) (ws : List Str) (fs : List (Str × Int)) (us : List (Str × Str × Int)), vs = [.ref p, .ref q, .ref r] ∧ H p = some (.lst (ws.map V.str)) ∧ H q = some (.lst ys) ∧ Rows H ys (fs.map frow) ∧ H r = some (.lst xs) ∧ Rows H xs (us.map trow) ∧ fs.length ≤ 1000 ∧ (∀ w ∈ ws, w.length ≤ 100000) ∧ ∀ H', Same H H' → Q (.bl (flB ws fs us)) H'
theorem ok_is_folk_line {f : Addr} {fd : FuncData}
    {f_is_name : Addr} {fd_is_name : FuncData} (D_is_name : Dn K mg "is_name" s_is_name p_is_name f_is_name fd_is_name) (G_is_name : FnOk P w K mg base CX0 1 f_is_name fd_is_name p_is_name (sp_is_name K))
    {f_is_written_number : Addr} {fd_is_written_number : FuncData} (D_is_written_number : Dn K mg "is_written_number" s_is_written_number p_is_written_number f_is_written_number fd_is_written_number) (G_is_written_number : FnOk P w K mg base CX0 1 f_is_written_number fd_is_written_number p_is_written_number (sp_is_written_number K))
    (T : Txt K mg) (D : Dn K mg "_is_folk_line" s_is_folk_line p_is_folk_line f fd) : FnOk P w K mg base CX0 2 f fd p_is_folk_line (sp_is_folk_line K) := by
  refine D.F.ok sc_is_folk_line (fun vs H Q E h => ?_) (fun cdv A outer s' H vs Q E hr h => ?_)
  · obtain ⟨_, _, _, _, _, _, _, _, rfl, _⟩ := h
    rfl
  · obtain ⟨p, q, r, ys, xs, ws, fs, us, rfl, hp, hq, rq, hr1, rr, lf, lw, k⟩ := h
    have ly := rq.len
    have lx := rr.len
    rw [List.length_map] at ly lx
    refine ⟨_, (pss_cons (ps_if (PW.pt (pw_or (pt_cmpR op_ne (pe_callB (n_lenQK (K := K) rfl) (by rfl) T.b_len (by decide +kernel) (pa_cons (pv 0) pa_nil)) pe_int (nomark _)) (pw_or (pt_cmpR op_ne (pe_ix (ix_listK (K := K) rfl) (pv 0) pe_int (fun _ _ => rfl)) pe_str (nomark _)) (pw_or1 (pt_cmpR op_gt (pe_callB (n_lenQK (K := K) rfl) (by rfl) T.b_len (by decide +kernel) (pa_cons (pv 2) pa_nil)) pe_int (nomark _)))))) (pss_one (ps_ret pe_bl)) pss_nil)
  (pss_cons (ps_if (PW.pt (pw_or (pt_not (pt_val (pe_call G_is_name (hr.mono (by omega)) (by rfl) D_is_name.m D_is_name.F.kp D_is_name.b .nil pass0 (pa_cons (pe_ix (ix_listK (K := K) rfl) (pv 0) pe_int (fun _ _ => rfl)) pa_nil)))) (pw_or1 (pt_not (pt_val (pe_call G_is_written_number (hr.mono (by omega)) (by rfl) D_is_written_number.m D_is_written_number.F.kp D_is_written_number.b .nil pass0 (pa_cons (pe_ix (ix_listK (K := K) rfl) (pv 0) pe_int (fun _ _ => rfl)) pa_nil))))))) (pss_one (ps_ret pe_bl)) pss_nil)
  (pss_one (ps_ret (pe_and (pe_cmpR op_lt (pe_callB (n_lenQK (K := K) rfl) (by rfl) T.b_len (by decide +kernel) (pa_cons (pv 1) pa_nil)) (pe_globE (by rfl) T.c_MOST_FOLK) (nomark _)) (pe_one (pe_cmpR (op_notIn_seqK (K := K) rfl) (pe_ix (ix_listK (K := K) rfl) (pv 0) pe_int (fun _ _ => rfl)) (pe_lc (own := [("row", 3)]) rfl sc_is_folk_line.nd (pi_list (pv 1)) (blkOk_by (own := [("row", 3)]) (N := n_is_folk_line) (sc := defScope s_is_folk_line) (by decide +kernel)) (fun _ _ _ _ _ => (pg_name (i := 3) sc_is_folk_line.nd rfl (Or.inl rfl))) (fun _ _ _ _ _ => pts_nil) (fun _ _ _ _ _ => (pe_ix (ix_tupK (K := K) rfl) (pv 3) pe_int (fun _ _ => rfl)))) (by rfl)))))))), ?_⟩
    walk_at "my sts"
    rw [List.length_map]
    unfold flB at k
    rw [show decide (V.int ((ws.length : Nat) : Int) = V.int 3) = decide (ws.length = 3) from dec_nk _ 3]
    refine i_ite (fun c => ?_) fun c => ?_
    · rw [nbT c, Bool.false_and] at k
      walk_at "my sts"
      exact k H (Same.refl _)
    have l3 : ws.length = 3 := of_decide_eq_true (nbF c)
    rw [nbF c, Bool.true_and] at k
    walk_at "my sts"
    refine i_ixL (sqL hp) (at_nth (i := 0) (by omega)) ?_
    walk_at "my sts"
    rw [dec_strN]
    refine i_ite (fun c => ?_) fun c => ?_
    · rw [nbT c, Bool.false_and] at k
      walk_at "my sts"
      exact k H (Same.refl _)
    rw [nbF c, Bool.true_and] at k
    walk_at "my sts"
    rw [dec_posN, lx]
    refine i_ite (fun c => ?_) fun c => ?_
    · rw [nbT c, Bool.false_and] at k
      walk_at "my sts"
      exact k H (Same.refl _)
    rw [nbF c, Bool.true_and] at k
    walk_at "my sts"
    refine i_ixL (sqL hp) (at_nth (i := 1) (by omega)) ?_
    walk_at "my sts"
    refine ⟨nth ws 1, rfl, lw _ (nth_mem (by omega)), fun H1 s1 => ?_⟩
    have hp1 := s1 _ _ hp
    walk_at "my sts"
    refine i_ite (fun c => ?_) fun c => ?_
    · rw [nbT c, Bool.false_and] at k
      walk_at "my sts"
      exact k H1 s1
    rw [nbF c, Bool.true_and] at k
    walk_at "my sts"
    refine i_ixL (sqL hp1) (at_nth (i := 2) (by omega)) ?_
    walk_at "my sts"
    refine ⟨nth ws 2, rfl, by have := lw _ (nth_mem (show 2 < ws.length by omega)); omega, fun H2 s2 => ?_⟩
    have s12 := s1.trans s2
    have hp2 := s12 _ _ hp
    have hq2 := s12 _ _ hq
    have rq2 := rq.keep (Tk.same s12)
    walk_at "my sts"
    refine i_ite (fun c => ?_) fun c => ?_
    · rw [nbT c, Bool.false_and] at k
      walk_at "my sts"
      exact k H2 s12
    rw [nbF c, Bool.true_and] at k
    walk_at "my sts"
    rw [show decide (((ys.length : Nat) : Int) < 10) = decide (fs.length < 10) from decide_eq_decide.mpr (by omega)]
    refine i_ite (fun c => ?_) fun c => ?_
    · rw [c, Bool.true_and] at k
      walk_at "my sts"
      refine i_ixL (sqL hp2) (at_nth (i := 1) (by omega)) ?_
      walk_at "my sts"
      refine cl (xs := ys) (sqL hq2) (fun D i H' => Same H2 H' ∧ H' D = some (.lst (((fs.take i).map (·.1)).map V.str))) (fun D hD => ⟨same_new hD, upd_same⟩) (fun D i H' _ _ g => sqL (g.1 _ _ hq2)) ?_ ?_
      · rintro D i v H3 hD hv ⟨s3, h3⟩
        obtain ⟨t, d, rfl, hd, ht⟩ := (rq2.keep (Tk.same s3)).get hv
        rw [List.getElem?_map] at hd
        obtain ⟨f, hf, rfl⟩ := Option.map_eq_some_iff.mp hd
        refine ⟨rfl, ?_⟩
        walk_at "my sts"
        refine ⟨_, h3, Nat.lt_of_le_of_lt (show _ ≤ 1000 by rw [List.length_map, List.length_map, List.length_take]; omega) (by decide), same_mut s3 hD, ?_⟩
        rw [upd_same, take_map _ hf, List.map_append]
        rfl
      · rintro D H3 hD ⟨s3, h3⟩
        rw [ly, List.take_length] at h3
        walk_at "my sts"
        refine i_notInStr (sqL h3) ?_
        exact k H3 (s12.trans s3)
    · rw [c, Bool.false_and] at k
      walk_at "my sts"
      exact k H2 s12
theorem slT_two {K : PySem.W.Frag} {H : Hp} {Q : VK} {p : Addr} {a b c : V} (h : H p = some (.tup [a, b, c])) (k : ∀ l H', H l = none → Same H H' → H' l = some (.tup [a, b]) → Q (.ref l) H') : rSlT K (.ref p) none (some 2) H Q :=
  ⟨p, _, rfl, sqT h, (show ¬ (HT.sIx 3 0 none = 0 ∧ HT.sIx 3 3 (some 2) = 3) by decide), fun l hl => k l _ hl (same_new hl) upd_same⟩
def qD (w : List Str) : PyData := .tuple (w.map .str)
theorem dpStrs {K : PySem.W.Frag} {H : Hp} : ∀ w : List Str, DpAll K H (w.map V.str) (w.map PyData.str)
  | [] => .nil
  | z :: w => .cons (.str z) (dpStrs w)
theorem Rows.wd {K : PySem.W.Frag} {H : Hp} : ∀ {xs : List V} {ws : List (List Str)}, Rows H xs (ws.map fun w => w.map V.str) → DpAll K H xs (ws.map qD)
  | [], [], _ => .nil
  | [], _ :: _, h => by cases h
  | _ :: _, [], h => by cases h
  | x :: xs, w :: ws, h => by
    unfold Rows at h
    rw [List.map_cons, List.map_cons, List.map_cons] at h
    injection h with h1 h2
    obtain ⟨t, rfl, ht⟩ := dec_some h1
    exact .cons (.tup (sqT ht) (dpStrs w)) (Rows.wd h2)
theorem strs_lay : ∀ {w : List Str}, (∀ z ∈ w, PyData.strOk z = true) → PyData.canLayAll0 (w.map PyData.str) = true
  | [], _ => by simp [PyData.canLayAll0]
  | z :: w, h => by
    have ih := strs_lay fun q hq => h q (List.mem_cons_of_mem _ hq)
    simp [PyData.canLayAll0, PyData.canLay0, ih, h z List.mem_cons_self]
theorem strs_depth : ∀ w : List Str, PyData.depthAll (w.map PyData.str) ≤ 0
  | [] => by simp [PyData.depthAll]
  | z :: w => by
    have ih := strs_depth w
    simp only [List.map_cons, PyData.depthAll, PyData.depth]
    omega
theorem wD_shaped {w : List Str} (h : ∀ z ∈ w, PyData.strOk z = true) : SeqAt.shaped (qD w) = true := by
  have h1 := strs_lay h
  have h2 := strs_depth w
  show (PyData.canLay0 (.tuple (w.map PyData.str)) && decide (PyData.depth (.tuple (w.map PyData.str)) ≤ 64)) = true
  rw [Bool.and_eq_true]
  refine ⟨by simp only [PyData.canLay0]; exact h1, decide_eq_true ?_⟩
  simp only [PyData.depth]
  omega
theorem wDs_lay : ∀ {ws : List (List Str)}, (∀ w ∈ ws, ∀ z ∈ w, PyData.strOk z = true) → PyData.canLayAll0 (ws.map qD) = true
  | [], _ => by simp [PyData.canLayAll0]
  | w :: ws, h => by
    have ih := wDs_lay fun q hq => h q (List.mem_cons_of_mem _ hq)
    have hw := strs_lay (h w List.mem_cons_self)
    simp [PyData.canLayAll0, ih, qD, PyData.canLay0, hw]
theorem wDs_depth : ∀ ws : List (List Str), PyData.depthAll (ws.map qD) ≤ 1
  | [] => by simp [PyData.depthAll]
  | w :: ws => by
    have ih := wDs_depth ws
    have h2 := strs_depth w
    simp only [List.map_cons, PyData.depthAll, qD, PyData.depth]
    omega
theorem wDs_shaped {ws : List (List Str)} (h : ∀ w ∈ ws, ∀ z ∈ w, PyData.strOk z = true) : SeqAt.shaped (.list (ws.map qD)) = true := by
  have h1 := wDs_lay h
  have h2 := wDs_depth ws
  show (PyData.canLay0 (.list (ws.map qD)) && decide (PyData.depth (.list (ws.map qD)) ≤ 64)) = true
  rw [Bool.and_eq_true]
  refine ⟨by simp only [PyData.canLay0]; exact h1, decide_eq_true ?_⟩
  simp only [PyData.depth]
  omega
theorem eqv_strs : ∀ a b : List Str, PyData.eqvAll (a.map PyData.str) (b.map PyData.str) = decide (a = b)
  | [], [] => by simp [PyData.eqvAll]
  | [], _ :: _ => by simp [PyData.eqvAll]
  | _ :: _, [] => by simp [PyData.eqvAll]
  | x :: a, y :: b => by
    have ih := eqv_strs a b
    simp only [List.map_cons, PyData.eqvAll, PyData.eqv, ih]
    by_cases h1 : x = y <;> by_cases h2 : a = b <;> simp [h1, h2]
theorem wD_eqv (a b : List Str) : PyData.eqv (qD a) (qD b) = decide (a = b) := by
  unfold qD
  simp only [PyData.eqv]
  exact eqv_strs a b
theorem any_wd (a : List Str) : ∀ ws : List (List Str), ((ws.map qD).any fun z => PyData.eqv z (qD a)) = decide (a ∈ ws)
  | [] => by simp
  | w :: ws => by
    have ih := any_wd a ws
    rw [List.map_cons, List.any_cons, ih, wD_eqv]
    by_cases h1 : w = a
    · simp [h1]
    · have : ¬ a = w := fun e => h1 e.symm
      simp [h1, this]
/-- a right watch line behind what was read -/
def wlB (ws : List Str) (fs : List (Str × Int)) (us : List (Str × Str × Int)) : Bool := decide (ws.length = 4) && (decide (nth ws 0 = "watch") && (decide (us.length < 24) && (decide (nth ws 1 ∈ fs.map (·.1)) && (decide (nth ws 2 ∈ fs.map (·.1)) && (!decide (nth ws 1 = nth ws 2) && (numB (nth ws 3) && (!decide (nth ws 3 = "0") && !decide ([nth ws 1, nth ws 2] ∈ us.map fun t => [t.1, t.2.1]))))))))
theorem i_notInWD {K : PySem.W.Frag} {H : Hp} {Q : VK} {q t : Addr} {ys : List V} {us : List (List Str)} {w : List Str} (ht : SqT K H t (w.map V.str)) (hq : SqL K H q ys) (ry : Rows H ys (us.map fun w => w.map V.str)) (o1 : ∀ z ∈ w, PyData.strOk z = true) (o2 : ∀ w ∈ us, ∀ z ∈ w, PyData.strOk z = true) (k : Q (.bl (!decide (w ∈ us))) H) : rNotInD K (.ref t) (.ref q) H Q := by
  refine ⟨qD w, us.map qD, .tup ht (dpStrs w), .lst hq ry.wd, wD_shaped o1, wDs_shaped o2, ?_⟩
  rw [any_wd]
  exact k
def sp_is_watch_line (K : PySem.W.Frag) : Sp := fun vs H Q _ => ∃ (p q r : Addr) (ys xs : List V) (ws : List Str) (fs : List (Str × Int)) (us : List (Str × Str × Int)), vs = [.ref p, .ref q, .ref r] ∧ H p = some (.lst (ws.map V.str)) ∧ H q = some (.lst ys) ∧ Rows H ys (fs.map frow) ∧ H r = some (.lst xs) ∧ Rows H xs (us.map trow) ∧ fs.length ≤ 1000 ∧ us.length ≤ 1000 ∧ (∀ w ∈ ws, w.length ≤ 100000) ∧ (∀ f ∈ fs, nameB f.1 = true) ∧ (∀ t ∈ us, nameB t.1 = true ∧ nameB t.2.1 = true) ∧ ∀ H', Same H H' → Q (.bl (wlB ws fs us)) H'
theorem ok_is_watch_line {f : Addr} {fd : FuncData}
    {f_is_written_number : Addr} {fd_is_written_number : FuncData} (D_is_written_number : Dn K mg "is_written_number" s_is_written_number p_is_written_number f_is_written_number fd_is_written_number) (G_is_written_number : FnOk P w K mg base CX0 1 f_is_written_number fd_is_written_number p_is_written_number (sp_is_written_number K))
    (T : Txt K mg) (D : Dn K mg "_is_watch_line" s_is_watch_line p_is_watch_line f fd) : FnOk P w K mg base CX0 2 f fd p_is_watch_line (sp_is_watch_line K) := by
  refine D.F.ok sc_is_watch_line (fun vs H Q E h => ?_) (fun cdv A outer s' H vs Q E hr h => ?_)
  · obtain ⟨_, _, _, _, _, _, _, _, rfl, _⟩ := h
    rfl
  · obtain ⟨p, q, r, ys, xs, ws, fs, us, rfl, hp, hq, rq, hr1, rr, lf, lu, lw, nf, nu, k⟩ := h
    have ly := rq.len
    have lx := rr.len
    rw [List.length_map] at ly lx
    refine ⟨_, (pss_cons (ps_if (PW.pt (pw_or (pt_cmpR op_ne (pe_callB (n_lenQK (K := K) rfl) (by rfl) T.b_len (by decide +kernel) (pa_cons (pv 0) pa_nil)) pe_int (nomark _)) (pw_or (pt_cmpR op_ne (pe_ix (ix_listK (K := K) rfl) (pv 0) pe_int (fun _ _ => rfl)) pe_str (nomark _)) (pw_or1 (pt_cmpR op_ge (pe_callB (n_lenQK (K := K) rfl) (by rfl) T.b_len (by decide +kernel) (pa_cons (pv 2) pa_nil)) (pe_globE (by rfl) T.c_MOST_WATCHES) (nomark _)))))) (pss_one (ps_ret pe_bl)) pss_nil)
  (pss_cons (ps_setLc (i := 3) (own := [("row", 4)]) rfl sc_is_watch_line.nd rfl rfl (sw_true rfl rfl rfl (by decide +kernel)) (pi_list (pv 1)) (blkOk_by (own := [("row", 4)]) (N := n_is_watch_line) (sc := defScope s_is_watch_line) (by decide +kernel)) (fun _ _ _ _ _ => (pg_name (i := 4) sc_is_watch_line.nd rfl (Or.inl rfl))) (fun _ _ _ _ _ => pts_nil) (fun _ _ _ _ _ => (pe_ix (ix_tupK (K := K) rfl) (pv 4) pe_int (fun _ _ => rfl))))
  (pss_cons (ps_if (PW.pt (pw_or (pt_cmpR (op_notIn_seqK (K := K) rfl) (pe_ix (ix_listK (K := K) rfl) (pv 0) pe_int (fun _ _ => rfl)) (pv 3) (by rfl)) (pw_or (pt_cmpR (op_notIn_seqK (K := K) rfl) (pe_ix (ix_listK (K := K) rfl) (pv 0) pe_int (fun _ _ => rfl)) (pv 3) (by rfl)) (pw_or1 (pt_cmpR op_eq (pe_ix (ix_listK (K := K) rfl) (pv 0) pe_int (fun _ _ => rfl)) (pe_ix (ix_listK (K := K) rfl) (pv 0) pe_int (fun _ _ => rfl)) (nomark _)))))) (pss_one (ps_ret pe_bl)) pss_nil)
  (pss_cons (ps_if (PW.pt (pw_or (pt_not (pt_val (pe_call G_is_written_number (hr.mono (by omega)) (by rfl) D_is_written_number.m D_is_written_number.F.kp D_is_written_number.b .nil pass0 (pa_cons (pe_ix (ix_listK (K := K) rfl) (pv 0) pe_int (fun _ _ => rfl)) pa_nil)))) (pw_or1 (pt_cmpR op_eq (pe_ix (ix_listK (K := K) rfl) (pv 0) pe_int (fun _ _ => rfl)) pe_str (nomark _))))) (pss_one (ps_ret pe_bl)) pss_nil)
  (pss_one (ps_ret (pe_cmpR (op_notInDK (K := K) rfl (hu65 hr)) (pe_tup (pa_cons (pe_ix (ix_listK (K := K) rfl) (pv 0) pe_int (fun _ _ => rfl)) (pa_cons (pe_ix (ix_listK (K := K) rfl) (pv 0) pe_int (fun _ _ => rfl)) pa_nil))) (pe_lc (own := [("row", 4)]) rfl sc_is_watch_line.nd (pi_list (pv 2)) (blkOk_by (own := [("row", 4)]) (N := n_is_watch_line) (sc := defScope s_is_watch_line) (by decide +kernel)) (fun _ _ _ _ _ => (pg_name (i := 4) sc_is_watch_line.nd rfl (Or.inl rfl))) (fun _ _ _ _ _ => pts_nil) (fun _ _ _ _ _ => (pe_slice (sl_tupK (K := K) rfl) (pv 4) po_none (po_some pe_int)))) (by rfl)))))))), ?_⟩
    walk_at "my sts"
    rw [List.length_map]
    unfold wlB at k
    rw [show decide (V.int ((ws.length : Nat) : Int) = V.int 4) = decide (ws.length = 4) from dec_nk _ 4]
    refine i_ite (fun c => ?_) fun c => ?_
    · rw [nbT c, Bool.false_and] at k
      walk_at "my sts"
      exact k H (Same.refl _)
    have l4 : ws.length = 4 := of_decide_eq_true (nbF c)
    rw [nbF c, Bool.true_and] at k
    walk_at "my sts"
    refine i_ixL (sqL hp) (at_nth (i := 0) (by omega)) ?_
    walk_at "my sts"
    rw [dec_strN]
    refine i_ite (fun c => ?_) fun c => ?_
    · rw [nbT c, Bool.false_and] at k
      walk_at "my sts"
      exact k H (Same.refl _)
    rw [nbF c, Bool.true_and] at k
    walk_at "my sts"
    rw [show decide ((24 : Int) ≤ ((xs.length : Nat) : Int)) = !decide (us.length < 24) from by
      by_cases e : us.length < 24
      · rw [decide_eq_true e, decide_eq_false (by omega)]; rfl
      · rw [decide_eq_false e, decide_eq_true (by omega)]; rfl]
    refine i_ite (fun c => ?_) fun c => ?_
    · rw [nbT c, Bool.false_and] at k
      walk_at "my sts"
      exact k H (Same.refl _)
    rw [nbF c, Bool.true_and] at k
    walk_at "my sts"
    refine cl (xs := ys) (sqL hq) (fun D i H' => Same H H' ∧ H' D = some (.lst (((fs.take i).map (·.1)).map V.str))) (fun D hD => ⟨same_new hD, upd_same⟩) (fun D i H' _ _ g => sqL (g.1 _ _ hq)) ?_ ?_
    · rintro D i v H3 hD hv ⟨s3, h3⟩
      obtain ⟨t, d, rfl, hd, ht⟩ := (rq.keep (Tk.same s3)).get hv
      rw [List.getElem?_map] at hd
      obtain ⟨f, hf, rfl⟩ := Option.map_eq_some_iff.mp hd
      refine ⟨rfl, ?_⟩
      walk_at "my sts"
      refine ⟨_, h3, Nat.lt_of_le_of_lt (show _ ≤ 1000 by rw [List.length_map, List.length_map, List.length_take]; omega) (by decide), same_mut s3 hD, ?_⟩
      rw [upd_same, take_map _ hf, List.map_append]
      rfl
    rintro N H1 hN ⟨s1, h1⟩
    rw [ly, List.take_length] at h1
    have hp1 := s1 _ _ hp
    have hr11 := s1 _ _ hr1
    have rr1 := rr.keep (Tk.same s1)
    have nmN : ∀ a ∈ fs.map (·.1), nameB a = true := fun a ha => by
      obtain ⟨f, hf, rfl⟩ := List.mem_map.mp ha
      exact nf f hf
    walk_at "my sts"
    refine i_ixL (sqL hp1) (at_nth (i := 1) (by omega)) ?_
    walk_at "my sts"
    refine i_notInStr (sqL h1) ?_
    walk_at "my sts"
    refine i_ite (fun c => ?_) fun c => ?_
    · rw [nbT c, Bool.false_and] at k
      walk_at "my sts"
      exact k H1 s1
    have m1 : nth ws 1 ∈ fs.map (·.1) := of_decide_eq_true (nbF c)
    rw [nbF c, Bool.true_and] at k
    walk_at "my sts"
    refine i_ixL (sqL hp1) (at_nth (i := 2) (by omega)) ?_
    walk_at "my sts"
    refine i_notInStr (sqL h1) ?_
    walk_at "my sts"
    refine i_ite (fun c => ?_) fun c => ?_
    · rw [nbT c, Bool.false_and] at k
      walk_at "my sts"
      exact k H1 s1
    have m2 : nth ws 2 ∈ fs.map (·.1) := of_decide_eq_true (nbF c)
    rw [nbF c, Bool.true_and] at k
    walk_at "my sts"
    refine i_ixL (sqL hp1) (at_nth (i := 1) (by omega)) ?_
    walk_at "my sts"
    refine i_ixL (sqL hp1) (at_nth (i := 2) (by omega)) ?_
    walk_at "my sts"
    rw [dec_strN]
    refine i_ite (fun c => ?_) fun c => ?_
    · rw [c, Bool.not_true, Bool.false_and] at k
      walk_at "my sts"
      exact k H1 s1
    rw [c, Bool.not_false, Bool.true_and] at k
    walk_at "my sts"
    refine i_ixL (sqL hp1) (at_nth (i := 3) (by omega)) ?_
    walk_at "my sts"
    refine ⟨nth ws 3, rfl, by have := lw _ (nth_mem (show 3 < ws.length by omega)); omega, fun H2 s2 => ?_⟩
    have s12 := s1.trans s2
    have hp2 := s2 _ _ hp1
    have hr2 := s2 _ _ hr11
    have rr2 := rr1.keep (Tk.same s2)
    walk_at "my sts"
    refine i_ite (fun c => ?_) fun c => ?_
    · rw [nbT c, Bool.false_and] at k
      walk_at "my sts"
      exact k H2 s12
    rw [nbF c, Bool.true_and] at k
    walk_at "my sts"
    refine i_ixL (sqL hp2) (at_nth (i := 3) (by omega)) ?_
    walk_at "my sts"
    rw [dec_strN]
    refine i_ite (fun c => ?_) fun c => ?_
    · rw [c, Bool.not_true, Bool.false_and] at k
      walk_at "my sts"
      exact k H2 s12
    rw [c, Bool.not_false, Bool.true_and] at k
    walk_at "my sts"
    refine i_ixL (sqL hp2) (at_nth (i := 1) (by omega)) ?_
    walk_at "my sts"
    refine i_ixL (sqL hp2) (at_nth (i := 2) (by omega)) ?_
    walk_at "my sts"
    refine tup_end (show 2 ≤ 100000 by decide) fun tw H3 htw s3 h3 => ?_
    have hr3 := s3 _ _ hr2
    have rr3 := rr2.keep (Tk.same s3)
    walk_at "my sts"
    refine cl (xs := xs) (sqL hr3) (fun D i H' => Same H3 H' ∧ ∃ acc, H' D = some (.lst acc) ∧ Rows H' acc (((us.take i).map fun t => [t.1, t.2.1]).map fun w => w.map V.str)) (fun D hD => ⟨same_new hD, [], upd_same, Rows.nil⟩) (fun D i H' _ _ g => sqL (g.1 _ _ hr3)) ?_ ?_
    · rintro D i v H4 hD hv ⟨s4, acc, hacc, racc⟩
      obtain ⟨t, d, rfl, hd, ht⟩ := (rr3.keep (Tk.same s4)).get hv
      rw [List.getElem?_map] at hd
      obtain ⟨u, hu, rfl⟩ := Option.map_eq_some_iff.mp hd
      have lacc := racc.len
      rw [List.length_map, List.length_map, List.length_take] at lacc
      refine ⟨rfl, ?_⟩
      walk_at "my sts"
      refine slT_two ht fun t1 H5 ht1 s5 h5 => ?_
      have h5a := s5 _ _ hacc
      refine ⟨acc, h5a, Nat.lt_of_le_of_lt (show acc.length ≤ 1000 by omega) (by decide), same_mut (s4.trans s5) hD, _, upd_same, ?_⟩
      rw [take_map _ hu, List.map_append]
      exact ((racc.keep (Tk.same s5)).keep (Tk.lst h5a)).app (Rows.one (Tk.lst h5a _ _ h5))
    · rintro D H4 hD ⟨s4, acc, hacc, racc⟩
      rw [lx, List.take_length] at racc
      walk_at "my sts"
      refine i_notInWD (w := [nth ws 1, nth ws 2]) (sqT (s4 _ _ h3)) (sqL hacc) racc ?_ ?_ ?_
      · intro z hz
        rcases List.mem_cons.mp hz with rfl | hz
        · exact strOk_name (nmN _ m1)
        · rw [List.mem_singleton.mp hz]
          exact strOk_name (nmN _ m2)
      · intro w hw z hz
        obtain ⟨t, ht, rfl⟩ := List.mem_map.mp hw
        rcases List.mem_cons.mp hz with rfl | hz
        · exact strOk_name (nu t ht).1
        · rw [List.mem_singleton.mp hz]
          exact strOk_name (nu t ht).2
      · exact k H4 (s12.trans (s3.trans s4))
def sp_BadText__init (K : PySem.W.Frag) : Sp := spInit1 "line" K
theorem ok_BadText__init {f : Addr} {fd : FuncData}
    {f_plain : Addr} {fd_plain : FuncData} (D_plain : Dn K mg "plain" s_plain p_plain f_plain fd_plain) (G_plain : FnOk P w K mg base CX0 2 f_plain fd_plain p_plain (sp_plain K))
    (T : Txt K mg) (D : Dm K "__init__" "BadText.__init__" s_BadText__init p_BadText__init f fd) : FnOk P w K mg base CX0 3 f fd p_BadText__init (sp_BadText__init K) := by
  refine D.F.ok sc_BadText__init (fun vs H Q E h => ?_) (fun cdv A outer s' H vs Q E hr h => ?_)
  · obtain ⟨a, C, v, rfl, _⟩ := h
    rfl
  · obtain ⟨a, C, v, rfl, hC, hno, ha, hv, k⟩ := h
    refine ⟨_, (pss_one (ps_ostK (K := K) rfl (pv 0) (pe_call G_plain (hr.mono (by omega)) (by rfl) D_plain.m D_plain.F.kp D_plain.b .nil pass0 (pa_cons (pv 1) pa_nil)))), ?_⟩
    refine i_ost ?_
    walk_at "my sts"
    refine ⟨v, rfl, hv, fun v' H1 pt s1 => ?_⟩
    walk_at "my sts"
    refine ost_first hC hno (s1 _ _ ha) fun dx hdx na => ?_
    refine k v' dx _ (s1.free hdx) upd_same (by rw [upd_ne na]; exact upd_same) ?_ fun b o nb hb => ?_
    · rcases pt with pt | ⟨p, xs, q, e, hp, e', hq⟩
      · exact .inl pt
      · refine .inr ⟨p, xs, q, e, hp, e', ?_⟩
        rw [upd_ne (at_ne (s1 _ _ ha) hq exo_tup), upd_ne (ne_of_none hq hdx)]
        exact hq
    · rw [upd_ne nb, upd_ne (ne_of_none (s1 _ _ hb) hdx)]
      exact s1 _ _ hb
/-- a call of a built-in class with keywords -/
theorem callT_kw {M : Model} {A : Around} {E : Value → Shared → Prop} {s : Shared} {env : Env} {pos : Pos} {T : String} {e : Expr} {rest : List Expr} {kws : List Keyword} {Q : Value → Shared → Prop}
    (h : wpAny M A (spliced (backTo pos (starEach (e :: rest) env))) (fun vs s₁ => wpAny M A (evalAll ((backToKw pos (keywordEach kws env)).map (·.2)))
      (fun kvs s₂ => wpAny M A (call (.type T) vs (((backToKw pos (keywordEach kws env)).filterMap (·.1)).zip kvs)) Q E s₂) E s₁) E s)
    (he : backTo pos (starEach (e :: rest) env) = (false, eval e env) :: backTo pos (starEach rest env))
    (hplain : (backTo pos (starEach (e :: rest) env)).any (·.1) = false) (hall : (backToKw pos (keywordEach kws env)).all (·.1.isSome) = true) (hkw : (backToKw pos (keywordEach kws env)).any (·.1.isNone) = false) :
    wpAny M A (callWith pos (.type T) [] (backTo pos (starEach (e :: rest) env)) (backToKw pos (keywordEach kws env))) Q E s := by
  have key : wpAny M A (evalArgs (.type T) true (backTo pos (starEach (e :: rest) env)) (backToKw pos (keywordEach kws env))) (fun a s₁ => wpAny M A (call (.type T) a.pos a.kw) Q E s₁) E s := by
    rw [he] at h ⊢
    exact evalArgs_kwB hall h
  unfold callWith
  refine wpAny_bind (wpAny_holding (wpAny_mono key (fun a s₁ h₁ => wpAny_bind (wpAny_standAt ?_)) fun _ _ x => x))
  simp only [hplain, hkw, Bool.or_false]
  refine wpAny_bind (wpAny_pure ?_)
  exact wpAny_bind (wpAny_mono h₁ (fun r s₂ hr => wpAny_bind (wpAny_holding (wpAny_point (wpAny_pure hr)))) fun _ _ x => x)
/-- the list at a, each item with its number from k on in a new pair -/
def Ies (K : PySem.W.Frag) (a : Addr) (k : Int) : It :=
  ⟨fun i H => ∃ (xs : List V) (x : V), SqL K H a xs ∧ xs[i]? = some x, fun i H v H' => ∃ T x, v = .ref T ∧ H T = none ∧ H' = upd H T (.tup [.int (k + (i : Int)), x]) ∧ ∀ xs, SqL K H a xs → xs[i]? = some x, fun i H => ∃ xs : List V, SqL K H a xs ∧ xs.length = i⟩
theorem turn_enumS {P : Program} {w : World} {K : PySem.W.Frag} {elts : List Expr} {kk : Nat} {tpos : Pos} (a e it : Addr) (k : Int) : Turn P w K (.Tuple elts kk tpos) (Ies K a k) [e, it] e (fun i h => (∃ old, IsEnum h e it (k + (i : Int)) old) ∧ h.IsListIter it a i ∧ e ≠ it) where
  mem := by simp
  obj := fun i h st b hb => by
    obtain ⟨⟨old, he⟩, ⟨o, ho, hc, hd⟩, _⟩ := st
    rcases (show b = e ∨ b = it by simpa using hb) with z | z
    · rw [z]; exact ⟨_, he, fun v q => nomatch q⟩
    · rw [z]; exact ⟨o, ho, fun v q => by rw [hd] at q; cases q⟩
  keep := fun i h h' st k => ⟨⟨_, k e (by simp) _ st.1.choose_spec⟩, st.2.1.at fun o q => k it (by simp) o q, st.2.2⟩
  item := by
    intro X hP hw hK hc i pins s σ H E I hf st hg
    subst hP hw hK
    obtain ⟨⟨old, he⟩, hit, hne⟩ := st
    obtain ⟨xs, x, hq, hx⟩ := hg
    obtain ⟨its, rv, p, hz⟩ := I.list hq
    obtain ⟨u, hu, ru⟩ := rv.get hx
    have hel : e < s.heap.objs.size := Heap.lt_size he
    have hil : it < s.heap.objs.size := by obtain ⟨_, q, _⟩ := hit; exact Heap.lt_size q
    have pl := p.isList
    have nit : a ≠ it := fun z => by
      obtain ⟨o1, q1, c1, _⟩ := hit; obtain ⟨o2, q2, c2, _⟩ := pl
      rw [z, q1] at q2; cases q2; rw [c1] at c2; exact absurd c2 (by decide)
    have nae : a ≠ e := fun z => by
      obtain ⟨o2, q2, c2, _⟩ := pl
      rw [z, he] at q2; cases q2; exact absurd (show Value.type "enumerate" = Value.type "list" from c2) (by decide)
    refine wpAny_pyNext_enum_itemC (Draws.list (A := X.A.in1) (show X.A.in1.handled = none from I.ok.hd hc) it a nit its.toArray) he ⟨hit, pl⟩ (show i < its.toArray.size by have := (List.getElem?_eq_some_iff.mp hu).1; simpa using this) hne (by simp [hne, Ne.symm nae]) fun y h' tk hy ho hit' hT hsz hk => ?_
    obtain rfl : y = u := by
      have hy : its[i]? = some y := by simpa using hy
      rw [hu] at hy; exact (Option.some.inj hy).symm
    refine ⟨_, rfl, wpAny_letOwnedTupleGo_enum (s := { s with heap := h', toks := tk + 1 }) ho fun h'' he' sb => ?_⟩
    have hT2 : h''.get? s.heap.objs.size = some { cls := .type "tuple", data := .seq #[.int (k + (i : Int)) tk, y] } := (sb.2 _ (Nat.ne_of_gt hel)).trans hT
    have new : ObjOk X.prog X.w (upd H s.heap.objs.size (.tup [.int (k + (i : Int)), x])) h'' s.heap.objs.size (.tup [.int (k + (i : Int)), x]) := ⟨by show 2 ≤ sizeLine; decide, [.int (k + (i : Int)) tk, y], .cons ⟨_, rfl⟩ (.cons ru .nil), ⟨_, hT2, rfl, _, rfl⟩⟩
    have I1 : Inv X pins σ (upd H s.heap.objs.size (.tup [.int (k + (i : Int)), x])) { s with heap := h'', toks := tk + 1 } := I.turnedNew (ch := [e, it]) (fun b ob hb q => (sb.2 b (fun z => hb (by simp [z]))).trans (hk b ob (fun z => hb (by simp [z])) (fun z => hb (by simp [z])) q)) hf (Nat.le_refl _) new
    refine ⟨.ref s.heap.objs.size, _, I1, rfl, ⟨_, x, rfl, I.hok.fresh (Nat.le_refl _), rfl, fun ys hy => by rw [I.list_inj hy hq]; exact hx⟩, ⟨⟨y, ?_⟩, hit'.1.at fun o q => (sb.2 it (Ne.symm hne)).trans q, hne⟩, fun b hb => ?_⟩
    · rw [show k + ((i + 1 : Nat) : Int) = k + (i : Int) + 1 by omega]; exact he'
    · have hb' : b < s.heap.objs.size := by
        rcases (show b = e ∨ b = it by simpa using hb) with z | z
        · rw [z]; exact hel
        · rw [z]; exact hil
      rw [upd_ne (Nat.ne_of_lt hb')]
      exact (hf b hb).1
  done := by
    intro X hP hw hK hc i pins s σ H E I hf st hg
    subst hP hw hK
    obtain ⟨⟨old, he⟩, hit, hne⟩ := st
    obtain ⟨xs, hq, hx⟩ := hg
    obtain ⟨its, rv, p, hz⟩ := I.list hq
    obtain ⟨f0, f1, f2, f3, f4, f5⟩ := hf it (by simp)
    have hl := rv.length
    have pl := p.isList
    have nit : a ≠ it := fun z => by
      obtain ⟨o1, q1, c1, _⟩ := hit; obtain ⟨o2, q2, c2, _⟩ := pl
      rw [z, q1] at q2; cases q2; rw [c1] at c2; exact absurd c2 (by decide)
    have e : its.toArray.size = i := by
      rw [List.size_toArray, ← hl, hx]
    subst e
    exact wpAny_pyNext_enum_endD (Draws.list (A := X.A.in1) (show X.A.in1.handled = none from I.ok.hd hc) it a nit its.toArray) he ⟨hit, pl⟩ fun h' eb => ⟨rfl, I.turned (t' := s.toks) (fun b o hb q => eb b o hb q) f0 f1 f3 f4 f5⟩
  self := fun A i s Q E st h => wpAny_pyIter_enum st.1.choose_spec h
def iEnS (K : PySem.W.Frag) (ta tk : TA) : TI := fun σ H R => ta σ H fun vs H1 => tk σ H1 fun zs H2 => ∃ a xs k, vs = [.ref a] ∧ zs = [.int k] ∧ (-(2 ^ 63) ≤ k ∧ k < 2 ^ 63) ∧ SqL K H2 a xs ∧ R (Ies K a k) H2
theorem pi_enumS {X : Cx} {K : PySem.W.Frag} {e : Expr} {ta tk : TA} {p pos tpos : Pos} {elts : List Expr} {kk : Nat} {kws : List Keyword} (hK : X.K = K) (hg : Gl X "enumerate") (hm : X.mg "enumerate" = none) (ha : PA X [e] ta) (hkw : PK X kws tk)
    (hall : (backToKw pos (keywordEach kws X.env)).all (·.1.isSome) = true := by rfl) (hks : (backToKw pos (keywordEach kws X.env)).filterMap (·.1) = [Str.ofString "start"] := by rfl)
    (he : backTo pos (starEach [e] X.env) = (false, eval e X.env) :: backTo pos (starEach [] X.env) := by rfl) (hpl : (backTo pos (starEach [e] X.env)).any (·.1) = false := by rfl) (hnn : (backToKw pos (keywordEach kws X.env)).any (·.1.isNone) = false := by rfl) :
    PI X (.Tuple elts kk tpos) (.Call (.Name "enumerate" p) [e] kws pos) (iEnS K ta tk) := by
  subst hK
  refine ⟨fun pins s σ H R I h => wpAny_Call_Name_kw (ld_blt I hg hm boot_enumerate (callT_kw (thn (ha.run pos pins s σ H _ I h) fun us s1 ⟨vs, H1, I1, r1, q1⟩ => thn (hkw.run pos pins s1 σ H1 _ I1 q1) fun ws s2 ⟨zs, H2, I2, rz, q2⟩ => ?_) he hpl hall hnn))⟩
  rw [hks]
  obtain ⟨a, xs, k, rfl, rfl, ⟨k0, k1⟩, hq, q⟩ := q2
  cases r1 with
  | cons r rr =>
    cases rr
    cases r
    cases rz with
    | cons r rr =>
      cases rr
      obtain ⟨t, rfl⟩ := r
      obtain ⟨its, rv, p', hz⟩ := I2.list hq
      refine enum_begins_start (begins_list a its.toArray) p'.isList k0 k1 fun h' he hit hsz hk => wpAny_pyIter_enum he ⟨s2.heap.objs.size + 1, [s2.heap.objs.size + 1, s2.heap.objs.size], _, _, H2, rfl, I2.kept (t' := s2.toks) hk, turn_enumS a (s2.heap.objs.size + 1) s2.heap.objs.size k, ⟨⟨.none, by rw [show k + ((0 : Nat) : Int) = k by omega]; exact he⟩, ⟨_, hit, rfl, rfl⟩, Nat.succ_ne_self _⟩, fun b hb => ?_, q⟩
      have hle : s2.heap.objs.size ≤ b := by
        rcases (show b = s2.heap.objs.size + 1 ∨ b = s2.heap.objs.size by simpa using hb) with z | z
        · rw [z]; exact Nat.le_add_right _ _
        · rw [z]; exact Nat.le_refl _
      exact I2.fpOk hle (I2.hok.fresh hle)
theorem walk_enumS {K : PySem.W.Frag} {a : Addr} {xs : List V} {k : Int} : Walk (Ies K a k) xs.length (fun H => SqL K H a xs) (YPair (fun i => some (.int (k + (i : Int)))) (fun i => xs[i]?)) :=
  ⟨fun i _ hi q => ⟨xs, xs[i], q, by simp [hi]⟩, fun _ q => ⟨xs, q, rfl⟩, fun _ _ _ _ _ q y => by
    obtain ⟨T, x, e, hT, e2, g⟩ := y
    exact ⟨T, _, x, e, hT, e2, rfl, g xs q⟩⟩
def FE (K : PySem.W.Frag) (g : TG) (tb : TS) (nx : L2.St → Hp → Prop) (rt : VK) (σ : L2.St) : List V → List V → Hp → Prop := fun vs zs H1 => tFor (iEnS K (fun _ H R => R vs H) fun _ H R => R zs H) g tb ⟨nx, rt, fun _ _ => False, fun _ _ => False⟩ σ H1
instance {K : PySem.W.Frag} {ta tk : TA} {g : TG} {tb : TS} {nx bk ct : L2.St → Hp → Prop} {rt : VK} {σ : L2.St} {H : Hp} : Nx (tFor (iEnS K ta tk) g tb ⟨nx, rt, bk, ct⟩ σ H) (ta σ H fun vs H1 => tk σ H1 fun zs H2 => FE K g tb nx rt σ vs zs H2) := ⟨fun q => q⟩
theorem fe {K : PySem.W.Frag} {g : TG} {tb : TS} {nx : L2.St → Hp → Prop} {rt : VK} {σ : L2.St} {H : Hp} {a : Addr} {xs : List V} {k : Int} (h : SqL K H a xs) (k0 : -(2 ^ 63) ≤ k ∧ k < 2 ^ 63) (Pv : Nat → L2.St → Hp → Prop) (p0 : Pv 0 σ H) (hl : ∀ i σ' H', i ≤ xs.length → Pv i σ' H' → SqL K H' a xs)
    (ps : ∀ i x σ' H' T, xs[i]? = some x → Pv i σ' H' → H' T = none → g (.ref T) σ' (upd H' T (.tup [.int (k + (i : Int)), x])) fun σ2 H2 => tb ⟨Pv (i + 1), rt, nx, Pv (i + 1)⟩ σ2 H2) (pd : ∀ σ' H', Pv xs.length σ' H' → nx σ' H') : FE K g tb nx rt σ [.ref a] [.int k] H :=
  ⟨a, xs, k, rfl, rfl, k0, h, for_it (D := ⟨nx, rt, fun _ _ => False, fun _ _ => False⟩) (walk_enumS (K := K) (a := a) (xs := xs) (k := k)) Pv p0 (fun i σ' H' hi p => hl i σ' H' hi p) (fun i x σ' H' H'' _ p y => by
    obtain ⟨T, u, z, rfl, hT, rfl, e1, e2⟩ := y
    cases e1
    exact ps i z σ' H' T e2 p hT) fun σ' H' p => pd σ' H' p⟩
/-- all but two lists stay -/
structure But2 (F T : Addr) (H H' : Hp) : Prop where
  keep : ∀ b o, H b = some o → b ≠ F → b ≠ T → H' b = some o
  tk : Tk H H'
theorem But2.refl {F T : Addr} {H : Hp} : But2 F T H H := ⟨fun _ _ h _ _ => h, Tk.refl⟩
theorem But2.same {F T : Addr} {H H1 H2 : Hp} (b : But2 F T H H1) (s : Same H1 H2) : But2 F T H H2 := ⟨fun c o h n m => s _ _ (b.keep c o h n m), fun t d h => s _ _ (b.tk t d h)⟩
theorem But2.app1 {F T : Addr} {H H1 : Hp} {os os' : List V} (b : But2 F T H H1) (h : H1 F = some (.lst os)) : But2 F T H (upd H1 F (.lst os')) := ⟨fun c o e n m => by rw [upd_ne n]; exact b.keep c o e n m, fun t d e => Tk.lst h _ _ (b.tk t d e)⟩
theorem But2.app2 {F T : Addr} {H H1 : Hp} {os os' : List V} (b : But2 F T H H1) (h : H1 T = some (.lst os)) : But2 F T H (upd H1 T (.lst os')) := ⟨fun c o e n m => by rw [upd_ne m]; exact b.keep c o e n m, fun t d e => Tk.lst h _ _ (b.tk t d e)⟩
/-- what a number says -/
def valZ (z : Str) : Int := (PySem.NumText.digitsVal z.cps.toList : Nat)
/-- the lines read one by one: the first at fault, or the folk and the watches -/
def rdL : List Str → Nat → List (Str × Int) → List (Str × Str × Int) → Nat ⊕ (List (Str × Int) × List (Str × Str × Int))
  | [], _, fs, us => .inr (fs, us)
  | l :: ls, at_, fs, us =>
    if flB (Txt.split l " ") fs us = true then rdL ls (at_ + 1) (fs ++ [(nth (Txt.split l " ") 1, valZ (nth (Txt.split l " ") 2))]) us
    else if wlB (Txt.split l " ") fs us = true then rdL ls (at_ + 1) fs (us ++ [(nth (Txt.split l " ") 1, nth (Txt.split l " ") 2, valZ (nth (Txt.split l " ") 3))])
    else .inl at_
theorem dv_lt : ∀ (cs : List Nat) (acc : Nat), PySem.NumText.AllDigits cs → cs.foldl (fun acc c => acc * 10 + (c - 48)) acc + 1 ≤ (acc + 1) * 10 ^ cs.length
  | [], acc, _ => by
    show acc + 1 ≤ (acc + 1) * 10 ^ 0
    omega
  | c :: cs, acc, h => by
    have ih := dv_lt cs (acc * 10 + (c - 48)) fun d hd => h d (List.mem_cons_of_mem _ hd)
    have hc := h c List.mem_cons_self
    refine Nat.le_trans ih ?_
    rw [List.length_cons, Nat.pow_succ, Nat.mul_comm (10 ^ cs.length) 10, ← Nat.mul_assoc]
    exact Nat.mul_le_mul_right _ (by omega)
theorem numB_all {z : Str} (h : numB z = true) : 1 ≤ z.length ∧ z.length ≤ 4 ∧ PySem.NumText.AllDigits z.cps.toList ∧ (z = "0" ∨ ¬ z.cps.toList[0]? = some 48) := by
  unfold numB at h
  rw [Bool.and_eq_true, Bool.and_eq_true, Bool.and_eq_true, Bool.or_eq_true, decide_eq_true_eq, decide_eq_true_eq, List.all_eq_true, decide_eq_true_eq, Bool.not_eq_true', decide_eq_false_iff_not] at h
  exact ⟨h.1, h.2.1, fun c hc => n09_iff.mp (of_decide_eq_true (h.2.2.1 c hc)), h.2.2.2⟩
theorem numB_val {z : Str} (h : numB z = true) : PySem.intText? z = some (valZ z) ∧ 0 ≤ valZ z ∧ valZ z ≤ 9999 ∧ z.length ≤ 640 := by
  obtain ⟨l1, l2, al, _⟩ := numB_all h
  have lt : z.cps.toList.length = z.length := by rw [Array.length_toList]; rfl
  have b := dv_lt z.cps.toList 0 al
  have p : (0 + 1) * 10 ^ z.cps.toList.length ≤ 10 ^ 4 := by
    rw [Nat.zero_add, Nat.one_mul]
    exact Nat.pow_le_pow_right (by decide) (by omega)
  have b : PySem.NumText.digitsVal z.cps.toList + 1 ≤ 10 ^ 4 := Nat.le_trans b p
  refine ⟨PySem.intText_digits al (fun e => by rw [e] at lt; simp at lt; omega) (by omega), by unfold valZ; omega, by unfold valZ; omega, by omega⟩
theorem numB_pos {z : Str} (h : numB z = true) (n : z ≠ "0") : 1 ≤ valZ z := by
  obtain ⟨l1, l2, al, f⟩ := numB_all h
  have f := f.resolve_left n
  unfold valZ
  have lt : z.cps.toList.length = z.length := by rw [Array.length_toList]; rfl
  generalize z.cps.toList = cs at *
  cases cs with
  | nil => simp at lt; omega
  | cons c r =>
    have hc := al c List.mem_cons_self
    have : c ≠ 48 := fun e => f (by rw [e]; rfl)
    have := PySem.NumText.digitsVal_pos (c := c) (cs := r) (by omega)
    omega
theorem flB_facts {ws : List Str} {fs : List (Str × Int)} {us : List (Str × Str × Int)} (h : flB ws fs us = true) : ws.length = 3 ∧ us = [] ∧ nameB (nth ws 1) = true ∧ numB (nth ws 2) = true ∧ fs.length < 10 ∧ nth ws 1 ∉ fs.map (·.1) := by
  unfold flB at h
  rw [Bool.and_eq_true, Bool.and_eq_true, Bool.and_eq_true, Bool.and_eq_true, Bool.and_eq_true, Bool.and_eq_true, decide_eq_true_eq, decide_eq_true_eq, decide_eq_true_eq, decide_eq_true_eq, Bool.not_eq_true', decide_eq_false_iff_not] at h
  exact ⟨h.1, List.length_eq_zero_iff.mp h.2.2.1, h.2.2.2.1, h.2.2.2.2.1, h.2.2.2.2.2.1, h.2.2.2.2.2.2⟩
theorem wlB_facts {ws : List Str} {fs : List (Str × Int)} {us : List (Str × Str × Int)} (h : wlB ws fs us = true) : ws.length = 4 ∧ us.length < 24 ∧ nth ws 1 ∈ fs.map (·.1) ∧ nth ws 2 ∈ fs.map (·.1) ∧ nth ws 1 ≠ nth ws 2 ∧ numB (nth ws 3) = true ∧ nth ws 3 ≠ "0" ∧ (nth ws 1, nth ws 2) ∉ us.map fun t => (t.1, t.2.1) := by
  unfold wlB at h
  rw [Bool.and_eq_true, Bool.and_eq_true, Bool.and_eq_true, Bool.and_eq_true, Bool.and_eq_true, Bool.and_eq_true, Bool.and_eq_true, Bool.and_eq_true, decide_eq_true_eq, decide_eq_true_eq, decide_eq_true_eq, decide_eq_true_eq, decide_eq_true_eq, Bool.not_eq_true', decide_eq_false_iff_not, Bool.not_eq_true', decide_eq_false_iff_not, Bool.not_eq_true', decide_eq_false_iff_not] at h
  refine ⟨h.1, h.2.2.1, h.2.2.2.1, h.2.2.2.2.1, h.2.2.2.2.2.1, h.2.2.2.2.2.2.1, h.2.2.2.2.2.2.2.1, fun m => h.2.2.2.2.2.2.2.2 ?_⟩
  obtain ⟨t, ht, e⟩ := List.mem_map.mp m
  refine List.mem_map.mpr ⟨t, ht, ?_⟩
  rw [show t.1 = nth ws 1 from (Prod.ext_iff.mp e).1, show t.2.1 = nth ws 2 from (Prod.ext_iff.mp e).2]
/-- what has been read is right -/
structure ReadOk (fs : List (Str × Int)) (us : List (Str × Str × Int)) : Prop where
  nd : (fs.map (·.1)).Nodup
  nm : ∀ f ∈ fs, nameB f.1 = true ∧ 0 ≤ f.2 ∧ f.2 ≤ 9999
  l10 : fs.length ≤ 10
  wok : Wok (fs.map (·.1)) us
theorem ReadOk.folk {fs : List (Str × Int)} {us : List (Str × Str × Int)} {ws : List Str} (g : ReadOk fs us) (h : flB ws fs us = true) : ReadOk (fs ++ [(nth ws 1, valZ (nth ws 2))]) us := by
  obtain ⟨_, rfl, n1, n2, l, nw⟩ := flB_facts h
  have v := numB_val n2
  refine ⟨?_, fun f hf => ?_, by rw [List.length_append]; show fs.length + 1 ≤ 10; omega, ⟨List.nodup_nil, nofun, by decide⟩⟩
  · rw [List.map_append]
    refine List.nodup_append.mpr ⟨g.nd, List.nodup_cons.mpr ⟨nofun, List.nodup_nil⟩, fun a ha b hb e => nw ?_⟩
    have hb : b = nth ws 1 := List.mem_singleton.mp hb
    rw [← hb, ← e]
    exact ha
  · rcases List.mem_append.mp hf with hf | hf
    · exact g.nm f hf
    · rw [List.mem_singleton.mp hf]
      exact ⟨n1, v.2.1, v.2.2.1⟩
theorem ReadOk.watch {fs : List (Str × Int)} {us : List (Str × Str × Int)} {ws : List Str} (g : ReadOk fs us) (h : wlB ws fs us = true) : ReadOk fs (us ++ [(nth ws 1, nth ws 2, valZ (nth ws 3))]) := by
  obtain ⟨_, l, m1, m2, ne, n3, nz, np⟩ := wlB_facts h
  have v := numB_val n3
  refine ⟨g.nd, g.nm, g.l10, ?_, fun t ht => ?_, by rw [List.length_append]; show us.length + 1 ≤ 24; omega⟩
  · rw [List.map_append]
    refine List.nodup_append.mpr ⟨g.wok.nd, List.nodup_cons.mpr ⟨nofun, List.nodup_nil⟩, fun a ha b hb e => np ?_⟩
    have hb : b = (nth ws 1, nth ws 2) := List.mem_singleton.mp hb
    rw [← hb, ← e]
    exact ha
  · rcases List.mem_append.mp ht with ht | ht
    · exact g.wok.mem t ht
    · rw [List.mem_singleton.mp ht]
      exact ⟨m1, m2, ne, numB_pos n3 nz, v.2.2.1⟩
theorem rdL_len : ∀ (ls : List Str) (n : Nat) (f0 fs : List (Str × Int)) (u0 us : List (Str × Str × Int)), rdL ls n f0 u0 = .inr (fs, us) → f0.length ≤ fs.length
  | [], n, f0, fs, u0, us, h => by
    rw [rdL] at h
    injection h with h
    injection h with h _
    rw [h]
    exact Nat.le_refl _
  | l :: ls, n, f0, fs, u0, us, h => by
    rw [rdL] at h
    split at h
    · have := rdL_len ls _ _ _ _ _ h
      rw [List.length_append] at this
      omega
    · split at h
      · exact rdL_len ls _ _ _ _ _ h
      · cases h
theorem rdL_one {ls : List Str} {n : Nat} {fs : List (Str × Int)} {us : List (Str × Str × Int)} (hl : ls ≠ []) (h : rdL ls n [] [] = .inr (fs, us)) : 1 ≤ fs.length := by
  cases ls with
  | nil => exact absurd rfl hl
  | cons l ls =>
    rw [rdL] at h
    split at h
    · have := rdL_len ls _ _ _ _ _ h
      exact this
    · split at h
      · next c => exact absurd (wlB_facts c).2.2.1 List.not_mem_nil
      · cases h
def sp_read_web (K : PySem.W.Frag) : Sp := fun vs H Q E => ∃ z : Str, vs = [.str z] ∧ z.length ≤ 100000 ∧ (∀ l ∈ Txt.split z "\n", l.length ≤ 100000) ∧
  (∀ n, rdL (Txt.split z "\n") 1 [] [] = .inl n → ∀ d H', H d = none → H' d = some (.xd [("line", .int (n : Int))]) → Same H H' → E (.ref (gad K "BadText")) (some d) H') ∧
  ∀ fs us, rdL (Txt.split z "\n") 1 [] [] = .inr (fs, us) → ReadOk fs us → ∀ x ds H', H x = none → Same H H' → WebAt K H' x fs ds → ds.Perm us → PairS (fs.map (·.1)) ds → Q (.ref x) H'
theorem ok_read_web {f : Addr} {fd : FuncData}
    {f_Web__init : Addr} {fd_Web__init : FuncData} {dv_Web__init_0 : V} (D_Web__init : Dw K "__init__" "Web.__init__" s_Web__init [dv_Web__init_0] p_Web__init f_Web__init fd_Web__init) (G_Web__init : FnOk P w K mg base (L2.CX P w) 7 f_Web__init fd_Web__init p_Web__init (sp_Web__init K))
    (Mk_Web : Mk K (gad K "Web") f_Web__init)
    {f_is_folk_line : Addr} {fd_is_folk_line : FuncData} (D_is_folk_line : Dn K mg "_is_folk_line" s_is_folk_line p_is_folk_line f_is_folk_line fd_is_folk_line) (G_is_folk_line : FnOk P w K mg base CX0 2 f_is_folk_line fd_is_folk_line p_is_folk_line (sp_is_folk_line K))
    {f_is_watch_line : Addr} {fd_is_watch_line : FuncData} (D_is_watch_line : Dn K mg "_is_watch_line" s_is_watch_line p_is_watch_line f_is_watch_line fd_is_watch_line) (G_is_watch_line : FnOk P w K mg base CX0 2 f_is_watch_line fd_is_watch_line p_is_watch_line (sp_is_watch_line K))
    {f_BadText__init : Addr} {fd_BadText__init : FuncData} (D_BadText__init : Dm K "__init__" "BadText.__init__" s_BadText__init p_BadText__init f_BadText__init fd_BadText__init) (G_BadText__init : FnOk P w K mg base CX0 3 f_BadText__init fd_BadText__init p_BadText__init (sp_BadText__init K))
    (X_BadText : Dx K mg "BadText" (gad K "BadText") f_BadText__init ["line"])
    (X_Web : Ci K mg "Web" ["_folk", "_names", "_watches", "_pulls"])
    (T : Txt K mg) (D : Dn K mg "read_web" s_read_web p_read_web f fd) : FnOk P w K mg base (L2.CX P w) 9 f fd p_read_web (sp_read_web K) := by
  refine D.F.okX sc_read_web (fun vs H Q E h => ?_) (fun cdv A outer s' H vs Q E hr h => ?_)
  · obtain ⟨_, rfl, _⟩ := h
    rfl
  · obtain ⟨z, rfl, lz, lpart, kE, kQ⟩ := h
    refine ⟨_, (pss_cons (ps_set (i := 1) sc_read_web.nd rfl (Or.inl rfl) (pe_lst pa_nil))
  (pss_cons (ps_set (i := 2) sc_read_web.nd rfl (Or.inl rfl) (pe_lst pa_nil))
  (pss_cons (ps_for (passes_of rfl) rfl (pi_enumS (K := K) rfl (by rfl) T.b_enumerate (pa_cons (pe_bm PySem.F.plainAttrs_str PySem.F.slot_str_split PySem.F.type_str_split mt_split (pv 0) (pa_cons pe_str pa_nil)) pa_nil) (pk_cons pe_int pk_nil)) (pg_tup rfl (pgs_cons (pg_name (i := 3) sc_read_web.nd rfl (Or.inl rfl)) (pgs_cons (pg_name (i := 4) sc_read_web.nd rfl (Or.inl rfl)) pgs_nil)))
   (pss_cons (ps_set (i := 5) sc_read_web.nd rfl (Or.inl rfl) (pe_bm PySem.F.plainAttrs_str PySem.F.slot_str_split PySem.F.type_str_split mt_split (pv 4) (pa_cons pe_str pa_nil)))
  (pss_one (ps_if (pt_val (pe_call G_is_folk_line (hr.mono (by omega)) (by rfl) D_is_folk_line.m D_is_folk_line.F.kp D_is_folk_line.b .nil pass0 (pa_cons (pv 5) (pa_cons (pv 1) (pa_cons (pv 2) pa_nil))))) (pss_one (ps_expr (pe_bm PySem.F.plainAttrs_list PySem.F.slot_list_append PySem.F.type_list_append mt_append (pv 1) (pa_cons (pe_tup (pa_cons (pe_ix (ix_listK (K := K) rfl) (pv 5) pe_int (fun _ _ => rfl)) (pa_cons (pe_callTy call_int_str (by rfl) T.b_int (by decide +kernel) (pa_cons (pe_ix (ix_listK (K := K) rfl) (pv 5) pe_int (fun _ _ => rfl)) pa_nil)) pa_nil))) pa_nil)))) (pss_one (ps_if (pt_val (pe_call G_is_watch_line (hr.mono (by omega)) (by rfl) D_is_watch_line.m D_is_watch_line.F.kp D_is_watch_line.b .nil pass0 (pa_cons (pv 5) (pa_cons (pv 1) (pa_cons (pv 2) pa_nil))))) (pss_one (ps_expr (pe_bm PySem.F.plainAttrs_list PySem.F.slot_list_append PySem.F.type_list_append mt_append (pv 2) (pa_cons (pe_tup (pa_cons (pe_ix (ix_listK (K := K) rfl) (pv 5) pe_int (fun _ _ => rfl)) (pa_cons (pe_ix (ix_listK (K := K) rfl) (pv 5) pe_int (fun _ _ => rfl)) (pa_cons (pe_callTy call_int_str (by rfl) T.b_int (by decide +kernel) (pa_cons (pe_ix (ix_listK (K := K) rfl) (pv 5) pe_int (fun _ _ => rfl)) pa_nil)) pa_nil)))) pa_nil)))) (pss_one (ps_raise rfl (takes_of rfl rfl rfl rfl) (pmk_oex X_BadText.oex X_BadText.iC X_BadText.tI G_BadText__init (hr.mono (by omega)) D_BadText__init.b .nil pass0 (by rfl) X_BadText.g (pa_cons (pv 3) pa_nil))))))))))
  (pss_one (ps_ret (pe_make Mk_Web G_Web__init (hr.mono (by omega)) (by rfl) X_Web.g D_Web__init.b .nil (passes_call (takes_of rfl rfl rfl rfl) (fun _ _ _ _ h => h)) (pa_cons (pv 1) (pa_cons (pv 2) pa_nil)))))))), ?_⟩
    walk_at "my sts"
    refine lst_end (xs := []) (by simp) fun F H1 hF s1 h1 => ?_
    walk_at "my sts"
    refine lst_end (xs := []) (by simp) fun T H2 hT s2 h2 => ?_
    have s12 := s1.trans s2
    have nFT : F ≠ T := fun e => by rw [← e, h1] at hT; cases hT
    have hT0 : H T = none := s1.free hT
    walk_at "my sts"
    refine ⟨z, "\n", rfl, rfl, by decide +kernel, Nat.le_trans (show z.length + 2 ≤ 200000 by omega) (by decide), fun L hL => ?_⟩
    have s2L : Same H2 (upd H2 L (.lst ((Txt.split z "\n").map V.str))) := same_new hL
    have hL3 : (upd H2 L (.lst ((Txt.split z "\n").map V.str))) L = some (.lst ((Txt.split z "\n").map V.str)) := upd_same
    have h13 := s2L _ _ (s2 _ _ h1)
    have h23 := s2L _ _ h2
    have nLF : L ≠ F := fun e => by rw [e, s2 _ _ h1] at hL; cases hL
    have nLT : L ≠ T := fun e => by rw [e, h2] at hL; cases hL
    have s03 := s12.trans s2L
    generalize upd H2 L (.lst ((Txt.split z "\n").map V.str)) = H3 at *
    have llen := PyProof.Rows.split_le z "\n"
    generalize hLS : Txt.split z "\n" = ls at *
    walk_at "my sts"
    refine fe (xs := ls.map V.str) (sqL hL3) (by decide) (fun i σ' H' => But2 F T H3 H' ∧ ∃ fa ta fs us u3 u4 u5, σ' = [some (.str z), some (.ref F), some (.ref T), u3, u4, u5] ∧ H' F = some (.lst fa) ∧ Rows H' fa ((fs : List (Str × Int)).map frow) ∧ H' T = some (.lst ta) ∧ Rows H' ta ((us : List (Str × Str × Int)).map trow) ∧ ReadOk fs us ∧ rdL ls 1 [] [] = rdL (ls.drop i) (1 + i) fs us) ⟨But2.refl, [], [], [], [], _, _, _, rfl, h13, Rows.nil, h23, Rows.nil, ⟨List.nodup_nil, nofun, by decide, ⟨List.nodup_nil, nofun, by decide⟩⟩, rfl⟩ (fun i σ' H' _ g => sqL (g.1.keep _ _ hL3 nLF nLT)) ?_ ?_
    · rintro i v σ' H4 D hv ⟨b4, fa, ta, fs, us, u3, u4, u5, rfl, hF4, rF4, hT4, rT4, ok, eR⟩ hD
      rw [List.getElem?_map] at hv
      obtain ⟨line, el, rfl⟩ := Option.map_eq_some_iff.mp hv
      have hi := (List.getElem?_eq_some_iff.mp el).1
      have ll := lpart line (List.mem_of_getElem? el)
      have ed : ls.drop i = line :: ls.drop (i + 1) := by
        rw [List.drop_eq_getElem_cons hi]
        rw [List.getElem?_eq_getElem hi] at el
        rw [Option.some.inj el]
      rw [ed, rdL] at eR
      have s4D : Same H4 (upd H4 D (.tup [.int (1 + (i : Int)), .str line])) := same_new hD
      refine ⟨D, _, rfl, sqT upd_same, rfl, _, _, rfl, _, _, rfl, rfl, ?_⟩
      generalize upd H4 D (.tup [.int (1 + (i : Int)), .str line]) = H5 at *
      walk_at "my sts"
      refine ⟨line, " ", rfl, rfl, by decide +kernel, Nat.le_trans (show line.length + 2 ≤ 200000 by omega) (by decide), fun Wd hWd => ?_⟩
      have lw : ∀ w ∈ Txt.split line " ", w.length ≤ 100000 := fun w hw => Nat.le_trans (PyProof.Rows.part_short hw) ll
      have s5 : Same H5 (upd H5 Wd (.lst ((Txt.split line " ").map V.str))) := same_new hWd
      have hW : (upd H5 Wd (.lst ((Txt.split line " ").map V.str))) Wd = some (.lst ((Txt.split line " ").map V.str)) := upd_same
      generalize upd H5 Wd (.lst ((Txt.split line " ").map V.str)) = H6 at *
      have s46 := s4D.trans s5
      generalize Txt.split line " " = ws at *
      have nm : ∀ f ∈ fs, nameB f.1 = true := fun f hf => (ok.nm f hf).1
      have nu : ∀ t ∈ us, nameB t.1 = true ∧ nameB t.2.1 = true := fun t ht => by
        have m := ok.wok.mem t ht
        have nn : ∀ a ∈ fs.map (·.1), nameB a = true := fun a ha => by
          obtain ⟨f, hf, rfl⟩ := List.mem_map.mp ha
          exact nm f hf
        exact ⟨nn _ m.1, nn _ m.2.1⟩
      have l10 := ok.l10
      have l24 := ok.wok.len
      have lfa := rF4.len
      have lta := rT4.len
      rw [List.length_map] at lfa lta
      walk_at "my sts"
      refine ⟨Wd, F, T, fa, ta, ws, fs, us, rfl, hW, s46 _ _ hF4, rF4.keep (Tk.same s46), s46 _ _ hT4, rT4.keep (Tk.same s46), by omega, lw, fun H7 s7 => ?_⟩
      have s47 := s46.trans s7
      have hW7 := s7 _ _ hW
      have hF7 := s47 _ _ hF4
      have hT7 := s47 _ _ hT4
      have rF7 := rF4.keep (Tk.same s47)
      have rT7 := rT4.keep (Tk.same s47)
      walk_at "my sts"
      refine i_ite (fun c => ?_) fun c => ?_
      · obtain ⟨l3, _, _, n2, _, _⟩ := flB_facts c
        obtain ⟨v1, _, _, v4⟩ := numB_val n2
        rw [if_pos c] at eR
        walk_at "my sts"
        refine i_ixL (sqL hW7) (at_nth (i := 1) (by omega)) ?_
        walk_at "my sts"
        refine i_ixL (sqL hW7) (at_nth (i := 2) (by omega)) ?_
        walk_at "my sts"
        refine ⟨nth ws 2, _, rfl, v1, v4, ?_⟩
        walk_at "my sts"
        refine tup_end (show 2 ≤ 100000 by decide) fun t H8 ht s8 h8 => ?_
        have hF8 := s8 _ _ hF7
        walk_at "my sts"
        refine i_append hF8 (by omega) ?_
        have tk : Tk H7 (upd H8 F (.lst (fa ++ [.ref t]))) := fun x d e => Tk.lst hF8 _ _ (s8 _ _ e)
        walk_at "my sts"
        refine ⟨(b4.same (s47.trans s8)).app1 hF8, _, ta, _, us, _, _, _, rfl, upd_same, ?_, by rw [upd_ne nFT.symm]; exact s8 _ _ hT7, rT7.keep tk, ok.folk c, by rw [eR, show 1 + i + 1 = 1 + (i + 1) by omega]⟩
        rw [List.map_append]
        exact (rF7.keep tk).app (Rows.one (Tk.lst hF8 _ _ h8))
      · rw [if_neg (by rw [c]; decide)] at eR
        walk_at "my sts"
        refine ⟨Wd, F, T, fa, ta, ws, fs, us, rfl, hW7, hF7, rF7, hT7, rT7, by omega, by omega, lw, nm, nu, fun H8 s8 => ?_⟩
        have hW8 := s8 _ _ hW7
        have hF8 := s8 _ _ hF7
        have hT8 := s8 _ _ hT7
        have rF8 := rF7.keep (Tk.same s8)
        have rT8 := rT7.keep (Tk.same s8)
        walk_at "my sts"
        refine i_ite (fun c2 => ?_) fun c2 => ?_
        · obtain ⟨l4, _, _, _, _, n3, _, _⟩ := wlB_facts c2
          obtain ⟨v1, _, _, v4⟩ := numB_val n3
          rw [if_pos c2] at eR
          walk_at "my sts"
          refine i_ixL (sqL hW8) (at_nth (i := 1) (by omega)) ?_
          walk_at "my sts"
          refine i_ixL (sqL hW8) (at_nth (i := 2) (by omega)) ?_
          walk_at "my sts"
          refine i_ixL (sqL hW8) (at_nth (i := 3) (by omega)) ?_
          walk_at "my sts"
          refine ⟨nth ws 3, _, rfl, v1, v4, ?_⟩
          walk_at "my sts"
          refine tup_end (show 3 ≤ 100000 by decide) fun t H9 ht s9 h9 => ?_
          have hT9 := s9 _ _ hT8
          walk_at "my sts"
          refine i_append hT9 (by omega) ?_
          have tk : Tk H8 (upd H9 T (.lst (ta ++ [.ref t]))) := fun x d e => Tk.lst hT9 _ _ (s9 _ _ e)
          walk_at "my sts"
          refine ⟨(b4.same ((s47.trans s8).trans s9)).app2 hT9, fa, _, fs, _, _, _, _, rfl, by rw [upd_ne nFT]; exact s9 _ _ hF8, rF8.keep tk, upd_same, ?_, ok.watch c2, by rw [eR, show 1 + i + 1 = 1 + (i + 1) by omega]⟩
          rw [List.map_append]
          exact (rT8.keep tk).app (Rows.one (Tk.lst hT9 _ _ h9))
        · rw [if_neg (by rw [c2]; decide)] at eR
          walk_at "my sts"
          have sH : Same H H8 := fun b o h => (s47.trans s8) _ _ (b4.keep b o (s03 b o h) (fun e => by rw [e, hF] at h; cases h) (fun e => by rw [e, hT0] at h; cases h))
          refine mk1 X_BadText.oex (X_BadText.no "line" (by decide)) (.inl rfl) fun v' d H9 hd ed pt s9 => ?_
          have ev : v' = V.int (1 + (i : Int)) := by
            rcases pt with ⟨_, e⟩ | ⟨_, _, _, e, _⟩
            · exact e
            · cases e
          rw [ev, show (1 : Int) + (i : Int) = ((1 + i : Nat) : Int) by omega] at ed
          exact kE _ eR d H9 (sH.free hd) ed (sH.trans s9)
    · rintro σ' H4 ⟨b4, fa, ta, fs, us, u3, u4, u5, rfl, hF4, rF4, hT4, rT4, ok, eR⟩
      rw [List.length_map, List.drop_of_length_le (Nat.le_refl _), rdL] at eR
      have l1 : 1 ≤ fs.length := rdL_one (fun e => by
        have := PyProof.Rows.split_pos z "\n"
        rw [hLS, e] at this
        exact absurd this (by decide)) eR
      walk_at "my sts"
      refine web_made (P := fun _ => True) rfl (rp_rows (n := 0) (.inl ⟨hF4, trivial⟩) rF4 (atomF fs) (by rw [List.length_map]; have := ok.l10; omega)) (.inl (rp_rows (n := 0) (.inl ⟨hT4, trivial⟩) rT4 (atomT us) (by rw [List.length_map]; have := ok.wok.len; omega))) ok.nm ok.nd l1 ok.l10 ok.wok.nd ok.wok.mem ok.wok.len fun x ds H5 hwx pm so s5 _ => ?_
      have sH : Same H H4 := fun b o h => b4.keep b o (s03 b o h) (fun e => by rw [e, hF] at h; cases h) (fun e => by rw [e, hT0] at h; cases h)
      exact kQ fs us eR ok x ds H5 (sH.free ‹_›) (sH.trans s5) hwx pm so
theorem num_no {i : Int} {c : Nat} (h0 : 0 ≤ i) (hc : c < 48) : ¬ c ∈ TL.tl (numZ i) := fun h => by
  rw [numZ_nat h0] at h
  have := numS_all i.toNat c h
  omega
theorem az9_big : ∀ c ∈ AZ9, 48 ≤ c := by decide +kernel
theorem name_no {z : Str} {c : Nat} (h : nameB z = true) (hc : c < 48) : ¬ c ∈ TL.tl z := fun m => by
  unfold nameB at h
  rw [Bool.and_eq_true, Bool.and_eq_true, Bool.and_eq_true, List.all_eq_true] at h
  have := az9_big c (of_decide_eq_true (h.2.2.2 c m))
  omega
/-- no line of a web holds a line feed -/
theorem lines_no {fs : List (Str × Int)} {ds : List (Str × Str × Int)} (ok : ∀ f ∈ fs, nameB f.1 = true ∧ 0 ≤ f.2 ∧ f.2 ≤ 9999) (w : Wok (fs.map (·.1)) ds) : ∀ p ∈ linesW fs ds, ¬ 10 ∈ TL.tl p := fun p hp => by
  have nm : ∀ a ∈ fs.map (·.1), nameB a = true := fun a ha => by obtain ⟨f, hf, rfl⟩ := List.mem_map.mp ha; exact (ok f hf).1
  have sp : ¬ 10 ∈ TL.tl (" " : Str) := by decide +kernel
  rcases List.mem_append.mp hp with h | h
  · obtain ⟨f, hf, rfl⟩ := List.mem_map.mp h
    unfold lnF
    rw [TL.tl_append, TL.tl_append, TL.tl_append, List.mem_append, List.mem_append, List.mem_append]
    rintro (((h | h) | h) | h)
    · exact absurd h (by decide +kernel)
    · exact name_no (ok f hf).1 (by decide) h
    · exact sp h
    · exact num_no (ok f hf).2.1 (by decide) h
  · obtain ⟨t, ht, rfl⟩ := List.mem_map.mp h
    have m := w.mem t ht
    unfold lnW
    rw [TL.tl_append, TL.tl_append, TL.tl_append, TL.tl_append, TL.tl_append, List.mem_append, List.mem_append, List.mem_append, List.mem_append, List.mem_append]
    rintro (((((h | h) | h) | h) | h) | h)
    · exact absurd h (by decide +kernel)
    · exact name_no (nm _ m.1) (by decide) h
    · exact sp h
    · exact name_no (nm _ m.2.1) (by decide) h
    · exact sp h
    · exact num_no (by omega) (by decide) h
theorem lines_ne {fs : List (Str × Int)} {ds : List (Str × Str × Int)} (l1 : 1 ≤ fs.length) : linesW fs ds ≠ [] := fun e => by
  have : (linesW fs ds).length = 0 := by rw [e]; rfl
  unfold linesW at this
  rw [List.length_append, List.length_map, List.length_map] at this
  omega
theorem lines_split {fs : List (Str × Int)} {ds : List (Str × Str × Int)} (l1 : 1 ≤ fs.length) (ok : ∀ f ∈ fs, nameB f.1 = true ∧ 0 ≤ f.2 ∧ f.2 ≤ 9999) (w : Wok (fs.map (·.1)) ds) : Txt.split (textW fs ds) "\n" = linesW fs ds :=
  TL.split_join (s := 10) (S := []) (by decide +kernel) (by decide +kernel) (lines_ne l1) (lines_no ok w)
structure TextOk (fs : List (Str × Int)) (ds : List (Str × Str × Int)) : Prop where
  nd : (fs.map (·.1)).Nodup
  nm : ∀ f ∈ fs, nameB f.1 = true ∧ 0 ≤ f.2 ∧ f.2 ≤ 9999
  l1 : 1 ≤ fs.length
  l10 : fs.length ≤ 10
  wok : Wok (fs.map (·.1)) ds
section
variable {fs gs : List (Str × Int)} {ds es us : List (Str × Str × Int)}
theorem Wok.prm {ns ms : List Str} (h : Wok ns ds) (p : us.Perm ds) (q : ∀ a ∈ ns, a ∈ ms) : Wok ms us := ⟨(p.map _).nodup_iff.mpr h.nd, fun t ht => by
  obtain ⟨a, b, c⟩ := h.mem t (p.mem_iff.mp ht)
  exact ⟨q _ a, q _ b, c⟩, by rw [p.length_eq]; exact h.len⟩
theorem TextOk.prm (h : TextOk fs ds) (q : gs.Perm fs) (p : us.Perm ds) : TextOk gs us := ⟨(q.map _).nodup_iff.mpr h.nd, fun f hf => h.nm f (q.mem_iff.mp hf), by rw [q.length_eq]; exact h.l1, by rw [q.length_eq]; exact h.l10, h.wok.prm p fun _ m => (q.map _).mem_iff.mpr m⟩
theorem TextOk.trs (h : TextOk fs ds) : ∀ t ∈ ds, nameB t.1 = true ∧ nameB t.2.1 = true ∧ 0 ≤ t.2.2 ∧ t.2.2 ≤ 9999 := fun t ht => by
  have nm : ∀ a ∈ fs.map (·.1), nameB a = true := fun a ha => by obtain ⟨f, hf, rfl⟩ := List.mem_map.mp ha; exact (h.nm f hf).1
  have m := h.wok.mem t ht
  exact ⟨nm _ m.1, nm _ m.2.1, by omega, m.2.2.2.2⟩
theorem TextOk.split (h : TextOk fs ds) : Txt.split (textW fs ds) "\n" = linesW fs ds := lines_split h.l1 h.nm h.wok
theorem join_le (y : Str) : ∀ l : List Str, (Str.join y l).length ≤ (l.map fun x => x.length).sum + l.length * y.length
  | [] => Nat.zero_le _
  | [a] => by
    show a.length ≤ _
    rw [List.map_cons, List.sum_cons]
    omega
  | a :: b :: r => by
    have ih := join_le y (b :: r)
    show (a ++ y ++ Str.join y (b :: r)).length ≤ _
    rw [strLen_append, strLen_append, List.map_cons, List.sum_cons, List.length_cons, Nat.succ_mul]
    omega
theorem TextOk.short (h : TextOk fs ds) : ∀ z ∈ linesW fs ds, z.length ≤ 40 := linesW_len h.nm h.trs
theorem TextOk.lines (h : TextOk fs ds) : (linesW fs ds).length ≤ 34 := by
  have a := h.l10
  have b := h.wok.len
  unfold linesW
  rw [List.length_append, List.length_map, List.length_map]
  omega
theorem TextOk.len (h : TextOk fs ds) : (textW fs ds).length ≤ 2000 := by
  unfold textW
  rw [TL.join_eq]
  have a := join_le "\n" (linesW fs ds)
  have b := sum_len h.short
  have c := h.lines
  have d : ("\n" : Str).length = 1 := by decide +kernel
  rw [d] at a
  omega
end
/-- what the law tells of a text -/
def AnsT (H : Hp) (v : V) (o : Nat ⊕ (List (Str × Int) × List (Str × Str × Int))) : Prop := ∃ t, v = .ref t ∧ ((∃ n : Nat, o = .inl n ∧ H t = some (.tup [.str "BadText", .int (n : Int)])) ∨
  ∃ fs us ds a b rf rw0, o = .inr (fs, us) ∧ (ds : List (Str × Str × Int)).Perm us ∧ PairS (fs.map (·.1)) ds ∧ H t = some (.tup [.str "read", .ref a, .ref b]) ∧ H a = some (.tup rf) ∧ Rows H rf ((fs : List (Str × Int)).map frow) ∧ H b = some (.tup rw0) ∧ Rows H rw0 (ds.map trow))
def sp_law_told (K : PySem.W.Frag) : Sp := fun vs H Q _ => ∃ z : Str, vs = [.str z] ∧ z.length ≤ 100000 ∧ ∀ v H', Same H H' → AnsT H' v (rdL (Txt.split z "\n") 1 [] []) → Q v H'
theorem ok_law_told {f : Addr} {fd : FuncData}
    {f_read_web : Addr} {fd_read_web : FuncData} (D_read_web : Dn K mg "read_web" s_read_web p_read_web f_read_web fd_read_web) (G_read_web : FnOk P w K mg base (L2.CX P w) 9 f_read_web fd_read_web p_read_web (sp_read_web K))
    {f_web_text : Addr} {fd_web_text : FuncData} (D_web_text : Dn K mg "web_text" s_web_text p_web_text f_web_text fd_web_text) (G_web_text : FnOk P w K mg base CX0 3 f_web_text fd_web_text p_web_text (sp_web_text K))
    {f_Web_folk : Addr} {fd_Web_folk : FuncData} (D_Web_folk : Dm K "folk" "Web.folk" s_Web_folk p_Web_folk f_Web_folk fd_Web_folk) (G_Web_folk : FnOk P w K mg base CX0 1 f_Web_folk fd_Web_folk p_Web_folk (sp_Web_folk K))
    {pp_Web_folk : Addr} (P_Web_folk : PropOf K (gad K "Web") "folk" pp_Web_folk f_Web_folk)
    {f_Web_watches : Addr} {fd_Web_watches : FuncData} (D_Web_watches : Dm K "watches" "Web.watches" s_Web_watches p_Web_watches f_Web_watches fd_Web_watches) (G_Web_watches : FnOk P w K mg base CX0 1 f_Web_watches fd_Web_watches p_Web_watches (sp_Web_watches K))
    {pp_Web_watches : Addr} (P_Web_watches : PropOf K (gad K "Web") "watches" pp_Web_watches f_Web_watches)
    {f_law_web_lines : Addr} {fd_law_web_lines : FuncData} (D_law_web_lines : Dn K mg "_law_web_lines" s_law_web_lines p_law_web_lines f_law_web_lines fd_law_web_lines) (G_law_web_lines : FnOk P w K mg base CX0 1 f_law_web_lines fd_law_web_lines p_law_web_lines (sp_law_web_lines K))
    (X_Web : Ci K mg "Web" ["_folk", "_names", "_watches", "_pulls"])
    (Y_BadCount : Ee K mg "BadCount")
    (Y_BadName : Ee K mg "BadName")
    (Y_BadNumber : Ee K mg "BadNumber")
    (Y_BadText : Ee K mg "BadText")
    (Y_DrowseError : Ee K mg "DrowseError")
    (Y_Repeated : Ee K mg "Repeated")
    (Y_UnknownFolk : Ee K mg "UnknownFolk")
    {fI_BadText : Addr} (X_BadText : Dx K mg "BadText" (gad K "BadText") fI_BadText ["line"])
    (Kt : Ek K)
    (T : Txt K mg) (D : Dn K mg "_law_told" s_law_told p_law_told f fd) : FnOk P w K mg base CX0 10 f fd p_law_told (sp_law_told K) := by
  refine D.F.ok sc_law_told (fun vs H Q E h => ?_) (fun cdv A outer s' H vs Q E hr h => ?_)
  · obtain ⟨_, rfl, _⟩ := h
    rfl
  · obtain ⟨z, rfl, lz, k⟩ := h
    refine ⟨_, (pss_cons (ps_try_as (i := 2) (Wout := fun _ _ _ _ => False) rfl rfl sc_law_told.nd rfl rfl ⟨rfl, by decide, .inl Y_DrowseError.g⟩ takes0 (fun W pn xe tk po => (pss_one (ps_set (i := 1) sc_law_told.nd rfl (Or.inl rfl) (pe_callSD (E := fun σ c d H => W c d σ H) G_read_web (hr.mono (by omega)) (by rfl) D_read_web.m D_read_web.F.kp D_read_web.b .nil (fun σ => passAt tk σ) (pa_cons (pv 0) pa_nil)))))
   (fun a oe cls d pn hz hf => (pss_cons (ps_if (PW.pt (pw_and (pt_val (pe_callB (call_isX (K := K) rfl hz hf) (by rfl) T.b_isinstance (by decide +kernel) (pa_cons (pv 2) (pa_cons (pe_globE (v := .ref (gad K "BadText")) (by rfl) ⟨_, Y_BadText.g, rfl⟩) pa_nil)))) (pw_and1 (pt_not (pt_val (pe_callB (call_isX (K := K) rfl hz hf) (by rfl) T.b_isinstance (by decide +kernel) (pa_cons (pv 2) (pa_cons (pe_tup (pa_cons (pe_globE (v := .ref (gad K "BadCount")) (by rfl) ⟨_, Y_BadCount.g, rfl⟩) (pa_cons (pe_globE (v := .ref (gad K "BadName")) (by rfl) ⟨_, Y_BadName.g, rfl⟩) (pa_cons (pe_globE (v := .ref (gad K "BadNumber")) (by rfl) ⟨_, Y_BadNumber.g, rfl⟩) (pa_cons (pe_globE (v := .ref (gad K "Repeated")) (by rfl) ⟨_, Y_Repeated.g, rfl⟩) (pa_cons (pe_globE (v := .ref (gad K "UnknownFolk")) (by rfl) ⟨_, Y_UnknownFolk.g, rfl⟩) pa_nil)))))) pa_nil)))))))) (pss_one (ps_ret (pe_tup (pa_cons pe_str (pa_cons (pe_xf Y_BadText.xf (X_BadText.no "line" (by decide)) hz hf (pv 2)) pa_nil))))) pss_nil)
  (pss_one (ps_ret (pe_tup (pa_cons pe_str (pa_cons pe_int pa_nil))))))))
  (pss_cons (ps_if (pt_cmpR op_ne (pe_call G_web_text (hr.mono (by omega)) (by rfl) D_web_text.m D_web_text.F.kp D_web_text.b .nil pass0 (pa_cons (pv 1) pa_nil)) (pe_bm PySem.F.plainAttrs_str PySem.F.slot_str_join PySem.F.type_str_join mt_join pe_str (pa_cons (pe_call G_law_web_lines (hr.mono (by omega)) (by rfl) D_law_web_lines.m D_law_web_lines.F.kp D_law_web_lines.b .nil pass0 (pa_cons (pe_prop (pv 1) X_Web.cl P_Web_folk G_Web_folk (hr.mono (by omega)) D_Web_folk.b .nil pass0 rfl) (pa_cons (pe_prop (pv 1) X_Web.cl P_Web_watches G_Web_watches (hr.mono (by omega)) D_Web_watches.b .nil pass0 rfl) pa_nil))) pa_nil)) (nomark _)) (pss_one (ps_ret (pe_tup (pa_cons pe_str (pa_cons pe_int pa_nil))))) pss_nil)
  (pss_one (ps_ret (pe_tup (pa_cons pe_str (pa_cons (pe_prop (pv 1) X_Web.cl P_Web_folk G_Web_folk (hr.mono (by omega)) D_Web_folk.b .nil pass0 rfl) (pa_cons (pe_prop (pv 1) X_Web.cl P_Web_watches G_Web_watches (hr.mono (by omega)) D_Web_watches.b .nil pass0 rfl) pa_nil)))))))), ?_⟩
    walk_at "my sts"
    refine ⟨z, rfl, lz, fun l hl => Nat.le_trans (PyProof.Rows.part_short hl) lz, fun n hn d H1 hd ed s1 => ?_, fun fs us hr2 ok x ds H1 _ s1 hw pm so => ?_⟩
    · refine was_yes Kt.m_BadText_DrowseError fun ae hae => ?_
      walk_at "my sts"
      refine isX1 Y_BadText.exc (.inr ⟨d, _, rfl, ed⟩) Kt.k_BadText_BadText ?_
      walk_at "my sts"
      refine tup_end (show 5 ≤ 100000 by decide) fun p3 H2 _ s2 h2 => ?_
      have ed2 := s2 _ _ ed
      walk_at "my sts"
      refine isXT Y_BadText.exc (.inr ⟨d, _, rfl, ed2⟩) h2 (.cons (.own _) (.cons (.own _) (.cons (.own _) (.cons (.own _) (.cons (.own _) .nil))))) (kitAny_no Kt.k_BadText_BadCount (kitAny_no Kt.k_BadText_BadName (kitAny_no Kt.k_BadText_BadNumber (kitAny_no Kt.k_BadText_Repeated (kitAny_no Kt.k_BadText_UnknownFolk rfl))))) ?_
      walk_at "my sts"
      refine ⟨rfl, rfl, d, _, _, rfl, ed2, by with_unfolding_all rfl, ?_⟩
      walk_at "my sts"
      refine tup_end (show 2 ≤ 100000 by decide) fun T H3 _ s3 h3 => ?_
      exact k _ H3 (s1.trans (s2.trans s3)) ⟨T, rfl, .inl ⟨n, hn, h3⟩⟩
    · obtain ⟨xd, _, _, _, _, _, _, _, hxi, _⟩ := id hw
      walk_at "my sts"
      have l1 : 1 ≤ fs.length := rdL_one (fun e => by
        have := PyProof.Rows.split_pos z "\n"
        rw [e] at this
        exact absurd this (by decide)) hr2
      have tx : TextOk fs us := ⟨ok.nd, ok.nm, l1, ok.l10, ok.wok⟩
      have tk := tx.prm (List.Perm.refl fs) pm
      have l10 := tk.l10
      have l24 := tk.wok.len
      refine ⟨x, fs, ds, rfl, hw, l10, by omega, tk.nm, tk.trs, fun H2 s2 => ?_⟩
      have hx2 := s2 _ _ hxi
      walk_at "my sts"
      refine prop_end hx2 ?_
      refine ⟨x, fs, ds, rfl, hw.same s2, fun pf rf H3 s3 h3 r3 => ?_⟩
      have s13 := s2.trans s3
      walk_at "my sts"
      refine prop_end (s13 _ _ hxi) ?_
      refine ⟨x, fs, ds, rfl, hw.same s13, fun pw rw0 H4 s4 h4 r4 => ?_⟩
      have s14 := s13.trans s4
      walk_at "my sts"
      refine ⟨pf, pw, rf, rw0, fs, ds, rfl, .inr (s4 _ _ h3), r3.keep (Tk.same s4), .inr h4, r4, l10, by omega, tk.nm, tk.trs, fun L H5 hL s5 h5 => ?_⟩
      have s15 := s14.trans s5
      have sz := sum_len tk.short
      have ln := tk.lines
      have c1 : ("\n" : Str).length = 1 := by decide +kernel
      walk_at "my sts"
      refine ⟨_, L, linesW fs ds, rfl, rfl, .inl (sqL h5), by rw [c1]; omega, ?_⟩
      have eq : decide (V.str (textW fs ds) = V.str (Txt.join "\n" (linesW fs ds))) = true := decide_eq_true rfl
      walk_at "my sts"
      refine i_ite (fun c => ?_) fun c => ?_
      · rw [eq] at c
        cases c
      walk_at "my sts"
      refine prop_end (s15 _ _ hxi) ?_
      refine ⟨x, fs, ds, rfl, hw.same s15, fun pf2 rf2 H6 s6 h6 r6 => ?_⟩
      have s16 := s15.trans s6
      walk_at "my sts"
      refine prop_end (s16 _ _ hxi) ?_
      refine ⟨x, fs, ds, rfl, hw.same s16, fun pw2 rw2 H7 s7 h7 r7 => ?_⟩
      walk_at "my sts"
      refine tup_end (show 3 ≤ 100000 by decide) fun T H8 _ s8 h8 => ?_
      have s78 := s7.trans s8
      exact k _ H8 (s1.trans (s16.trans s78)) ⟨T, rfl, .inr ⟨fs, us, ds, pf2, pw2, rf2, rw2, hr2, pm, so, h8, s78 _ _ h6, r6.keep (Tk.same s78), s8 _ _ h7, r7.keep (Tk.same s8)⟩⟩
def FS0 (g : TG) (tb : TS) (nx : L2.St → Hp → Prop) (rt : VK) (σ : L2.St) : V → Hp → Prop := fun x H1 => tFor (iStr fun _ H R => R x H) g tb ⟨nx, rt, fun _ _ => False, fun _ _ => False⟩ σ H1
instance {te : TE} {g : TG} {tb : TS} {nx bk ct : L2.St → Hp → Prop} {rt : VK} {σ : L2.St} {H : Hp} : Nx (tFor (iStr te) g tb ⟨nx, rt, bk, ct⟩ σ H) (te σ H fun x H1 => FS0 g tb nx rt σ x H1) := ⟨fun q => q⟩
theorem fs0 {g : TG} {tb : TS} {nx : L2.St → Hp → Prop} {rt : VK} {σ : L2.St} {H : Hp} {z : Str} (Pv : Nat → L2.St → Hp → Prop) (p0 : Pv 0 σ H)
    (ps : ∀ i c σ' H', z.cps.toList[i]? = some c → Pv i σ' H' → g (.str ⟨#[c]⟩) σ' H' fun σ2 H2 => tb ⟨Pv (i + 1), rt, nx, Pv (i + 1)⟩ σ2 H2) (pd : ∀ σ' H', Pv z.cps.toList.length σ' H' → nx σ' H') : FS0 g tb nx rt σ (.str z) H := by
  refine ⟨z, rfl, fun i m σ' H' => m = z.cps.size - i ∧ i ≤ z.cps.size ∧ Pv i σ' H', ⟨z.cps.size, by simp, Nat.zero_le _, p0⟩, ?_⟩
  rintro i m σ' H' ⟨rfl, hi, p⟩
  by_cases hlt : i < z.cps.size
  · refine .inr ⟨hlt, Pv (i + 1), fun σ2 H2 p' => ⟨z.cps.size - (i + 1), by omega, rfl, hlt, p'⟩, fun x H2 y => ?_⟩
    obtain ⟨e, c, hc, ex⟩ := y
    subst e ex
    exact ps i c σ' _ (by rw [Array.getElem?_toList]; exact hc) p
  · have e : i = z.cps.size := by omega
    subst e
    exact .inl ⟨Nat.le_refl _, pd σ' H' (by rw [Array.length_toList]; exact p)⟩
def sp_law_is_name (K : PySem.W.Frag) : Sp := fun vs H Q _ => ∃ (z : Str), vs = [.str z] ∧ z.length ≤ 100000 ∧ ∀ H', Same H H' → Q (.bl (nameB z)) H'
theorem ok_law_is_name {f : Addr} {fd : FuncData}
    (T : Txt K mg) (D : Dn K mg "_law_is_name" s_law_is_name p_law_is_name f fd) : FnOk P w K mg base CX0 1 f fd p_law_is_name (sp_law_is_name K) := by
  refine D.F.ok sc_law_is_name (fun vs H Q E h => ?_) (fun cdv A outer s' H vs Q E hr h => ?_)
  · obtain ⟨z, rfl, _⟩ := h
    rfl
  · obtain ⟨z, rfl, hz, k⟩ := h
    refine ⟨_, (pss_cons (ps_if (PW.pt (pw_or (pt_cmpR op_lt (pe_callB n_lenZ (by rfl) T.b_len (by decide +kernel) (pa_cons (pv 0) pa_nil)) pe_int (nomark _)) (pw_or (pt_cmpR op_gt (pe_callB n_lenZ (by rfl) T.b_len (by decide +kernel) (pa_cons (pv 0) pa_nil)) pe_int (nomark _)) (pw_or1 (pt_cmpR op_notIn_sign (pe_ix ix_str (pv 0) pe_int (fun _ _ => rfl)) pe_str rfl))))) (pss_one (ps_ret pe_bl)) pss_nil)
  (pss_cons (ps_for PassesOwn.never rfl (pi_str (pv 0)) (pg_name (i := 1) sc_law_is_name.nd rfl (Or.inl rfl))
   (pss_one (ps_if (pt_cmpR op_notIn_sign (pv 1) pe_str rfl) (pss_one (ps_ret pe_bl)) pss_nil)))
  (pss_one (ps_ret pe_bl)))), ?_⟩
    walk_at "my sts"
    refine i_ite (fun h1 => ?_) fun h1 => ?_
    · have h1 := of_decide_eq_true h1
      walk_at "my sts"
      rw [← nameB_0 (z := z) (by omega)]
      exact k _ (Same.refl _)
    have h1 : 1 ≤ z.length := by
      have := of_decide_eq_false h1
      omega
    walk_at "my sts"
    refine i_ite (fun h2 => ?_) fun h2 => ?_
    · have h2 := of_decide_eq_true h2
      walk_at "my sts"
      rw [← nameB_9 (z := z) (by omega)]
      exact k _ (Same.refl _)
    have h2 : z.length ≤ 8 := by
      have := of_decide_eq_false h2
      omega
    obtain ⟨c, hc, hf⟩ := first_of h1
    walk_at "my sts"
    refine i_ixS (Nat.le_trans hz (by decide)) (atI_nat (j := 0) hc) ?_
    walk_at "my sts"
    have eA : (Str.ofString "abcdefghijklmnopqrstuvwxyz").cps.toList = AZ := by decide +kernel
    have eA9 : (Str.ofString "abcdefghijklmnopqrstuvwxyz0123456789").cps.toList = AZ9 := by decide +kernel
    refine ⟨c, _, rfl, rfl, _, rfl, ?_⟩
    refine i_ite (fun h3 => ?_) fun h3 => ?_
    · have h3 : decide (c ∈ AZ) = false := by rw [← eA]; exact nbT h3
      walk_at "my sts"
      rw [← nameB_f (hf.trans h3)]
      exact k _ (Same.refl _)
    have h3 : decide (c ∈ AZ) = true := by rw [← eA]; exact nbF h3
    have ek := nameB_ok h1 h2 (hf.trans h3)
    walk_at "my sts"
    refine fs0 (z := z) (fun i σ' H' => H' = H ∧ (∃ u, σ' = [some (.str z), u]) ∧ ∀ j d, j < i → z.cps.toList[j]? = some d → d ∈ AZ9) ⟨rfl, ⟨_, rfl⟩, fun j d hj => absurd hj (by omega)⟩ ?_ ?_
    · rintro i d σ' H' hd ⟨rfl, ⟨u, rfl⟩, al⟩
      walk_at "my sts"
      refine ⟨d, _, rfl, rfl, _, rfl, ?_⟩
      refine i_ite (fun h4 => ?_) fun h4 => ?_
      · have h4 : d ∉ AZ9 := of_decide_eq_false (by rw [← eA9]; exact nbT h4)
        walk_at "my sts"
        have : nameB z = false := by
          rw [ek, ← Bool.not_eq_true, List.all_eq_true]
          exact fun al => h4 (of_decide_eq_true (al d (List.mem_of_getElem? hd)))
        rw [← this]
        exact k _ (Same.refl _)
      · have h4 : d ∈ AZ9 := of_decide_eq_true (by rw [← eA9]; exact nbF h4)
        walk_at "my sts"
        refine ⟨rfl, ⟨_, rfl⟩, fun j e hj he => ?_⟩
        by_cases c : j < i
        · exact al j e c he
        · have : j = i := by omega
          subst this
          rw [hd] at he
          cases he
          exact h4
    · rintro σ' H' ⟨rfl, ⟨u, rfl⟩, al⟩
      walk_at "my sts"
      have : nameB z = true := by
        rw [ek, List.all_eq_true]
        intro d hd
        obtain ⟨j, hj⟩ := List.mem_iff_getElem?.mp hd
        exact decide_eq_true (al j d (List.getElem?_eq_some_iff.mp hj).1 hj)
      rw [← this]
      exact k _ (Same.refl _)
theorem join_signs : ∀ cs : List Nat, TL.tl (Str.join "" (cs.map fun c => (⟨#[c]⟩ : Str))) = cs
  | [] => rfl
  | [c] => rfl
  | c :: d :: r => by
    show TL.tl ((⟨#[c]⟩ : Str) ++ "" ++ Str.join "" ((d :: r).map fun c => (⟨#[c]⟩ : Str))) = _
    rw [TL.tl_append, TL.tl_append, join_signs (d :: r)]
    rfl
theorem join_all {z : Str} : decide (Txt.join "" ((z.cps.toList.filter fun c => decide (c ∈ N09)).map fun c => (⟨#[c]⟩ : Str)) = z) = z.cps.toList.all fun c => decide (c ∈ N09) := by
  rw [Bool.eq_iff_iff, decide_eq_true_eq, List.all_eq_true, TL.join_eq]
  constructor
  · intro h
    have e := congrArg TL.tl h
    rw [join_signs] at e
    exact List.filter_eq_self.mp e
  · intro h
    refine TL.ext_tl ?_
    rw [join_signs]
    exact List.filter_eq_self.mpr h
def sp_law_number_fine (K : PySem.W.Frag) : Sp := fun vs H Q _ => ∃ (z : Str), vs = [.str z] ∧ z.length ≤ 100000 ∧ ∀ H', Same H H' → Q (.bl (numB z)) H'
theorem ok_law_number_fine {f : Addr} {fd : FuncData}
    (T : Txt K mg) (D : Dn K mg "_law_number_fine" s_law_number_fine p_law_number_fine f fd) : FnOk P w K mg base CX0 1 f fd p_law_number_fine (sp_law_number_fine K) := by
  refine D.F.ok sc_law_number_fine (fun vs H Q E h => ?_) (fun cdv A outer s' H vs Q E hr h => ?_)
  · obtain ⟨z, rfl, _⟩ := h
    rfl
  · obtain ⟨z, rfl, hz, k⟩ := h
    refine ⟨_, (pss_cons (ps_if (PW.pt (pw_or (pt_cmpR op_lt (pe_callB n_lenZ (by rfl) T.b_len (by decide +kernel) (pa_cons (pv 0) pa_nil)) pe_int (nomark _)) (pw_or (pt_cmpR op_gt (pe_callB n_lenZ (by rfl) T.b_len (by decide +kernel) (pa_cons (pv 0) pa_nil)) pe_int (nomark _)) (pw_or1 (PW.pt (pw_and (pt_cmpR op_eq (pe_ix ix_str (pv 0) pe_int (fun _ _ => rfl)) pe_str (nomark _)) (pw_and1 (pt_cmpR op_ne (pv 0) pe_str (nomark _))))))))) (pss_one (ps_ret pe_bl)) pss_nil)
  (pss_one (ps_ret (pe_cmpR op_eq (pe_bm PySem.F.plainAttrs_str PySem.F.slot_str_join PySem.F.type_str_join mt_join pe_str (pa_cons (pe_lc (own := [("sign", 1)]) rfl sc_law_number_fine.nd (pi_str (pv 0)) (blkOk_by (own := [("sign", 1)]) (N := n_law_number_fine) (sc := defScope s_law_number_fine) (by decide +kernel)) (fun _ _ _ _ _ => (pg_name (i := 1) sc_law_number_fine.nd rfl (Or.inl rfl))) (fun _ _ _ _ _ => (pts_one (pt_cmpR n_inG (pv 1) pe_str rfl))) (fun _ _ _ _ _ => (pv 1))) pa_nil)) (pv 0) (nomark _))))), ?_⟩
    walk_at "my sts"
    have e09 : (Str.ofString "0123456789").cps.toList = N09 := by decide +kernel
    refine i_ite (fun h1 => ?_) fun h1 => ?_
    · have h1 := of_decide_eq_true h1
      have k := k H (Same.refl _)
      rw [show numB z = false by unfold numB; rw [decide_eq_false (show ¬ 1 ≤ z.length by omega), Bool.false_and]] at k
      walk_at "my sts"
      exact k
    have h1 : 1 ≤ z.length := by
      have := of_decide_eq_false h1
      omega
    walk_at "my sts"
    refine i_ite (fun h2 => ?_) fun h2 => ?_
    · have h2 := of_decide_eq_true h2
      have k := k H (Same.refl _)
      rw [show numB z = false by unfold numB; rw [decide_eq_false (show ¬ z.length ≤ 4 by omega), Bool.false_and, Bool.and_false]] at k
      walk_at "my sts"
      exact k
    have h2 : z.length ≤ 4 := by
      have := of_decide_eq_false h2
      omega
    obtain ⟨c, hc, hf⟩ := first_of h1
    walk_at "my sts"
    refine i_ixS (Nat.le_trans hz (by decide)) (atI_nat (j := 0) hc) ?_
    walk_at "my sts"
    have ez : decide (V.str (⟨#[c]⟩ : Str) = V.str (Str.ofString "0")) = decide (c = 48) := dec_strN.trans (decide_eq_decide.mpr sign_zero)
    have e1 : decide (V.str z = V.str (Str.ofString "0")) = decide (z = "0") := dec_strN
    rw [ez]
    refine i_ite (fun h3 => ?_) fun h3 => ?_
    · have h3 : c = 48 := of_decide_eq_true h3
      walk_at "my sts"
      refine i_ite (fun h4 => ?_) fun h4 => ?_
      · have h4 : ¬ z = "0" := fun e => of_decide_eq_false (nbT h4) (by rw [e])
        have k := k H (Same.refl _)
        rw [show numB z = false by unfold numB; rw [decide_eq_false h4, hc, h3]; simp] at k
        walk_at "my sts"
        exact k
      · have h4 : z = "0" := by
          have := of_decide_eq_true (nbF h4)
          injection this
        have ek : numB z = z.cps.toList.all fun c => decide (c ∈ N09) := by
          unfold numB
          rw [decide_eq_true h1, decide_eq_true h2, decide_eq_true h4]
          simp
        rw [ek] at k
        walk_at "my sts"
        refine cs (z := z) (fun Dl i H' => Same H H' ∧ H' Dl = some (.lst ((((z.cps.toList.take i).filter fun c => decide (c ∈ N09)).map fun c => (⟨#[c]⟩ : Str)).map V.str))) (fun Dl hD => ⟨same_new hD, upd_same⟩) ?_ ?_
        · rintro Dl i d H' hD hc' ⟨sm, hd⟩
          have hd' := of_arr hc'
          refine ⟨rfl, ?_⟩
          walk_at "my sts"
          rw [e09]
          have ll : z.cps.toList.length = z.length := Array.length_toList
          have lf : ((z.cps.toList.take i).filter fun c => decide (c ∈ N09)).length ≤ 4 := Nat.le_trans (List.length_filter_le _ _) (Nat.le_trans (List.length_take_le' _ _) (by omega))
          refine i_ite (fun h => ?_) fun h => ?_
          · walk_at "my sts"
            refine ⟨_, hd, Nat.lt_of_le_of_lt (show _ ≤ 1000 by rw [List.length_map, List.length_map]; omega) (by decide), same_mut sm hD, ?_⟩
            rw [upd_same, take_filter _ hd', if_pos h, List.map_append, List.map_append]
            rfl
          · refine ⟨sm, ?_⟩
            rw [hd, take_filter _ hd', if_neg (by rw [h]; decide), List.append_nil]
        · rintro Dl H' hD ⟨sm, hd⟩
          rw [← Array.length_toList, take_all] at hd
          walk_at "my sts"
          have ll : z.cps.toList.length = z.length := Array.length_toList
          have lf : (z.cps.toList.filter fun c => decide (c ∈ N09)).length ≤ 4 := Nat.le_trans (List.length_filter_le _ _) (by omega)
          have one : ∀ y ∈ (z.cps.toList.filter fun c => decide (c ∈ N09)).map fun c => (⟨#[c]⟩ : Str), y.length ≤ 1 := fun y hy => by
            obtain ⟨d, _, rfl⟩ := List.mem_map.mp hy
            exact Nat.le_refl 1
          have sl := tot_le one
          rw [List.length_map] at sl
          unfold tot at sl
          have c0 : (Str.ofString "").length = 0 := by decide +kernel
          refine ⟨_, Dl, (z.cps.toList.filter fun c => decide (c ∈ N09)).map fun c => (⟨#[c]⟩ : Str), rfl, rfl, .inl (sqL hd), by rw [c0, Nat.mul_zero]; omega, ?_⟩
          walk_at "my sts"
          have e : decide (V.str (Txt.join (Str.ofString "") ((z.cps.toList.filter fun c => decide (c ∈ N09)).map fun c => (⟨#[c]⟩ : Str))) = V.str z) = z.cps.toList.all fun c => decide (c ∈ N09) := dec_strN.trans join_all
          rw [e]
          exact k _ sm
    · have h3 : ¬ c = 48 := of_decide_eq_false h3
      have ek : numB z = z.cps.toList.all fun c => decide (c ∈ N09) := by
        unfold numB
        rw [decide_eq_true h1, decide_eq_true h2, hc, decide_eq_false (show ¬ some c = some 48 from fun e => h3 (Option.some.inj e))]
        simp
      rw [ek] at k
      walk_at "my sts"
      refine cs (z := z) (fun Dl i H' => Same H H' ∧ H' Dl = some (.lst ((((z.cps.toList.take i).filter fun c => decide (c ∈ N09)).map fun c => (⟨#[c]⟩ : Str)).map V.str))) (fun Dl hD => ⟨same_new hD, upd_same⟩) ?_ ?_
      · rintro Dl i d H' hD hc' ⟨sm, hd⟩
        have hd' := of_arr hc'
        refine ⟨rfl, ?_⟩
        walk_at "my sts"
        rw [e09]
        have ll : z.cps.toList.length = z.length := Array.length_toList
        have lf : ((z.cps.toList.take i).filter fun c => decide (c ∈ N09)).length ≤ 4 := Nat.le_trans (List.length_filter_le _ _) (Nat.le_trans (List.length_take_le' _ _) (by omega))
        refine i_ite (fun h => ?_) fun h => ?_
        · walk_at "my sts"
          refine ⟨_, hd, Nat.lt_of_le_of_lt (show _ ≤ 1000 by rw [List.length_map, List.length_map]; omega) (by decide), same_mut sm hD, ?_⟩
          rw [upd_same, take_filter _ hd', if_pos h, List.map_append, List.map_append]
          rfl
        · refine ⟨sm, ?_⟩
          rw [hd, take_filter _ hd', if_neg (by rw [h]; decide), List.append_nil]
      · rintro Dl H' hD ⟨sm, hd⟩
        rw [← Array.length_toList, take_all] at hd
        walk_at "my sts"
        have ll : z.cps.toList.length = z.length := Array.length_toList
        have lf : (z.cps.toList.filter fun c => decide (c ∈ N09)).length ≤ 4 := Nat.le_trans (List.length_filter_le _ _) (by omega)
        have one : ∀ y ∈ (z.cps.toList.filter fun c => decide (c ∈ N09)).map fun c => (⟨#[c]⟩ : Str), y.length ≤ 1 := fun y hy => by
          obtain ⟨d, _, rfl⟩ := List.mem_map.mp hy
          exact Nat.le_refl 1
        have sl := tot_le one
        rw [List.length_map] at sl
        unfold tot at sl
        have c0 : (Str.ofString "").length = 0 := by decide +kernel
        refine ⟨_, Dl, (z.cps.toList.filter fun c => decide (c ∈ N09)).map fun c => (⟨#[c]⟩ : Str), rfl, rfl, .inl (sqL hd), by rw [c0, Nat.mul_zero]; omega, ?_⟩
        walk_at "my sts"
        have e : decide (V.str (Txt.join (Str.ofString "") ((z.cps.toList.filter fun c => decide (c ∈ N09)).map fun c => (⟨#[c]⟩ : Str))) = V.str z) = z.cps.toList.all fun c => decide (c ∈ N09) := dec_strN.trans join_all
        rw [e]
        exact k _ sm
def sp_law_folk_line (K : PySem.W.Frag) : Sp := fun vs H Q _ => ∃ (p q r : Addr) (ys xs : List V) (ws : List Str) (fs : List (Str × Int)) (us : List (Str × Str × Int)), vs = [.ref p, .ref q, .ref r] ∧ H p = some (.lst (ws.map V.str)) ∧ H q = some (.lst ys) ∧ Rows H ys (fs.map frow) ∧ H r = some (.lst xs) ∧ Rows H xs (us.map trow) ∧ fs.length ≤ 10 ∧ us.length ≤ 24 ∧ (∀ w ∈ ws, w.length ≤ 100000) ∧ ∀ H', Same H H' → Q (.bl (flB ws fs us)) H'
theorem ok_law_folk_line {f : Addr} {fd : FuncData}
    {f_law_is_name : Addr} {fd_law_is_name : FuncData} (D_law_is_name : Dn K mg "_law_is_name" s_law_is_name p_law_is_name f_law_is_name fd_law_is_name) (G_law_is_name : FnOk P w K mg base CX0 1 f_law_is_name fd_law_is_name p_law_is_name (sp_law_is_name K))
    {f_law_number_fine : Addr} {fd_law_number_fine : FuncData} (D_law_number_fine : Dn K mg "_law_number_fine" s_law_number_fine p_law_number_fine f_law_number_fine fd_law_number_fine) (G_law_number_fine : FnOk P w K mg base CX0 1 f_law_number_fine fd_law_number_fine p_law_number_fine (sp_law_number_fine K))
    {f_law_names_of : Addr} {fd_law_names_of : FuncData} (D_law_names_of : Dn K mg "_law_names_of" s_law_names_of p_law_names_of f_law_names_of fd_law_names_of) (G_law_names_of : FnOk P w K mg base CX0 1 f_law_names_of fd_law_names_of p_law_names_of (sp_law_names_of K))
    (T : Txt K mg) (D : Dn K mg "_law_folk_line" s_law_folk_line p_law_folk_line f fd) : FnOk P w K mg base CX0 2 f fd p_law_folk_line (sp_law_folk_line K) := by
  refine D.F.ok sc_law_folk_line (fun vs H Q E h => ?_) (fun cdv A outer s' H vs Q E hr h => ?_)
  · obtain ⟨_, _, _, _, _, _, _, _, rfl, _⟩ := h
    rfl
  · obtain ⟨p, q, r, ys, xs, ws, fs, us, rfl, hp, hq, rq, hr1, rr, lf, lu, lw, k⟩ := h
    have lq := rq.len
    have lr := rr.len
    rw [List.length_map] at lq lr
    refine ⟨_, (pss_cons (ps_if (PW.pt (pw_or (pt_cmpR op_ne (pe_callB (n_lenQK (K := K) rfl) (by rfl) T.b_len (by decide +kernel) (pa_cons (pv 0) pa_nil)) pe_int (nomark _)) (pw_or (pt_cmpR op_ne (pe_ix (ix_listK (K := K) rfl) (pv 0) pe_int (fun _ _ => rfl)) pe_str (nomark _)) (pw_or (pt_cmpR op_gt (pe_callB (n_lenQK (K := K) rfl) (by rfl) T.b_len (by decide +kernel) (pa_cons (pv 2) pa_nil)) pe_int (nomark _)) (pw_or1 (pt_cmpR op_eq (pe_callB (n_lenQK (K := K) rfl) (by rfl) T.b_len (by decide +kernel) (pa_cons (pv 1) pa_nil)) pe_int (nomark _))))))) (pss_one (ps_ret pe_bl)) pss_nil)
  (pss_one (ps_ret (pe_and (pe_call G_law_is_name (hr.mono (by omega)) (by rfl) D_law_is_name.m D_law_is_name.F.kp D_law_is_name.b .nil pass0 (pa_cons (pe_ix (ix_listK (K := K) rfl) (pv 0) pe_int (fun _ _ => rfl)) pa_nil)) (pe_and (pe_cmpR (op_notIn_seqK (K := K) rfl) (pe_ix (ix_listK (K := K) rfl) (pv 0) pe_int (fun _ _ => rfl)) (pe_call G_law_names_of (hr.mono (by omega)) (by rfl) D_law_names_of.m D_law_names_of.F.kp D_law_names_of.b .nil pass0 (pa_cons (pv 1) pa_nil)) (by rfl)) (pe_one (pe_call G_law_number_fine (hr.mono (by omega)) (by rfl) D_law_number_fine.m D_law_number_fine.F.kp D_law_number_fine.b .nil pass0 (pa_cons (pe_ix (ix_listK (K := K) rfl) (pv 0) pe_int (fun _ _ => rfl)) pa_nil)))))))), ?_⟩
    walk_at "my sts"
    refine i_ite (fun c1 => ?_) fun c1 => ?_
    · have ne : ¬ ws.length = 3 := fun e => by
        have := of_decide_eq_false (nbT c1)
        rw [List.length_map, e] at this
        exact this rfl
      have k := k H (Same.refl _)
      unfold flB at k
      rw [decide_eq_false ne, Bool.false_and] at k
      walk_at "my sts"
      exact k
    have l3 : ws.length = 3 := by
      have := of_decide_eq_true (nbF c1)
      injection this with this
      rw [List.length_map] at this
      omega
    unfold flB at k
    rw [decide_eq_true l3, Bool.true_and] at k
    walk_at "my sts"
    refine i_ixL (sqL hp) (at_nth (i := 0) (by omega)) ?_
    walk_at "my sts"
    refine i_ite (fun c2 => ?_) fun c2 => ?_
    · have ne : ¬ nth ws 0 = "folk" := fun e => of_decide_eq_false (nbT c2) (by rw [e])
      have k := k H (Same.refl _)
      rw [decide_eq_false ne, Bool.false_and] at k
      walk_at "my sts"
      exact k
    have e0 : nth ws 0 = "folk" := by
      have := of_decide_eq_true (nbF c2)
      injection this
    rw [decide_eq_true e0, Bool.true_and] at k
    walk_at "my sts"
    refine i_ite (fun c3 => ?_) fun c3 => ?_
    · have ne : ¬ us.length = 0 := by
        have := of_decide_eq_true c3
        omega
      have k := k H (Same.refl _)
      rw [decide_eq_false ne, Bool.false_and] at k
      walk_at "my sts"
      exact k
    have e3 : us.length = 0 := by
      have := of_decide_eq_false c3
      omega
    rw [decide_eq_true e3, Bool.true_and] at k
    walk_at "my sts"
    refine i_ite (fun c4 => ?_) fun c4 => ?_
    · have e4 : ¬ fs.length < 10 := by
        have := of_decide_eq_true c4
        injection this with this
        omega
      have k := k H (Same.refl _)
      rw [decide_eq_false e4, Bool.false_and, Bool.and_false, Bool.and_false] at k
      walk_at "my sts"
      exact k
    have e4 : fs.length < 10 := by
      have h := of_decide_eq_false c4
      have : fs.length ≠ 10 := fun e => h (by rw [lq, e]; rfl)
      omega
    rw [decide_eq_true e4, Bool.true_and] at k
    walk_at "my sts"
    refine i_ixL (sqL hp) (at_nth (i := 1) (by omega)) ?_
    walk_at "my sts"
    refine ⟨nth ws 1, rfl, lw _ (nth_mem (by omega)), fun H1 s1 => ?_⟩
    have hp1 := s1 _ _ hp
    have hq1 := s1 _ _ hq
    cases c5 : nameB (nth ws 1) with
    | false =>
      rw [c5] at k
      walk_at "my sts"
      exact k _ s1
    | true =>
      rw [c5] at k
      walk_at "my sts"
      refine i_ixL (sqL hp1) (at_nth (i := 1) (by omega)) ?_
      walk_at "my sts"
      refine ⟨q, ys, fs, rfl, hq1, rq.keep (Tk.same s1), by omega, fun N H2 hN h2 s2 => ?_⟩
      have s02 := s1.trans s2
      have hp2 := s02 _ _ hp
      refine i_notInStr (sqL h2) ?_
      refine ⟨_, rfl, ?_⟩
      refine i_ite (fun m => ?_) fun m => ?_
      · rw [m] at k
        walk_at "my sts"
        refine i_ixL (sqL hp2) (at_nth (i := 2) (by omega)) ?_
        walk_at "my sts"
        refine ⟨nth ws 2, rfl, lw _ (nth_mem (by omega)), fun H3 s3 => ?_⟩
        have k := k H3 (s02.trans s3)
        rw [Bool.and_true, Bool.true_and] at k
        exact k
      · rw [m, Bool.and_false, Bool.and_false] at k
        exact k _ s02
def sp_law_watch_line (K : PySem.W.Frag) : Sp := fun vs H Q _ => ∃ (p q r : Addr) (ys xs : List V) (ws : List Str) (fs : List (Str × Int)) (us : List (Str × Str × Int)), vs = [.ref p, .ref q, .ref r] ∧ H p = some (.lst (ws.map V.str)) ∧ H q = some (.lst ys) ∧ Rows H ys (fs.map frow) ∧ H r = some (.lst xs) ∧ Rows H xs (us.map trow) ∧ fs.length ≤ 10 ∧ us.length ≤ 24 ∧ (∀ w ∈ ws, w.length ≤ 100000) ∧ ∀ H', Same H H' → Q (.bl (wlB ws fs us)) H'
theorem ok_law_watch_line {f : Addr} {fd : FuncData}
    {f_law_names_of : Addr} {fd_law_names_of : FuncData} (D_law_names_of : Dn K mg "_law_names_of" s_law_names_of p_law_names_of f_law_names_of fd_law_names_of) (G_law_names_of : FnOk P w K mg base CX0 1 f_law_names_of fd_law_names_of p_law_names_of (sp_law_names_of K))
    {f_law_number_fine : Addr} {fd_law_number_fine : FuncData} (D_law_number_fine : Dn K mg "_law_number_fine" s_law_number_fine p_law_number_fine f_law_number_fine fd_law_number_fine) (G_law_number_fine : FnOk P w K mg base CX0 1 f_law_number_fine fd_law_number_fine p_law_number_fine (sp_law_number_fine K))
    (T : Txt K mg) (D : Dn K mg "_law_watch_line" s_law_watch_line p_law_watch_line f fd) : FnOk P w K mg base CX0 2 f fd p_law_watch_line (sp_law_watch_line K) := by
  refine D.F.ok sc_law_watch_line (fun vs H Q E h => ?_) (fun cdv A outer s' H vs Q E hr h => ?_)
  · obtain ⟨_, _, _, _, _, _, _, _, rfl, _⟩ := h
    rfl
  · obtain ⟨p, q, r, ys, xs, ws, fs, us, rfl, hp, hq, rq, hr1, rr, lf, lu, lw, k⟩ := h
    have lq := rq.len
    have lr := rr.len
    rw [List.length_map] at lq lr
    refine ⟨_, (pss_cons (ps_if (PW.pt (pw_or (pt_cmpR op_ne (pe_callB (n_lenQK (K := K) rfl) (by rfl) T.b_len (by decide +kernel) (pa_cons (pv 0) pa_nil)) pe_int (nomark _)) (pw_or (pt_cmpR op_ne (pe_ix (ix_listK (K := K) rfl) (pv 0) pe_int (fun _ _ => rfl)) pe_str (nomark _)) (pw_or (pt_cmpR op_eq (pe_callB (n_lenQK (K := K) rfl) (by rfl) T.b_len (by decide +kernel) (pa_cons (pv 2) pa_nil)) pe_int (nomark _)) (pw_or1 (pt_cmpR op_eq (pe_ix (ix_listK (K := K) rfl) (pv 0) pe_int (fun _ _ => rfl)) (pe_ix (ix_listK (K := K) rfl) (pv 0) pe_int (fun _ _ => rfl)) (nomark _))))))) (pss_one (ps_ret pe_bl)) pss_nil)
  (pss_cons (ps_set (i := 3) sc_law_watch_line.nd rfl (Or.inl rfl) (pe_call G_law_names_of (hr.mono (by omega)) (by rfl) D_law_names_of.m D_law_names_of.F.kp D_law_names_of.b .nil pass0 (pa_cons (pv 1) pa_nil)))
  (pss_cons (ps_if (PW.pt (pw_or (pt_cmpR (op_notIn_seqK (K := K) rfl) (pe_ix (ix_listK (K := K) rfl) (pv 0) pe_int (fun _ _ => rfl)) (pv 3) (by rfl)) (pw_or (pt_cmpR (op_notIn_seqK (K := K) rfl) (pe_ix (ix_listK (K := K) rfl) (pv 0) pe_int (fun _ _ => rfl)) (pv 3) (by rfl)) (pw_or (pt_not (pt_val (pe_call G_law_number_fine (hr.mono (by omega)) (by rfl) D_law_number_fine.m D_law_number_fine.F.kp D_law_number_fine.b .nil pass0 (pa_cons (pe_ix (ix_listK (K := K) rfl) (pv 0) pe_int (fun _ _ => rfl)) pa_nil)))) (pw_or1 (pt_cmpR op_eq (pe_ix (ix_listK (K := K) rfl) (pv 0) pe_int (fun _ _ => rfl)) pe_str (nomark _))))))) (pss_one (ps_ret pe_bl)) pss_nil)
  (pss_one (ps_ret (pe_cmpR (op_eqN (K := K) rfl hr.units) (pe_lc (own := [("triple", 4)]) rfl sc_law_watch_line.nd (pi_list (pv 2)) (blkOk_by (own := [("triple", 4)]) (N := n_law_watch_line) (sc := defScope s_law_watch_line) (by decide +kernel)) (fun _ _ _ _ _ => (pg_name (i := 4) sc_law_watch_line.nd rfl (Or.inl rfl))) (fun _ _ _ _ _ => (pts_one (PW.pt (pw_and (pt_cmpR op_eq (pe_ix (ix_tupK (K := K) rfl) (pv 4) pe_int (fun _ _ => rfl)) (pe_ix (ix_listK (K := K) rfl) (pv 0) pe_int (fun _ _ => rfl)) (nomark _)) (pw_and1 (pt_cmpR op_eq (pe_ix (ix_tupK (K := K) rfl) (pv 4) pe_int (fun _ _ => rfl)) (pe_ix (ix_listK (K := K) rfl) (pv 0) pe_int (fun _ _ => rfl)) (nomark _))))))) (fun _ _ _ _ _ => (pv 4))) (pe_lst pa_nil) (nomark _))))))), ?_⟩
    walk_at "my sts"
    have kb : ∀ b, wlB ws fs us = b → ∀ H', Same H H' → Q (.bl b) H' := fun b e => e ▸ k
    clear k
    refine i_ite (fun c1 => ?_) fun c1 => ?_
    · have ne : ¬ ws.length = 4 := fun e => by
        have := of_decide_eq_false (nbT c1)
        rw [List.length_map, e] at this
        exact this rfl
      walk_at "my sts"
      exact kb false (by unfold wlB; rw [decide_eq_false ne]; rfl) H (Same.refl _)
    have l3 : ws.length = 4 := by
      have := of_decide_eq_true (nbF c1)
      injection this with this
      rw [List.length_map] at this
      omega
    walk_at "my sts"
    refine i_ixL (sqL hp) (at_nth (i := 0) (by omega)) ?_
    walk_at "my sts"
    refine i_ite (fun c2 => ?_) fun c2 => ?_
    · have ne : ¬ nth ws 0 = "watch" := fun e => of_decide_eq_false (nbT c2) (by rw [e])
      walk_at "my sts"
      exact kb false (by unfold wlB; rw [decide_eq_false ne]; simp) H (Same.refl _)
    have e0 : nth ws 0 = "watch" := by
      have := of_decide_eq_true (nbF c2)
      injection this
    walk_at "my sts"
    refine i_ite (fun c3 => ?_) fun c3 => ?_
    · have e3 : ¬ us.length < 24 := by
        have := of_decide_eq_true c3
        injection this with this
        omega
      walk_at "my sts"
      exact kb false (by unfold wlB; rw [decide_eq_false e3]; simp) H (Same.refl _)
    have e3 : us.length < 24 := by
      have h := of_decide_eq_false c3
      have : us.length ≠ 24 := fun e => h (by rw [lr, e]; rfl)
      omega
    walk_at "my sts"
    refine i_ixL (sqL hp) (at_nth (i := 1) (by omega)) ?_
    walk_at "my sts"
    refine i_ixL (sqL hp) (at_nth (i := 2) (by omega)) ?_
    walk_at "my sts"
    refine i_ite (fun c4 => ?_) fun c4 => ?_
    · have e4 : nth ws 1 = nth ws 2 := by
        have := of_decide_eq_true c4
        injection this
      walk_at "my sts"
      exact kb false (by unfold wlB; rw [decide_eq_true e4]; simp) H (Same.refl _)
    have e4 : ¬ nth ws 1 = nth ws 2 := fun e => of_decide_eq_false c4 (by rw [e])
    walk_at "my sts"
    refine ⟨q, ys, fs, rfl, hq, rq, by omega, fun N H1 hN h1 s1 => ?_⟩
    have hp1 := s1 _ _ hp
    walk_at "my sts"
    refine i_ixL (sqL hp1) (at_nth (i := 1) (by omega)) ?_
    walk_at "my sts"
    refine i_notInStr (sqL h1) ?_
    walk_at "my sts"
    refine i_ite (fun c5 => ?_) fun c5 => ?_
    · walk_at "my sts"
      exact kb false (by unfold wlB; rw [nbT c5]; simp) H1 s1
    have c5' : decide (nth ws 1 ∈ fs.map (·.1)) = true := nbF c5
    walk_at "my sts"
    refine i_ixL (sqL hp1) (at_nth (i := 2) (by omega)) ?_
    walk_at "my sts"
    refine i_notInStr (sqL h1) ?_
    walk_at "my sts"
    refine i_ite (fun c6 => ?_) fun c6 => ?_
    · walk_at "my sts"
      exact kb false (by unfold wlB; rw [nbT c6]; simp) H1 s1
    have c6' : decide (nth ws 2 ∈ fs.map (·.1)) = true := nbF c6
    walk_at "my sts"
    refine i_ixL (sqL hp1) (at_nth (i := 3) (by omega)) ?_
    walk_at "my sts"
    refine ⟨nth ws 3, rfl, lw _ (nth_mem (by omega)), fun H2 s2 => ?_⟩
    have s02 := s1.trans s2
    have hp2 := s02 _ _ hp
    cases c7 : numB (nth ws 3) with
    | false =>
      walk_at "my sts"
      exact kb false (by unfold wlB; rw [c7]; simp) H2 s02
    | true =>
      walk_at "my sts"
      refine i_ixL (sqL hp2) (at_nth (i := 3) (by omega)) ?_
      walk_at "my sts"
      refine i_ite (fun c8 => ?_) fun c8 => ?_
      · have e8 : nth ws 3 = "0" := by
          have := of_decide_eq_true c8
          injection this
        walk_at "my sts"
        exact kb false (by unfold wlB; rw [decide_eq_true e8]; simp) H2 s02
      have e8 : ¬ nth ws 3 = "0" := fun e => of_decide_eq_false c8 (by rw [e])
      walk_at "my sts"
      have hr2 := s02 _ _ hr1
      have rr2 := rr.keep (Tk.same s02)
      refine cl (xs := xs) (sqL hr2) (fun D i H' => Same H2 H' ∧ ∃ ys, H' D = some (.lst ys) ∧ ys.length ≤ i ∧ ys.isEmpty = !decide ([nth ws 1, nth ws 2] ∈ (us.take i).map fun t => [t.1, t.2.1])) (fun D hD => ⟨same_new hD, [], upd_same, Nat.le_refl _, rfl⟩) (fun D i H' _ _ g => sqL (g.1 _ _ hr2)) ?_ ?_
      · rintro D i v H' hD hv ⟨sa, ys2, hys, ly, ey⟩
        obtain ⟨t, d, rfl, hd, ht⟩ := (rr2.keep (Tk.same sa)).get hv
        rw [List.getElem?_map] at hd
        obtain ⟨u, hu, rfl⟩ := Option.map_eq_some_iff.mp hd
        refine ⟨rfl, ?_⟩
        have hpx := sa _ _ hp2
        walk_at "my sts"
        have hi := (List.getElem?_eq_some_iff.mp hu).1
        have lus : us.length ≤ 24 := lu
        have tk : decide ([nth ws 1, nth ws 2] ∈ (us.take (i + 1)).map fun t => [t.1, t.2.1]) = (decide ([nth ws 1, nth ws 2] ∈ (us.take i).map fun t => [t.1, t.2.1]) || (decide (u.1 = nth ws 1) && decide (u.2.1 = nth ws 2))) := by
          rw [take_map _ hu, Bool.eq_iff_iff, Bool.or_eq_true, Bool.and_eq_true, decide_eq_true_eq, decide_eq_true_eq, decide_eq_true_eq, decide_eq_true_eq, List.mem_append]
          refine or_congr Iff.rfl ?_
          rw [List.mem_singleton]
          constructor
          · intro h
            injection h with h1 h2
            injection h2 with h2
            exact ⟨h1.symm, h2.symm⟩
          · rintro ⟨h1, h2⟩
            rw [h1, h2]
        refine i_ixL (sqL hpx) (at_nth (i := 1) (by omega)) ?_
        walk_at "my sts"
        refine i_ite (fun c9 => ?_) fun c9 => ?_
        · have e9 : u.1 = nth ws 1 := by
            have := of_decide_eq_true c9
            injection this
          walk_at "my sts"
          refine i_ixL (sqL hpx) (at_nth (i := 2) (by omega)) ?_
          walk_at "my sts"
          refine i_ite (fun c10 => ?_) fun c10 => ?_
          · have e10 : u.2.1 = nth ws 2 := by
              have := of_decide_eq_true c10
              injection this
            walk_at "my sts"
            refine ⟨ys2, hys, Nat.lt_of_le_of_lt (show ys2.length ≤ 1000 by omega) (by decide), same_mut sa hD, _, upd_same, by rw [List.length_append]; show ys2.length + 1 ≤ i + 1; omega, ?_⟩
            rw [tk, decide_eq_true e9, decide_eq_true e10]
            cases ys2 <;> simp
          · have e10 : ¬ u.2.1 = nth ws 2 := fun e => of_decide_eq_false c10 (by rw [e])
            refine ⟨sa, ys2, hys, by omega, ?_⟩
            rw [tk, decide_eq_false e10, Bool.and_false, Bool.or_false]
            exact ey
        · have e9 : ¬ u.1 = nth ws 1 := fun e => of_decide_eq_false c9 (by rw [e])
          refine ⟨sa, ys2, hys, by omega, ?_⟩
          rw [tk, decide_eq_false e9, Bool.false_and, Bool.or_false]
          exact ey
      · rintro D H3 hD ⟨s3, ys2, hys, ly, ey⟩
        walk_at "my sts"
        rw [lr, List.take_length] at ey
        refine lst_end (xs := []) (by simp) fun e1 H4 he1 s4 h4 => ?_
        refine i_eqN (sqL (s4 _ _ hys)) (sqL h4) ?_
        refine kb _ ?_ H4 (s02.trans (s3.trans s4))
        unfold wlB
        rw [decide_eq_true l3, decide_eq_true e0, decide_eq_true e3, c5', c6', decide_eq_false e4, c7, decide_eq_false e8, ey]
        simp
section
open PySem.Calls PySem.W
variable {X : Cx} {pins : List (Addr × Obj)} {σ : L2.St} {H : Hp} {s : Shared} {n : Nat} {f : Addr} {fd : FuncData} {ps : List Str} {sp : Sp} {K : PySem.W.Frag}
theorem each_of {α β : Type} {R : α → β → Prop} : ∀ {as : List α} {bs : List β}, as.length = bs.length → (∀ (i : Nat) a b, as[i]? = some a → bs[i]? = some b → R a b) → EachIs R as bs
  | [], [], _, _ => .nil
  | a :: as, b :: bs, hl, h => .cons (h 0 a b rfl rfl) (each_of (by simpa using hl) fun i x y h1 h2 => h (i + 1) x y h1 h2)
  | [], _ :: _, hl, _ => by simp at hl
  | _ :: _, [], hl, _ => by simp at hl
theorem vals_each : ∀ {out : List Value} {bs : List (V × PyData)}, EachIs (fun u x => RelV x.1 u) out bs → Vals (bs.map Prod.fst) out
  | _, _, .nil => .nil
  | _, _, .cons h t => .cons h (vals_each t)
/-- sorted(xs, key=f): f called within gives each item's key -/
theorem sort_key_core {spk : V → Hp → VK → Prop} {l : Addr} {vs : List V} {ks : List PyData} {Q : VK} (I : Inv X pins σ H s) (hl : SqL X.K H l vs) (hlen : ks.length = vs.length) (hz : vs.length ≤ 100000) (hal : AllAlike ks) (hsk : Sortable ks) (hdp : ∀ d ∈ ks, d.depth ≤ 50) (hu : X.A.units + 100 < cLine)
    (KC : ∀ (pn2 : List (Addr × Obj)) (H' : Hp) (s' : Shared) (v : V) (u : Value) (Qk : VK), Inv X (pins ++ pn2) σ H' s' → RelV v u → spk v H' Qk → wpAny (model X.prog X.w) X.A.in1.in1 (call (.ref f) [u]) (fun r s'' => ∃ v2 H2, Inv X (pins ++ pn2) σ H2 s'' ∧ RelV v2 r ∧ Qk v2 H2) (fun _ _ => False) s')
    (turn : ∀ (i : Nat) v d H', vs[i]? = some v → ks[i]? = some d → Same H H' → spk v H' (fun u H'' => Same H' H'' ∧ ∀ G, Tk H'' G → Dp X.K G u d))
    (k : ∀ D H', H D = none → Same H H' → H' D = some (.lst (((vs.zip ks).mergeSort (dataLe false Prod.snd)).map Prod.fst)) → Q (.ref D) H') :
    wpAny (model X.prog X.w) X.A (call (.builtin "sorted") [.ref l] [(Str.ofString "key", .ref f)]) (EP X pins σ Q) X.xe s := by
  obtain ⟨its, rv, pl, hz0⟩ := I.list hl
  have hil := rv.length
  refine sorted_of_sort (l := l) (vs := its) pl.isList (by rw [sizeLine_eq]; omega) (ksk_s1 _ _) (fun _ => ksk_l1 _ _) fun E' => ?_
  show wpAny _ _ (Builtin.«list.sort» ⟨[.ref (s.heap.objs.size + 1)], [(Str.ofString "key", Value.ref f)]⟩) _ _ _
  rw [ksk_t1]
  have hD : (copyHeap s.heap its).get? (s.heap.objs.size + 1) = some (seqObj "list" its.toArray _) := copyHeap_at s.heap its
  generalize hDe : s.heap.objs.size + 1 = D at *
  obtain ⟨e1, ho1⟩ : ∃ e1, ((copyHeap s.heap its).update D (Obj.mapSeq fun _ => (#[] : Array Value))).get? D = some (seqObj "list" #[] e1) := ⟨_, get?_update_seq hD fun _ => #[]⟩
  unfold ksk_tree
  refine wpAny_bind (listItems_at hD rfl ?_)
  refine wpAny_bind (listUpdate_at hD rfl ?_ (by rw [List.size_toArray, sizeLine_eq]; omega) (Nat.zero_le _))
  refine wpAny_bind (seqEpoch_at ho1 rfl ?_)
  refine wpAny_bind (wpAny_newTuple ?_ (by show its.length ≤ _; rw [sizeLine_eq]; omega))
  refine wpAny_bind (wpAny_newList ?_ (Nat.zero_le _))
  refine wpAny_holding ?_
  have kp0 : ∀ b o, s.heap.get? b = some o → (sortingHeap (copyHeap s.heap its) D its).get? b = some o := fun b o q => sortingHeap_old (Nat.ne_of_lt (by rw [← hDe]; exact Nat.lt_succ_of_lt (Heap.lt_size q))) (copyHeap_old q)
  obtain ⟨S, hSe⟩ : ∃ S, S = (((copyHeap s.heap its).update D (Obj.mapSeq fun _ => (#[] : Array Value))).push (seqObj "tuple" its.toArray 0)).objs.size := ⟨_, rfl⟩
  have hS0 : (sortingHeap (copyHeap s.heap its) D its).get? S = some (seqObj "list" #[] 0) := by rw [hSe]; exact Heap.get?_push_size _ rfl
  have hDs : (sortingHeap (copyHeap s.heap its) D its).get? D = some (seqObj "list" #[] e1) := Heap.get?_push_of_some _ (Heap.get?_push_of_some _ ho1)
  have szD : D < (copyHeap s.heap its).objs.size := Heap.lt_size hD
  have hSD : D < S := by
    rw [hSe, size_push', Heap.size_update]
    omega
  have hDl : s.heap.objs.size ≤ D := by omega
  have hSl : s.heap.objs.size ≤ S := by omega
  have nS : H S = none := I.hok.fresh hSl
  have nD : H D = none := I.hok.fresh hDl
  have I1 : Inv X pins σ (upd H S (.lst [])) { s with heap := sortingHeap (copyHeap s.heap its) D its } := I.laid (t' := s.toks) kp0 hSl ⟨Nat.zero_le _, [], 0, .nil, hS0⟩
  have I2 := I1.pinned (fp := [D]) (fun b hb => by
    rw [List.mem_singleton.mp hb]
    exact I.fpOk hDl (by rw [upd_ne (Nat.ne_of_lt hSD)]; exact nD)) (fun b hb => by
    rw [List.mem_singleton.mp hb]
    exact ⟨_, hDs, fun v z => by cases z⟩)
  have fS : FpOk X pins H S := I.fpOk hSl nS
  have fD : FpOk X pins H D := I.fpOk hDl nD
  have mD : (D, seqObj "list" #[] e1) ∈ pinsAt [D] (sortingHeap (copyHeap s.heap its) D its) := mem_pinsAt (List.mem_singleton.mpr rfl) hDs
  generalize pinsAt [D] (sortingHeap (copyHeap s.heap its) D its) = PD at *
  rw [← hSe]
  show wpAny _ _ (ksk_rest D (.ref f) false its.toArray e1 (.ref S)) _ _ { s with heap := sortingHeap (copyHeap s.heap its) D its }
  unfold ksk_rest
  refine wpAny_bind (wpAny_rule ?_)
  first
    | rw [List.forIn_toArray]
    | (rw [← Array.forIn_toList]; simp only [List.toList_toArray])
    | rw [← Array.forIn_toList]
  refine wpAny_bind (ksk_fold (fun i s' => ∃ H' kvs, Inv X (pins ++ PD) σ H' s' ∧ Same H H' ∧ H' S = some (.lst kvs) ∧ kvs.length = i ∧ ∀ (j : Nat) v d, kvs[j]? = some v → ks[j]? = some d → ∀ G, Tk H' G → Dp X.K G v d) its 0 _
    ⟨_, [], I2, same_new nS, upd_same, rfl, fun j v d h => by simp at h⟩ ?step ?done)
  case step =>
    rintro j x s' hx ⟨H', kvs, I', sm, hS', lk, hk⟩
    simp only [Nat.zero_add] at lk ⊢
    have hj : j < its.length := (List.getElem?_eq_some_iff.mp hx).1
    have hjv : j < vs.length := by omega
    obtain ⟨d, hd⟩ : ∃ d, ks[j]? = some d := ⟨_, List.getElem?_eq_getElem (by omega)⟩
    obtain ⟨u, hu', ru⟩ := rv.get (List.getElem?_eq_getElem hjv)
    rw [hx] at hu'
    cases hu'
    refine wpAny_bind (wpAny_attempt (wpAny_mono (KC PD H' s' _ _ _ I' ru (turn j _ d H' (List.getElem?_eq_getElem hjv) hd sm)) (fun kv s'' he => ?_) fun _ _ hF => hF.elim))
    obtain ⟨v2, H2, I3, r2, sm2, dp2⟩ := he
    try dsimp only
    have hS2 := sm2 _ _ hS'
    obtain ⟨z, kits, kn, rk, kl, eS⟩ := I3.lstM hS2
    refine wpAny_bind (listUpdate_at eS rfl ?_ (by rw [List.size_toArray, sizeLine_eq]; omega) (by rw [Array.size_push, List.size_toArray, sizeLine_eq]; omega))
    have I4 := I3.lset (f := (·.push kv)) (its := kits) (its' := kits ++ [kv]) (ys := kvs ++ [v2]) (t' := s''.toks) hS2 eS (by simp) (rk.append (.cons r2 .nil)) (by rw [List.length_append, sizeLine_eq]; show _ + 1 ≤ _; omega)
    refine wpAny_pure ⟨rfl, _, kvs ++ [v2], I4, same_mut (sm.trans sm2) nS, upd_same, by rw [List.length_append, lk]; rfl, fun j' v' d' g1 g2 G tk => ?_⟩
    have tk0 : Tk H2 G := fun a xs e => tk _ _ (Tk.lst hS2 _ _ e)
    rcases Nat.lt_or_ge j' kvs.length with c | c
    · rw [List.getElem?_append_left c] at g1
      exact hk j' v' d' g1 g2 G fun a xs e => tk0 _ _ (sm2 _ _ e)
    · rw [List.getElem?_append_right c] at g1
      have c0 : j' - kvs.length = 0 := by
        have := (List.getElem?_eq_some_iff.mp g1).1
        simp at this
        omega
      rw [c0] at g1
      cases g1
      have : j' = j := by omega
      subst this
      rw [hd] at g2
      cases g2
      exact dp2 G tk0
  case done =>
    rintro s' ⟨H', kvs, I', sm, hS', lk, hk⟩
    rw [Nat.zero_add] at lk
    obtain ⟨z, kits, kn, rk, kl, eS⟩ := I'.lstM hS'
    have hk' : EachIs (fun v d => ∃ as, Reads s'.heap v d as) kits ks := each_of (by omega) fun i a d g1 g2 => by
      have hi : i < kvs.length := by
        have := (List.getElem?_eq_some_iff.mp g1).1
        omega
      obtain ⟨u, hu', ru⟩ := rk.get (List.getElem?_eq_getElem hi)
      rw [g1] at hu'
      cases hu'
      exact Dp.reads I' d _ _ (hk i _ d (List.getElem?_eq_getElem hi) g2 H' fun _ _ e => e) ru
    have pinD := I'.pin (D, seqObj "list" #[] e1) (List.mem_append_right _ (List.mem_append_right _ mD))
    refine wpAny_bind (listItems_at eS rfl ?_)
    have hal2 := hal
    have kitl : kits.length = its.length := by omega
    have eF : ∀ b o, b ≠ S → (s'.heap.update S fun o => { o with data := .freed }).get? b = some o → s'.heap.get? b = some o := fun b o hb e => by
      rwa [Heap.get?_update_other _ _ (Ne.symm hb)] at e
    have eG : ∀ b o, b ≠ S → s'.heap.get? b = some o → (s'.heap.update S fun o => { o with data := .freed }).get? b = some o := fun b o hb e => by
      rwa [Heap.get?_update_other _ _ (Ne.symm hb)]
    have eN : (s'.heap.update S fun o => { o with data := .freed }).get? S = none := by
      have h1 := eS
      unfold Heap.get? at h1 ⊢
      unfold Heap.update
      cases h2 : s'.heap.objs[S]? with
      | none => rw [h2] at h1; cases h1
      | some o =>
        have hlt := (Array.getElem?_eq_some_iff.mp h2).1
        simp [hlt, Array.getElem_modify_self]
    refine keyH_end (κ := dataKind s'.heap ks) (h₁ := s'.heap.update S fun o => { o with data := .freed }) (fun b o hb e => ?_) eN eS pinD.1 (Nat.ne_of_gt hSD) (SortsAt.data (s := s') (by simpa using hk') hal hsk fun d hd => ?_) (by rw [List.size_toArray]; exact kitl) (by rw [sizeLine_eq]; omega) fun h3 tk3 c k3 n3 => ?_
    · by_cases hb2 : b = S
      · rw [hb2, eN] at e
        cases e
      · exact eF b o hb2 e
    · have := hdp d hd
      show X.A.units + 2 + d.depth < cLine
      omega
    · have zs : (vs.zip ks).map Prod.snd = ks := by rw [List.map_snd_zip (by omega)]
      have ko : KeyedOut false ((vs.zip ks).map Prod.snd) its (sortVals (dataKind s'.heap ks) false kits.toArray.toList its) := by
        rw [zs]
        exact ⟨s'.heap, kits.toArray.toList, hal, rfl, by simpa using hk'⟩
      have eo := vals_each (keyedOut_each (R := fun u (x : V × PyData) => RelV x.1 u) Prod.snd ko (each_of (by rw [List.length_zip]; omega) fun i a b g1 g2 => by
        obtain ⟨hb1, _⟩ := List.getElem?_zip_eq_some.mp g2
        obtain ⟨u, hu', ru⟩ := rv.get hb1
        rw [g1] at hu'
        cases hu'
        exact ru))
      have lo : (((vs.zip ks).mergeSort (dataLe false Prod.snd)).map Prod.fst).length ≤ sizeLine := by
        rw [List.length_map, List.length_mergeSort, List.length_zip, sizeLine_eq]
        omega
      have nD' : H' D = none := pinD.2.1
      have k4 : ∀ b o, b ≠ D → b ≠ S → s'.heap.get? b = some o → h3.get? b = some o := fun b o c1 c2 e => k3 b o c1 (eG b o c2 e)
      generalize ((vs.zip ks).mergeSort (dataLe false Prod.snd)).map Prod.fst = out at *
      have I0 : Inv X pins σ H' s' := I'.unpinned
      refine ⟨rfl, .ref D, (fun b => if b = D then some (.lst out) else if b = S then none else H' b), ?_, rfl, k D _ nD (fun b o e => ?_) (if_pos rfl)⟩
      · refine I0.step (g' := s'.gens) (d' := s'.drawn) (t' := tk3) (ch := [D, S]) (fun b hb => ?_) (fun b o _ _ hc e _ => ?_) (fun b o _ _ hc e _ => ⟨o.slots, ?_⟩) (fun b o hc _ e => ?_) (fun b o hc e => ⟨o, ?_⟩) (fun b xs e => ?_) (fun b o u e => ?_) (fun b ps e => ⟨#[], ?_⟩) (fun m hm => ?_) (fun b u e => ?_) I0.bare
        · rcases List.mem_cons.mp hb with rfl | hb
          · exact ⟨fD.2.2.2.1, fD.2.1, fD.2.2.2.2.1, fD.2.2.2.2.2⟩
          · rw [List.mem_singleton.mp hb]
            exact ⟨fS.2.2.2.1, fS.2.1, fS.2.2.2.2.1, fS.2.2.2.2.2⟩
        · exact k4 b o (fun z => hc (by simp [z])) (fun z => hc (by simp [z])) e
        · exact k4 b o (fun z => hc (by simp [z])) (fun z => hc (by simp [z])) e
        · show (if b = D then _ else if b = S then none else H' b) = none
          rw [if_neg fun z => hc (by simp [z]), if_neg fun z => hc (by simp [z])]
          exact e
        · exact k4 b o (fun z => hc (by simp [z])) (fun z => hc (by simp [z])) e
        · show (if b = D then _ else if b = S then none else H' b) = _
          rw [if_neg (fun z => by rw [z, nD'] at e; cases e), if_neg (fun z => by rw [z, hS'] at e; cases e)]
          exact e
        · show (if b = D then _ else if b = S then none else H' b) = _
          rw [if_neg (fun z => by rw [z, nD'] at e; cases e), if_neg (fun z => by rw [z, hS'] at e; cases e)]
          exact e
        · show (if b = D then _ else if b = S then none else H' b) = _
          rw [if_neg (fun z => by rw [z, nD'] at e; cases e), if_neg (fun z => by rw [z, hS'] at e; cases e), e]
          simp
        · obtain ⟨o, es, ep, ho, r⟩ := hm
          exact ⟨o, es, ep, k4 _ o (Ne.symm fD.2.1) (Ne.symm fS.2.1) ho, r⟩
        · have e : (if b = D then some (.lst out) else if b = S then none else H' b) = some u := e
          by_cases c1 : b = D
          · subst c1
            rw [if_pos rfl] at e
            cases e
            exact ⟨lo, _, _, eo, n3⟩
          · rw [if_neg c1] at e
            by_cases c2 : b = S
            · rw [if_pos c2] at e
              cases e
            · rw [if_neg c2] at e
              refine (I0.hok b u e).stay (fun c v hc q => k4 c v ?_ ?_ q) (fun c q => ?_) fun c xs q => ?_
              · rcases hc with z | z
                · rw [z]; exact c1
                · intro z2; rw [z2, nD'] at z; cases z
              · rcases hc with z | z
                · rw [z]; exact c2
                · intro z2; rw [z2, hS'] at z; cases z
              · show (if c = D then _ else if c = S then none else H' c) = _
                rw [if_neg (fun z => by rw [z, nD'] at q; cases q), if_neg (fun z => by rw [z, hS'] at q; cases q)]
                exact q
              · show (if c = D then _ else if c = S then none else H' c) = _
                rw [if_neg (fun z => by rw [z, nD'] at q; cases q), if_neg (fun z => by rw [z, hS'] at q; cases q)]
                exact q
      · show (if b = D then _ else if b = S then none else H' b) = _
        rw [if_neg (fun z => by rw [z, nD] at e; cases e), if_neg (fun z => by rw [z, nS] at e; cases e)]
        exact sm _ _ e
end
section
variable {r : List V → List V → Hp → VK → Prop} {ta tk : TA} {σ : L2.St} {H : Hp} {Q : VK}
theorem i_CKw (q : ta σ H fun vs H1 => tk σ H1 fun zs H2 => r vs zs H2 Q) : tCKw r ta tk σ H Q := q
instance : Nx (tCKw r ta tk σ H Q) (ta σ H fun vs H1 => tk σ H1 fun zs H2 => r vs zs H2 Q) := ⟨i_CKw⟩
end
section
open PySem.Calls PySem.W LamX
/-- a lambda of one parameter, which captures names of its maker -/
structure LamP (sc scope : Scope) (p : Str) : Prop where
  kind : scope.kind = .function
  co : scope.isCoroutine = false
  gen : scope.isGenerator = false
  noc : ∀ y ∈ scope.names, y.2 ≠ .cell
  one : ∀ y ∈ scope.names, y.2 = .local → y.1 = p
  par : scope.names.lookup p = some .local
  free : ∀ y ∈ scope.names, y.2 = .free → sc.names.lookup y.1 = some .cell ∨ sc.names.lookup y.1 = some .free
def lamPB (sc scope : Scope) (p : Str) : Bool :=
  (decide (scope.kind = .function) && !scope.isCoroutine && !scope.isGenerator && decide (scope.names.lookup p = some .local)) && scope.names.all fun y => (!decide (y.2 = .cell) && (!decide (y.2 = .local) || decide (y.1 = p))) && (!decide (y.2 = .free) || (decide (sc.names.lookup y.1 = some .cell) || decide (sc.names.lookup y.1 = some .free)))
theorem lamP_of {sc scope : Scope} {p : Str} (h : lamPB sc scope p = true) : LamP sc scope p := by
  unfold lamPB at h
  obtain ⟨h1, h2⟩ := Bool.and_eq_true_iff.mp h
  rw [List.all_eq_true] at h2
  simp only [Bool.and_eq_true, Bool.not_eq_true', decide_eq_true_eq] at h1
  refine ⟨h1.1.1.1, h1.1.1.2, h1.1.2, fun y hy e => ?_, fun y hy e => ?_, h1.2, fun y hy e => ?_⟩
  · have q := h2 y hy
    rw [e] at q
    simp at q
  · have q := h2 y hy
    rw [e] at q
    simpa using q
  · have q := h2 y hy
    rw [e] at q
    simpa using q
variable {X : Cx} {pins : List (Addr × Obj)} {σ : L2.St} {H : Hp} {s : Shared} {K : PySem.W.Frag} {T : List (Addr × Str)} {p : Str} {scope : Scope} {f c' : Addr} {ip k : Nat} {params : Arguments} {body : Expr} {tb : TE}
/-- the lambda is made; what was known stays known -/
theorem lam_new {c P : Addr} {pos : Pos} {E : Value → Shared → Prop} {Q : Value → Shared → Prop} (I : Inv X pins σ H s) (TB : TabB X.base X.mg c P) (hcode : X.env.code = .ref c) (mT : (P, X.env.qual ++ "<lambda>") ∈ T) (uT : ∀ q ∈ T, q.1 = P → q.2 = X.env.qual ++ "<lambda>") (tT : Tabs T H)
    (dflt : defaultsOf params X.env = ([], [])) (hfree : ∀ y ∈ scope.names, y.2 = .free → ∃ c, X.env.cells.lookup y.1 = some c)
    (k : ∀ (f c' : Addr) (pm ctv : Value) (H1 : Hp) (s' : Shared), Inv X pins σ H1 s' → ExtN H H1 → (∀ b, H1 b = none → H b = none) → Tabs T H1 →
      s'.heap.get? f = some (kla_obj "<lambda>" (X.env.qual ++ "<lambda>") params body scope (cloFrom X.env.cells scope.names []) pm c' ctv) → H1 f = none → f ∉ frs X.stack → H1 c' = some (CodeO c' (X.env.qual ++ "<lambda>")) → Q (.ref f) s') :
    wpAny (model X.prog X.w) X.A (eval (.Lambda params body scope pos) X.env) Q E s := by
  obtain ⟨ps, tab, tri, amg⟩ := tT _ mT
  have onP : s.heap.get? P = some { cls := .none, data := .fields ps } := I.hok P _ tab
  have away : ∀ f, s.heap.objs.size ≤ f → f ∉ frs X.stack := fun f le z => (List.mem_cons.mp (I.stkSub _ z)).elim (fun e => absurd I.lt (Nat.not_lt.mpr (e ▸ le))) (I.nofs le)
  refine kla_eval dflt ?_
  cases look : codeAmong pos ps.toList with
  | some cv =>
    obtain ⟨c', rfl, known⟩ := amg pos cv look
    refine kla_makeFunctionHit (mg := X.mg) (c := c) (P := P) (ps := ps) (closure_ok hfree) I.ok.glob (I.mod.glob.keeps I.bk) hcode (TB.code.keeps I.bk) onP tri look (TB.bm.keeps I.bk) fun ctv g tk old le => ?_
    refine k g.objs.size c' ((X.mg "__name__").getD .none) ctv H _ (I.kept fun b o e => ?_) (ExtN.refl H) (fun _ e => e) tT (Heap.get?_push_size _ rfl) (I.hok.fresh le) (away _ le) known
    exact Heap.get?_push_of_some _ (old b o e)
  | none =>
    refine kla_makeFunction (mg := X.mg) (c := c) (P := P) (ps := ps) (closure_ok hfree) I.ok.glob (I.mod.glob.keeps I.bk) hcode (TB.code.keeps I.bk) onP tri look TB.gP (TB.bm.keeps I.bk) fun c' ctv g tk old ge lt rec grown => ?_
    obtain ⟨c2, oc, ws, t, e2, oc1, oc2, oc3⟩ := rec
    cases e2
    have le : s.heap.objs.size ≤ g.objs.size := by omega
    have new : H c' = none := I.hok.fresh ge
    have pc : P ≠ c' := ne_of_none tab new
    obtain ⟨G, eG⟩ : ∃ G : Hp, G = upd (upd H P (.tbl (ps ++ #[rawInt pos.line, rawInt pos.col, .ref c']))) c' (CodeO c' (X.env.qual ++ "<lambda>")) := ⟨_, rfl⟩
    have J : Inv X pins σ G _ := eG ▸ inv_table (t' := tk) (more := #[rawInt pos.line, rawInt pos.col, .ref c']) (h' := g.push (kla_obj "<lambda>" (X.env.qual ++ "<lambda>") params body scope (cloFrom X.env.cells scope.names []) ((X.mg "__name__").getD .none) c' ctv)) I tab
      (fun b o n e => Heap.get?_push_of_some _ (old b o n e)) (Heap.get?_push_of_some _ grown) ge ⟨oc, ws, t, Heap.get?_push_of_some _ oc1, oc2, oc3⟩
    have atP : G P = some (.tbl (ps ++ #[rawInt pos.line, rawInt pos.col, .ref c'])) := by rw [eG, upd_ne pc, upd_same]
    have atC : G c' = some (CodeO c' (X.env.qual ++ "<lambda>")) := by rw [eG, upd_same]
    have atO : ∀ b, b ≠ P → b ≠ c' → G b = H b := fun b n1 n2 => by rw [eG, upd_ne n2, upd_ne n1]
    have ext : ExtN H G := fun b o e n => (atO b (fun z => n ps (by rw [z, tab] at e; exact (Option.some.inj e).symm)) (ne_of_none e new)).trans e
    have gone : ∀ b, G b = none → H b = none := fun b e => by
      by_cases n1 : b = P
      · rw [n1, atP] at e; cases e
      · by_cases n2 : b = c'
        · rw [n2, atC] at e; cases e
        · rw [← atO b n1 n2]; exact e
    have ffree : G g.objs.size = none := by
      have onG := Heap.lt_size onP
      rw [atO _ (Nat.ne_of_gt (Nat.lt_of_lt_of_le onG le)) (Nat.ne_of_gt lt)]
      exact I.hok.fresh le
    refine k g.objs.size c' ((X.mg "__name__").getD .none) ctv G _ J ext gone (fun q hq => ?_) (Heap.get?_push_size _ rfl) ffree (away _ le) atC
    by_cases n1 : q.1 = P
    · rw [uT q hq n1, n1]
      have lst : (ps ++ #[rawInt pos.line, rawInt pos.col, .ref c']).toList = ps.toList ++ [rawInt pos.line, rawInt pos.col, .ref c'] := Array.toList_append
      refine ⟨_, atP, by rw [lst]; exact TriplesOk_snoc _ _ _ _ tri, fun p2 cv e => ?_⟩
      rw [lst] at e
      rcases among_app _ tri e with z | z
      · obtain ⟨d, d1, d2⟩ := amg p2 cv z
        exact ⟨d, d1, ext _ _ d2 codeO_ne⟩
      · exact ⟨c', z, atC⟩
    · obtain ⟨qs, a1, a2, a3⟩ := tT q hq
      refine ⟨qs, (atO _ n1 (ne_of_none a1 new)).trans a1, a2, fun p2 cv e => ?_⟩
      obtain ⟨d, d1, d2⟩ := a3 p2 cv e
      exact ⟨d, d1, ext _ _ d2 codeO_ne⟩
/-- the lambda's frame is entered -/
theorem lam_in {A : Around} {E : XK} {h₁ : Heap} {tk : Nat} {v : V} {u : Value} (I : Inv X pins σ H s) (L : LamP X.env.scope scope p) (e0 : Env0 X.prog X.w X.K X.mg X.base A X.stack s H) (hd : A.handled = none) (hN : X.N[ip]? = some p) (nd : X.N.Nodup) (r : RelV v u)
    (hns : h₁.Ns s.heap.objs.size fun y => ([(p, u)] : List (Str × Value)).reverse.lookup y) (kp : ∀ b o, s.heap.get? b = some o → h₁.get? b = some o) : Inv (lamCx X A X.stack s H E scope f c') [] (σ.set ip (some v)) H { s with heap := h₁, toks := tk } := by
  have has : ∀ {y}, (y, NameKind.free) ∈ scope.names → ∃ c, X.env.cells.lookup y = some c := fun {y} hy => I.ok.has _ (L.free _ hy rfl)
  have sub : ∀ {y c}, (cloFrom X.env.cells scope.names []).lookup y = some c → X.env.cells.lookup y = some c := fun {y c} e => by
    rcases cloFrom_mem (PySem.mem_of_lookup e) with z | ⟨z1, z2⟩
    · cases z
    · obtain ⟨c1, h1⟩ := has z1
      rw [z2, h1]
      rfl
  have got : ∀ {y}, scope.names.lookup y = some .free → ∃ c, (cloFrom X.env.cells scope.names []).lookup y = some c := fun {y} hy => mem_lookup (cloFrom_has (cells := X.env.cells) (acc := []) (PySem.mem_of_lookup hy))
  have cel : ∀ {c v}, s.heap.IsCell c v → h₁.IsCell c v := fun {c v} ⟨o, a, b⟩ => ⟨o, kp _ _ a, b⟩
  exact {
    ok := {
      mod := e0.mod, kind := L.kind, glob := rfl, blt := rfl, above := Nat.le_refl _, hd := fun _ => hd, frames := Around.frames_deeper e0.frames, stk := .inr ⟨rfl, rfl⟩
      bs := e0.bs, bsz := e0.bsz, funs := e0.funs, frf := e0.frf
      inj := fun x y c a b => I.ok.inj x y c (sub a) (sub b)
      has := fun x hx => by
        rcases (show scope.names.lookup x = some .cell ∨ scope.names.lookup x = some .free from hx) with z | z
        · exact absurd rfl (L.noc _ (PySem.mem_of_lookup z))
        · exact got z
      cab := fun x c z _ => Bool.noConfusion (show false = true from z)
      exf := fun b z => nomatch (show b ∈ ([] : List Addr) from z)
      noex := fun b o _ z => nomatch (show b ∈ ([] : List Addr) from z)
      exfs := fun b z => nomatch (show b ∈ ([] : List Addr) from z) }
    os := rfl, bare := e0.bare, base := Un.kept kp
    loc := ⟨_, hns, fun i x w e1 e2 e3 => by
      have e1 : X.N[i]? = some x := e1
      by_cases hi : i = ip
      · subst hi
        rw [hN] at e1
        cases e1
        rw [List.getElem?_set] at e2
        by_cases hl : i < σ.length
        · simp [hl] at e2
          subst e2
          refine ⟨u, r, .inl ⟨L.par, ?_⟩⟩
          show List.lookup p [(p, u)] = some u
          simp [List.lookup]
        · simp [hl] at e2
      · rw [List.getElem?_set_ne (Ne.symm hi)] at e2
        have np : x ≠ p := fun z => by
          subst z
          exact hi ((List.getElem?_inj (List.getElem?_eq_some_iff.mp e1).1 nd).mp (e1.trans hN.symm))
        rcases (show scope.names.lookup x = some .local ∨ scope.names.lookup x = some .cell ∨ scope.names.lookup x = some .free from e3) with z | z | z
        · exact absurd (L.one _ (PySem.mem_of_lookup z) rfl) np
        · exact absurd rfl (L.noc _ (PySem.mem_of_lookup z))
        · obtain ⟨m, _, hl⟩ := I.loc
          have up := L.free _ (PySem.mem_of_lookup z) rfl
          obtain ⟨w', rw', q⟩ := hl i x w e1 e2 (.inr up)
          obtain ⟨c2, h2⟩ := got z
          refine ⟨w', rw', .inr ⟨.inr z, c2, h2, ?_⟩⟩
          rcases q with ⟨z1, _⟩ | ⟨_, c3, h3, z3⟩
          · have z1 : X.env.scope.names.lookup x = some .local := z1
            rcases up with up | up <;> exact absurd (z1.symm.trans up) (by decide)
          · have := (sub h2).symm.trans h3
            cases this
            exact cel z3⟩
    cell := fun x c e => by
      obtain ⟨v, z⟩ := I.cell x c (sub e)
      exact ⟨v, cel z⟩
    free := e0.hok.fresh (Nat.le_refl _)
    freeC := fun x c e => I.freeC x c (sub e)
    pin := fun q z => nomatch (show q ∈ ([] : List (Addr × Obj)) ++ [] from z)
    hok := e0.hok.kept kp
    len := by rw [List.length_set]; exact I.len }
/-- the lambda called within a builtin: it raises nothing -/
theorem lam_call {A2 : Around} {v : V} {u : Value} {Qk : VK} {pm ctv : Value} {q : Str} (sb : Sub X (k + 1) A2) (I : Inv X pins σ H s) (L : LamP X.env.scope scope p) (hf : s.heap.get? f = some (kla_obj "<lambda>" (X.env.qual ++ "<lambda>") params body scope (cloFrom X.env.cells scope.names []) pm c' ctv)) (hc : H c' = some (CodeO c' (X.env.qual ++ "<lambda>")))
    (hbind : bindArgs (kla_fn "<lambda>" (X.env.qual ++ "<lambda>") params body scope (cloFrom X.env.cells scope.names []) pm (.ref c') ctv) ⟨[u], []⟩ = pure [(p, u)]) (hN : X.N[ip]? = some p) (nd : X.N.Nodup) (r : RelV v u)
    (hbody : ∀ (A : Around) (outer : List Env) (s : Shared) (H : Hp) (f c' : Addr), Room k (A.deeper (lamEnv X scope s.heap.objs.size f c')) → PE (lamCx X A outer s H E0 scope f c') body tb) (h : tb (σ.set ip (some v)) H Qk) :
    wpAny (model X.prog X.w) A2 (call (.ref f) [u]) (fun r s' => ∃ v H', Inv X pins σ H' s' ∧ RelV v r ∧ Qk v H') (fun _ _ => False) s := by
  have e0 : Env0 X.prog X.w X.K X.mg X.base A2 X.stack s H := by
    have e := I.env0; exact ⟨by rw [sb.fr]; exact e.frames, e.mod, e.bs, e.bsz, e.funs, e.frf, e.hok, e.bare⟩
  obtain ⟨⟨oc, ws, t, h1, h2, h3⟩, _, _⟩ := I.hok c' _ hc
  have rc : codeAny (model X.prog X.w) A2 (.call (.ref f) ⟨[u], []⟩) (CR (L2.CX X.prog X.w) X.stack X.prog X.w H s Qk E0) s := by
    refine kla_callFunE sb.room.depth hf rfl L.co L.gen rfl ⟨c', oc, ws, t, rfl, h1, h2, h3⟩ ?_
    rw [hbind]
    refine wpAny_pure (wpAny_newFunctionEnv L.noc (fun y hy => by rw [List.mem_singleton.mp hy]; exact L.par) (fun h₁ hns hsb => ⟨I.nolimit.fresh _ hsb, ?_⟩) L.kind)
    have kp : ∀ b o, s.heap.get? b = some o → h₁.get? b = some o := fun b o e => hsb.extBut b o (Nat.ne_of_lt (Heap.lt_size e)) (Heap.get?_push_of_some _ e)
    have J := lam_in (A := A2) (E := E0) (f := f) (c' := c') (tk := s.toks + ([(p, u)] : List (Str × Value)).length) I L e0 sb.room.hd hN nd r hns kp
    refine kla_codeExpr (wpAny_mono ((hbody _ _ s H f c' (sb.room.deeper _)).run [] _ _ H Qk J h) (fun v s' hq => ?_) fun e s' hq => hq)
    obtain ⟨w', H', J', rv, q⟩ := hq
    exact ⟨w', H', J'.os, J'.bare, J'.base, J'.hok, rv, q⟩
  refine wpAny_call (codeAny_mono rc fun r s' hq => ?_)
  cases r with
  | error e => exact (show Passes (L2.CX X.prog X.w) (X.wish fun _ _ => False) E0 from passL) pins σ H s e s' (I.wish _) hq
  | ok fl =>
    cases fl with
    | ret u => exact I.after hq
    | next => exact False.elim hq
    | brk => exact False.elim hq
    | cont => exact False.elim hq
def tSortLam (K : PySem.W.Frag) (T : List (Addr × Str)) (ip : Nat) (ta : TA) (tb : TE) : TE := fun σ H Q => ta σ H fun xs H1 => Tabs T H1 ∧ ∃ (l : Addr) (vs : List V) (ks : List PyData), xs = [.ref l] ∧ SqL K H1 l vs ∧ ks.length = vs.length ∧ vs.length ≤ 100000 ∧ AllAlike ks ∧ Sortable ks ∧ (∀ d ∈ ks, d.depth ≤ 50) ∧
  (∀ (i : Nat) v d H', vs[i]? = some v → ks[i]? = some d → ExtN H1 H' → tb (σ.set ip (some v)) H' fun u H'' => Same H' H'' ∧ ∀ G, Tk H'' G → Dp K G u d) ∧
  ∀ D H', H1 D = none → ExtN H1 H' → Tabs T H' → H' D = some (.lst (((vs.zip ks).mergeSort (dataLe false Prod.snd)).map Prod.fst)) → Q (.ref D) H'
theorem i_sortLam {ta : TA} {Q : VK} (q : ta σ H fun xs H1 => Tabs T H1 ∧ ∃ (l : Addr) (vs : List V) (ks : List PyData), xs = [.ref l] ∧ SqL K H1 l vs ∧ ks.length = vs.length ∧ vs.length ≤ 100000 ∧ AllAlike ks ∧ Sortable ks ∧ (∀ d ∈ ks, d.depth ≤ 50) ∧
  (∀ (i : Nat) v d H', vs[i]? = some v → ks[i]? = some d → ExtN H1 H' → tb (σ.set ip (some v)) H' fun u H'' => Same H' H'' ∧ ∀ G, Tk H'' G → Dp K G u d) ∧
  ∀ D H', H1 D = none → ExtN H1 H' → Tabs T H' → H' D = some (.lst (((vs.zip ks).mergeSort (dataLe false Prod.snd)).map Prod.fst)) → Q (.ref D) H') : tSortLam K T ip ta tb σ H Q := q
theorem extN_same {H H1 H2 : Hp} (a : ExtN H H1) (b : Same H1 H2) : ExtN H H2 := a.trans (ExtN.of b)
theorem sqL_ext {H H1 : Hp} {a : Addr} {xs : List V} (h : SqL K H a xs) (e : ExtN H H1) : SqL K H1 a xs := by
  rcases h with (h | ⟨o, h⟩) | h
  · exact .inl (.inl (e _ _ h nofun))
  · exact .inl (.inr ⟨o, e _ _ h nofun⟩)
  · exact .inr h
/-- sorted(xs, key=lambda p: body) -/
theorem pe_sortLam {e : Expr} {ta : TA} {c P : Addr} {p1 lpos kpos pos : Pos} (hK : X.K = K) (hg : Gl X "sorted") (hm : X.mg "sorted" = none) (ha : PA X [e] ta) (TB : TabB X.base X.mg c P) (hcode : X.env.code = .ref c) (hmT : (P, X.env.qual ++ "<lambda>") ∈ T) (hu : ∀ q ∈ T, q.1 = P → q.2 = X.env.qual ++ "<lambda>") (hr : Room (k + 3) X.A)
    (L : LamP X.env.scope scope p) (hdef : defaultsOf params X.env = ([], [])) (hbind : ∀ (q : Str) (cl : List (Str × Addr)) (pm cv ctv u : Value), bindArgs (kla_fn "<lambda>" q params body scope cl pm cv ctv) ⟨[u], []⟩ = pure [(p, u)]) (hN : X.N[ip]? = some p) (nd : X.N.Nodup)
    (hbody : ∀ (A : Around) (outer : List Env) (s : Shared) (H : Hp) (f c' : Addr), Room k (A.deeper (lamEnv X scope s.heap.objs.size f c')) → PE (lamCx X A outer s H E0 scope f c') body tb)
    (he : backTo pos (starEach [e] X.env) = [(false, eval e X.env)] := by rfl) (hpl : (backTo pos (starEach [e] X.env)).any (·.1) = false := by rfl)
    (hall : (backToKw pos (keywordEach [⟨some "key", .Lambda params body scope lpos, kpos⟩] X.env)).all (·.1.isSome) = true := by rfl) (hnone : (backToKw pos (keywordEach [⟨some "key", .Lambda params body scope lpos, kpos⟩] X.env)).any (·.1.isNone) = false := by rfl) (hks : (backToKw pos (keywordEach [⟨some "key", .Lambda params body scope lpos, kpos⟩] X.env)).filterMap (·.1) = [Str.ofString "key"] := by rfl) :
    PE X (.Call (.Name "sorted" p1) [e] [⟨some "key", .Lambda params body scope lpos, kpos⟩] pos) (tSortLam K T ip ta tb) := by
  subst hK
  refine ⟨fun pins s σ H Q I h => ?_⟩
  refine wpAny_Call_Name_kw (ld_blt I hg hm (u := .builtin "sorted") (by decide +kernel) ?_)
  refine PyProof.Rows.callWith_kw (thn (ha.run pos pins s σ H _ I h) fun us s1 ⟨xs, H1, I1, r1, q1⟩ => ?_) he hpl hall hnone
  obtain ⟨hT, l, vs, ks, rfl, hl, hlen, hz, hal, hsk, hdp, turn, fin⟩ := q1
  obtain ⟨u, rfl, ru⟩ := r1.one
  cases ru
  rw [hks]
  show wpAny _ _ (evalAll ((do let v ← eval (.Lambda params body scope lpos) X.env; standAt pos; pure v) :: (backToKw pos (keywordEach [] X.env)).map (·.2))) _ _ s1
  refine wpAny_evalAll_cons (wpAny_bind (lam_new I1 TB hcode hmT hu hT hdef (fun y hy e => I1.ok.has _ (L.free y hy e)) fun f c' pm ctv H2 s2 I2 eN gone T2 hf hfn hfr hco => wpAny_bind (wpAny_standAt (wpAny_pure (wpAny_evalAll_nil ?_)))))
  have nfs : f ∉ X.fs := fun z => hfr (by
    rcases I2.ok.stk with e | ⟨e, _⟩
    · rw [e]; exact z
    · rw [e]
      unfold frs
      rw [List.filterMap_cons]
      split
      · exact z
      · exact List.mem_cons_of_mem _ z)
  have nl : f ≠ X.env.locals := fun z => by
    obtain ⟨m, ⟨o, es, ep, h1, h2, _⟩, _⟩ := I2.loc
    rw [← z, hf] at h1
    cases h1
    cases h2
  have I3 : Inv X (pins ++ [(f, kla_obj "<lambda>" (X.env.qual ++ "<lambda>") params body scope (cloFrom X.env.cells scope.names []) pm c' ctv)]) σ H2 s2 := I2.pins_of fun q hq => by
    rcases List.mem_append.mp hq with hq | hq
    · exact I2.pin q (List.mem_append_right _ hq)
    · rw [List.mem_singleton.mp hq]
      exact ⟨hf, hfn, nl, nfs, fun v z => by cases z⟩
  have sb : Sub X (k + 1) X.A.in1.in1 := Sub.in1 (Sub.in1 (⟨hr, rfl⟩ : Sub X (k + 3) X.A))
  have hun := hr.un
  have run := sort_key_core (f := f) (spk := fun v H' Qk => H' c' = some (CodeO c' (X.env.qual ++ "<lambda>")) ∧ tb (σ.set ip (some v)) H' Qk) (Q := Q) I3 (sqL_ext hl eN) hlen hz hal hsk hdp (by omega)
    (fun pn2 H' s' v u Qk I' r h => lam_call (q := "") sb I' L (I'.pin (f, _) (List.mem_append_right _ (List.mem_append_left _ (List.mem_append_right _ (List.mem_singleton.mpr rfl))))).1 h.1 (hbind _ _ _ _ _ _) hN nd r hbody h.2)
    (fun i v d H' hv hd s' => ⟨s' _ _ hco, turn i v d H' hv hd (extN_same eN s')⟩)
    (fun D H' hD s' e => fin D H' (gone D hD) (extN_same eN s') (T2.ext s') e)
  refine wpAny_mono run (fun v s3 h => ?_) fun e s3 h => h
  obtain ⟨w', H', J, rv, q⟩ := h
  exact ⟨w', H', J.unpinned, rv, q⟩
end
/-- the name of a def's lambda -/
def lq (q : Str) : Str := q ++ ".<locals>." ++ "<lambda>"
section
variable {P : Program} {w : World} {K : PySem.W.Frag} {mg : Str → Option Value} {base : Heap} {x qual : Str} {st : Stmt} {f : Addr} {fd : FuncData} {N ps : List Str} {k : Nat} {sp : Sp} {cc : Addr}
/-- a def whose code object is known -/
theorem fun_okC (F : Fun K x qual st f fd) (hc : fd.code = .ref cc) (S : FnScope N ps (defScope st)) (len : ∀ vs H Q E, sp vs H Q E → vs.length = ps.length)
    (hbody : ∀ (A : Around) (outer : List Env) (s : Shared) (H : Hp) (vs : List V) (Q : VK) (E : XK), Room k (A.deeper (envOfC qual (defScope st) s.heap.objs.size f (.ref cc))) → sp vs H Q E →
      ∃ t, PSs (cxOf CX0 P w K mg base N qual (defScope st) f (.ref cc) A outer s H E).nox (defBody st) t ∧ t { nx := fun _ H' => Q .non H', rt := Q } (start N vs) H) : FnOk P w K mg base CX0 (k + 1) f fd ps sp := by
  obtain ⟨oc, od, kV, doc, pm, an, cdv, ct, osl, rfl, lk, hcd⟩ := F.ex
  have hc : cdv = .ref cc := hc
  subst hc
  refine fn_of lk hcd S len fun A outer s H vs Q E hr h => ?_
  obtain ⟨t, a, b⟩ := hbody A outer s H vs Q E hr h
  exact ⟨t, a.nox, b⟩
end
section
variable {T : List (Addr × Str)} {H H' : Hp} {s : Addr}
theorem tabs_fr (t : LamX.Tabs T H) (h : StOk H s) (f : Fr s H H') : LamX.Tabs T H' := fun p hp => by
  obtain ⟨ps, h1, h2, h3⟩ := t p hp
  have ne : ∀ {b : Addr} {o : HO}, H b = some o → (∀ xs, o ≠ .lst xs) → b ≠ s := fun {b o} e n z => by
    obtain ⟨_, _, _, _, _, _, _, _, q, _⟩ := h
    rw [z, q] at e
    exact n _ (Option.some.inj e).symm
  refine ⟨ps, f.1 _ _ h1 (ne h1 nofun), h2, fun p2 cv e => ?_⟩
  obtain ⟨c, c1, c2⟩ := h3 p2 cv e
  exact ⟨c, c1, f.1 _ _ c2 (ne c2 fun xs z => by unfold LamX.CodeO at z; cases z)⟩
/-- all but tables and the store stand -/
structure FrN (s : Addr) (H H' : Hp) : Prop where
  keep : ∀ b o, H b = some o → b ≠ s → (∀ ps, o ≠ .tbl ps) → H' b = some o
  top : ∀ (q : Addr) (r : List V), H s = some (.lst (.ref q :: r)) → ∃ r', H' s = some (.lst (.ref q :: r'))
theorem FrN.of (f : Fr s H H') : FrN s H H' := ⟨fun b o e n _ => f.1 b o e n, f.2⟩
theorem FrN.refl : FrN s H H := ⟨fun _ _ e _ _ => e, fun _ r h => ⟨r, h⟩⟩
theorem FrN.trans {H1 : Hp} (a : FrN s H H1) (b : FrN s H1 H') : FrN s H H' := ⟨fun c o e n t => b.1 c o (a.1 c o e n t) n t, fun q r e => by
  obtain ⟨r1, h1⟩ := a.2 q r e
  exact b.2 q r1 h1⟩
theorem FrN.ext (e : LamX.ExtN H H') : FrN s H H' := ⟨fun b o h _ t => e b o h t, fun q r h => ⟨r, e _ _ h nofun⟩⟩
theorem FrN.lst (f : FrN s H H') {p : Addr} {xs : List V} (h : H p = some (.lst xs)) (n : p ≠ s) : H' p = some (.lst xs) := f.1 _ _ h n nofun
theorem FrN.tk (f : FrN s H H') (h : StOk H s) : Tk H H' := fun t d e => f.1 t _ e (h.tup e) nofun
end
/-- strictly rising positions below n -/
def Incr (n : Nat) (l : List Nat) : Prop := l.Pairwise (· < ·) ∧ ∀ i ∈ l, i < n
theorem Incr.nil {n : Nat} : Incr n [] := ⟨.nil, fun _ h => nomatch h⟩
theorem Incr.push {n i : Nat} {l : List Nat} (h : Incr i l) (e : i < n) : Incr n (l ++ [i]) := ⟨List.pairwise_append.mpr ⟨h.1, List.pairwise_singleton _ _, fun a ha b hb => by rw [List.mem_singleton.mp hb]; exact h.2 a ha⟩, fun j hj => by
  rcases List.mem_append.mp hj with hj | hj
  · exact Nat.lt_trans (h.2 j hj) e
  · rw [List.mem_singleton.mp hj]; exact e⟩
theorem Incr.split {n : Nat} {l : List Nat} (h : Incr n l) : l = [] ∨ ∃ r i, l = r ++ [i] ∧ Incr i r ∧ i < n := by
  rcases List.eq_nil_or_concat l with e | ⟨r, i, e⟩
  · exact .inl e
  · rw [List.concat_eq_append] at e
    subst e
    obtain ⟨p1, p2⟩ := h
    obtain ⟨q1, _, q3⟩ := List.pairwise_append.mp p1
    exact .inr ⟨r, i, rfl, ⟨q1, fun j hj => q3 j hj i (List.mem_singleton.mpr rfl)⟩, p2 i (List.mem_append_right _ (List.mem_singleton.mpr rfl))⟩
section
open PySem.W
def keyPP (ns : List Str) (t : Str × Str × Int) : PyData := .tuple [.int (plc ns t.2.1 : Nat), .int (plc ns t.1 : Nat)]
theorem keyPP_le (ns : List Str) : (dataLe false (keyPP ns)) = fun s t => decide (plc ns s.2.1 < plc ns t.2.1 ∨ (plc ns s.2.1 = plc ns t.2.1 ∧ plc ns s.1 ≤ plc ns t.1)) := by
  unfold keyPP
  rw [dataLe_ii]
  funext s t
  refine decide_eq_decide.mpr ?_
  omega
theorem pairs_sorted {H : Hp} {ns : List Str} {xs : List V} {us : List (Str × Str × Int)} (rx : Rows H xs (us.map trow)) : ∃ ds : List (Str × Str × Int), ds.Perm us ∧ PairS ns ds ∧ Rows H (((xs.zip (us.map (keyPP ns))).mergeSort (dataLe false Prod.snd)).map Prod.fst) (ds.map trow) := by
  have lx := rx.len
  rw [List.length_map] at lx
  have ez : (xs.zip us).map Prod.fst = xs := List.map_fst_zip (by omega)
  have ew : (xs.zip us).map Prod.snd = us := List.map_snd_zip (by omega)
  have e1 : xs.zip (us.map (keyPP ns)) = (xs.zip us).map fun c => (c.1, keyPP ns c.2) := by
    rw [List.zip_map_right]
    rfl
  have e2 : ((xs.zip (us.map (keyPP ns))).mergeSort (dataLe false Prod.snd)).map Prod.fst = ((xs.zip us).mergeSort (dataLe false fun c => keyPP ns c.2)).map Prod.fst := by
    rw [e1]
    have := (List.map_mergeSort (r := dataLe false fun c : V × (Str × Str × Int) => keyPP ns c.2) (s := dataLe false (Prod.snd : V × PyData → PyData)) (f := fun c : V × (Str × Str × Int) => (c.1, keyPP ns c.2)) (l := xs.zip us) (fun a _ b _ => rfl))
    rw [← this, List.map_map]
    rfl
  have e3 : ((xs.zip us).mergeSort (dataLe false fun c => keyPP ns c.2)).map Prod.snd = us.mergeSort (dataLe false (keyPP ns)) :=
    (List.map_mergeSort (r := dataLe false fun c : V × (Str × Str × Int) => keyPP ns c.2) (s := dataLe false (keyPP ns)) (f := Prod.snd) (l := xs.zip us) (fun a _ b _ => rfl)).trans (by rw [ew])
  refine ⟨us.mergeSort (dataLe false (keyPP ns)), List.mergeSort_perm _ _, ?_, ?_⟩
  · rw [keyPP_le]
    refine (List.pairwise_mergeSort (le := fun s t => decide (plc ns s.2.1 < plc ns t.2.1 ∨ (plc ns s.2.1 = plc ns t.2.1 ∧ plc ns s.1 ≤ plc ns t.1))) (fun a b c h g => ?_) (fun a b => ?_) us).imp fun {a b} h => of_decide_eq_true h
    · rw [decide_eq_true_eq] at *
      omega
    · rw [Bool.or_eq_true, decide_eq_true_eq, decide_eq_true_eq]
      omega
  · rw [e2, ← e3]
    unfold Rows
    rw [List.map_map, List.map_map, List.map_map]
    refine List.map_congr_left fun c hc => ?_
    obtain ⟨i, hi⟩ := List.mem_iff_getElem?.mp ((List.mergeSort_perm _ _).mem_iff.mp hc)
    obtain ⟨h1, h2⟩ := List.getElem?_zip_eq_some.mp hi
    obtain ⟨t, d, e, hd, ht⟩ := rx.get h1
    rw [List.getElem?_map, h2] at hd
    cases hd
    show dec H c.1 = some (trow c.2)
    rw [e]
    exact dec_of ht
end
section
variable {K : PySem.W.Frag} {σ : L2.St} {H : Hp} {Q : VK} {nx bk ct : L2.St → Hp → Prop} {rt : VK} {tb : TS} {g : TG}
theorem mt_indexK {X : Cx} (h : X.K = K) : MtR X "list.index" (rIndex K) := h ▸ mt_index
theorem i_idx {p : Addr} {ns : List Str} {z : Str} (h : SqL K H p (ns.map V.str)) (hz : z ∈ ns) (q : Q (.int (plc ns z : Nat)) H) : rIndex K (.ref p) [.str z] H Q := by
  refine ⟨p, _, .str z, plc ns z, .str z, rfl, rfl, h, rfl, flat_strs ns, by rw [List.getElem?_map, plc_at hz]; rfl, ?_, fun m z' hm hz' => ?_, q⟩
  · show (z == z) = true
    simp
  · rw [List.getElem?_map] at hz'
    obtain ⟨y, hy, rfl⟩ := Option.map_eq_some_iff.mp hz'
    show (y == z) = false
    have : y ≠ z := fun e => plc_no hm (by rw [hy, e])
    simpa using this
end
theorem tuple_endW {K : PySem.W.Frag} {H : Hp} {Q : VK} {p : Addr} {xs : List V} (h : Lt2 H p xs) (k : ∀ l H1, Same H H1 → H1 l = some (.tup xs) → Q (.ref l) H1) : rTupOf K [.ref p] H Q := h.elim (fun h => tuple_end (sqL h) fun l H1 _ s e => k l H1 s e) fun h => ⟨p, xs, rfl, .inr ⟨sqT h, k p H (Same.refl _) h⟩⟩
def sp_law_pair_order (LT : List (Addr × Str)) (K : PySem.W.Frag) : Sp := fun vs H Q _ => ∃ (p q : Addr) (ns : List Str) (us : List (Str × Str × Int)) (ys : List V), vs = [.ref p, .ref q] ∧ H p = some (.lst (ns.map V.str)) ∧ H q = some (.lst ys) ∧ Rows H ys (us.map trow) ∧ (∀ t ∈ us, t.1 ∈ ns ∧ t.2.1 ∈ ns) ∧ us.length ≤ 24 ∧ ns.length ≤ 10 ∧ (∀ n ∈ ns, nameB n = true) ∧ LamX.Tabs LT H ∧
  ∀ D zs ds H', LamX.ExtN H H' → LamX.Tabs LT H' → H' D = some (.lst zs) → Rows H' zs ((ds : List (Str × Str × Int)).map trow) → ds.Perm us → PairS ns ds → Q (.ref D) H'
theorem ok_law_pair_order {f : Addr} {fd : FuncData}
    {cc PP : Addr} (Cd : fd.code = .ref cc)
    (TB : LamX.TabB base mg cc PP)
    (mT : (PP, lq "_law_pair_order") ∈ LT)
    (uT : ∀ q ∈ LT, q.1 = PP → q.2 = lq "_law_pair_order")
    (T : Txt K mg) (D : Dn K mg "_law_pair_order" s_law_pair_order p_law_pair_order f fd) : FnOk P w K mg base CX0 4 f fd p_law_pair_order (sp_law_pair_order LT K) := by
  refine fun_okC D.F Cd sc_law_pair_order (fun vs H Q E h => ?_) (fun A outer s' H vs Q E hr h => ?_)
  · obtain ⟨_, _, _, _, _, rfl, _⟩ := h
    rfl
  · obtain ⟨p, q, ns, us, ys, rfl, hp, hq, rq, min, l24, l10, nm, tT, k⟩ := h
    have ly := rq.len
    rw [List.length_map] at ly
    refine ⟨_, (pss_cons (ps_set (i := 2) sc_law_pair_order.nd rfl (Or.inr rfl) (pe_callTy (n_listK (K := K) rfl) (by rfl) T.b_list (by decide +kernel) (pa_cons (pv 0) pa_nil)))
  (pss_one (ps_ret (pe_sortLam (T := LT) (ip := 4) (k := 0) rfl (by rfl) T.b_sorted (pa_cons (pe_lc (own := [("triple", 3)]) rfl sc_law_pair_order.nd (pi_list (pv 1)) (blkOk_by (own := [("triple", 3)]) (N := n_law_pair_order) (sc := defScope s_law_pair_order) (by decide +kernel)) (fun _ _ _ _ _ => (pg_name (i := 3) sc_law_pair_order.nd rfl (Or.inl rfl))) (fun _ _ _ _ _ => pts_nil) (fun _ _ _ _ _ => (pe_callTy (n_tupleK (K := K) rfl) (by rfl) T.b_tuple (by decide +kernel) (pa_cons (pv 3) pa_nil)))) pa_nil) TB rfl mT uT (hr.mono (by omega)) (lamP_of (by kernel_rfl)) rfl (fun _ _ _ _ _ _ => rfl) rfl sc_law_pair_order.nd (fun A outer s H f c' hr => (pe_tup (pa_cons (pe_bmK (K := K) rfl PySem.F.plainAttrs_list PySem.F.slot_list_index PySem.F.type_list_index (mt_indexK (K := K) rfl) (pv 2) (pa_cons (pe_ix (ix_tupK (K := K) rfl) (pv 4) pe_int (fun _ _ => rfl)) pa_nil)) (pa_cons (pe_bmK (K := K) rfl PySem.F.plainAttrs_list PySem.F.slot_list_index PySem.F.type_list_index (mt_indexK (K := K) rfl) (pv 2) (pa_cons (pe_ix (ix_tupK (K := K) rfl) (pv 4) pe_int (fun _ _ => rfl)) pa_nil)) pa_nil)))))))), ?_⟩
    walk_at "my sts"
    refine list_end (sqL hp) fun R H1 hR s1 h1 => ?_
    have hq1 := s1 _ _ hq
    have rq1 := rq.keep (Tk.same s1)
    walk_at "my sts"
    refine i_sortLam ?_
    walk_at "my sts"
    refine cl (xs := ys) (sqL hq1) (fun D i H' => Same H1 H' ∧ ∃ acc, H' D = some (.lst acc) ∧ acc.length = i ∧ Rows H' acc ((us.take i).map trow)) (fun D hD => ⟨same_new hD, [], upd_same, rfl, Rows.nil⟩) (fun D i H' _ _ g => sqL (g.1 _ _ hq1)) ?_ ?_
    · rintro D i v H' hD hv ⟨sa, acc, hacc, lacc, racc⟩
      obtain ⟨t, d, rfl, hd, ht⟩ := (rq1.keep (Tk.same sa)).get hv
      rw [List.getElem?_map] at hd
      obtain ⟨u, hu, rfl⟩ := Option.map_eq_some_iff.mp hd
      have hi := (List.getElem?_eq_some_iff.mp hu).1
      refine ⟨rfl, ?_⟩
      walk_at "my sts"
      refine tuple_endW (.inr ht) fun T H2 s2 h2 => ?_
      have hacc2 := s2 _ _ hacc
      refine ⟨acc, hacc2, Nat.lt_of_le_of_lt (show acc.length ≤ 1000 by omega) (by decide), same_mut (sa.trans s2) hD, acc ++ [.ref T], upd_same, by rw [List.length_append, lacc]; rfl, ?_⟩
      have tk : Tk H2 (upd H2 D (.lst (acc ++ [.ref T]))) := fun x d e => Tk.lst hacc2 _ _ e
      rw [take_map _ hu]
      exact ((racc.keep (Tk.same s2)).keep tk).app (Rows.one (tk _ _ h2))
    rintro D H2 hD ⟨s2, acc, hacc, lacc, racc⟩
    rw [ly, List.take_length] at racc
    have s02 := s1.trans s2
    have t2 := tT.ext s02
    have hR2 := s2 _ _ h1
    walk_at "my sts"
    refine ⟨t2, D, acc, us.map (keyPP ns), rfl, sqL hacc, by rw [List.length_map]; omega, by omega, PySem.W.AllAlike.of fun _ _ => rfl, PySem.W.Sortable.tuples fun _ => ⟨_, _, rfl⟩, fun d hd => ?_, ?_, ?_⟩
    · obtain ⟨u, _, rfl⟩ := List.mem_map.mp hd
      show PyData.depth (.tuple [.int _, .int _]) ≤ 50
      simp [PyData.depth, PyData.depthAll]
    · intro i v d H5 hv hd e5
      obtain ⟨t, d0, rfl, hd0, ht⟩ := racc.get hv
      rw [List.getElem?_map] at hd hd0
      obtain ⟨u, eu, rfl⟩ := Option.map_eq_some_iff.mp hd0
      rw [eu] at hd
      cases hd
      have hm := min u (List.mem_of_getElem? eu)
      have ht5 := e5 _ _ ht nofun
      have hR5 := e5 _ _ hR2 nofun
      walk_at "my sts"
      refine i_idx (sqL hR5) hm.2 ?_
      walk_at "my sts"
      refine i_idx (sqL hR5) hm.1 ?_
      walk_at "my sts"
      refine tup_end (show 2 ≤ 100000 by decide) fun T H6 _ s6 h6 => ?_
      exact ⟨s6, fun G tk => .tup (sqT (tk _ _ h6)) (.cons (.int _) (.cons (.int _) .nil))⟩
    · intro D2 Hj hD2 ej tj hj
      obtain ⟨ds, pm, so, rd⟩ := pairs_sorted (ns := ns) racc
      exact k D2 _ ds Hj (fun b o h n => ej b o (s02 b o h) n) tj hj (rd.keep fun x d h => ej _ _ h nofun) pm so
def sp_law_read (LT : List (Addr × Str)) (K : PySem.W.Frag) : Sp := fun vs H Q _ => ∃ z : Str, vs = [.str z] ∧ z.length ≤ 100000 ∧ LamX.Tabs LT H ∧ ∀ v H', LamX.ExtN H H' → LamX.Tabs LT H' → AnsT H' v (rdL (Txt.split z "\n") 1 [] []) → Q v H'
theorem ok_law_read {f : Addr} {fd : FuncData}
    {f_law_folk_line : Addr} {fd_law_folk_line : FuncData} (D_law_folk_line : Dn K mg "_law_folk_line" s_law_folk_line p_law_folk_line f_law_folk_line fd_law_folk_line) (G_law_folk_line : FnOk P w K mg base CX0 2 f_law_folk_line fd_law_folk_line p_law_folk_line (sp_law_folk_line K))
    {f_law_watch_line : Addr} {fd_law_watch_line : FuncData} (D_law_watch_line : Dn K mg "_law_watch_line" s_law_watch_line p_law_watch_line f_law_watch_line fd_law_watch_line) (G_law_watch_line : FnOk P w K mg base CX0 2 f_law_watch_line fd_law_watch_line p_law_watch_line (sp_law_watch_line K))
    {f_law_pair_order : Addr} {fd_law_pair_order : FuncData} (D_law_pair_order : Dn K mg "_law_pair_order" s_law_pair_order p_law_pair_order f_law_pair_order fd_law_pair_order) (G_law_pair_order : FnOk P w K mg base CX0 4 f_law_pair_order fd_law_pair_order p_law_pair_order (sp_law_pair_order LT K))
    {f_law_names_of : Addr} {fd_law_names_of : FuncData} (D_law_names_of : Dn K mg "_law_names_of" s_law_names_of p_law_names_of f_law_names_of fd_law_names_of) (G_law_names_of : FnOk P w K mg base CX0 1 f_law_names_of fd_law_names_of p_law_names_of (sp_law_names_of K))
    (T : Txt K mg) (D : Dn K mg "_law_read" s_law_read p_law_read f fd) : FnOk P w K mg base CX0 5 f fd p_law_read (sp_law_read LT K) := by
  refine D.F.ok sc_law_read (fun vs H Q E h => ?_) (fun cdv A outer s' H vs Q E hr h => ?_)
  · obtain ⟨_, rfl, _⟩ := h
    rfl
  · obtain ⟨z, rfl, lz, tT, k⟩ := h
    refine ⟨_, (pss_cons (ps_set (i := 1) sc_law_read.nd rfl (Or.inl rfl) (pe_lst pa_nil))
  (pss_cons (ps_set (i := 2) sc_law_read.nd rfl (Or.inl rfl) (pe_lst pa_nil))
  (pss_cons (ps_set (i := 3) sc_law_read.nd rfl (Or.inl rfl) (pe_bm PySem.F.plainAttrs_str PySem.F.slot_str_split PySem.F.type_str_split mt_split (pv 0) (pa_cons pe_str pa_nil)))
  (pss_cons (ps_for PassesOwn.never rfl (pi_range1 (by rfl) T.b_range (pa_cons (pe_callB (n_lenQK (K := K) rfl) (by rfl) T.b_len (by decide +kernel) (pa_cons (pv 3) pa_nil)) pa_nil)) (pg_name (i := 4) sc_law_read.nd rfl (Or.inl rfl))
   (pss_cons (ps_set (i := 5) sc_law_read.nd rfl (Or.inl rfl) (pe_bm PySem.F.plainAttrs_str PySem.F.slot_str_split PySem.F.type_str_split mt_split (pe_ix (ix_listK (K := K) rfl) (pv 3) (pv 4) (fun _ _ => rfl)) (pa_cons pe_str pa_nil)))
  (pss_one (ps_if (pt_val (pe_call G_law_folk_line (hr.mono (by omega)) (by rfl) D_law_folk_line.m D_law_folk_line.F.kp D_law_folk_line.b .nil pass0 (pa_cons (pv 5) (pa_cons (pv 1) (pa_cons (pv 2) pa_nil))))) (pss_one (ps_expr (pe_bm PySem.F.plainAttrs_list PySem.F.slot_list_append PySem.F.type_list_append mt_append (pv 1) (pa_cons (pe_tup (pa_cons (pe_ix (ix_listK (K := K) rfl) (pv 5) pe_int (fun _ _ => rfl)) (pa_cons (pe_callTy call_int_str (by rfl) T.b_int (by decide +kernel) (pa_cons (pe_ix (ix_listK (K := K) rfl) (pv 5) pe_int (fun _ _ => rfl)) pa_nil)) pa_nil))) pa_nil)))) (pss_one (ps_if (pt_val (pe_call G_law_watch_line (hr.mono (by omega)) (by rfl) D_law_watch_line.m D_law_watch_line.F.kp D_law_watch_line.b .nil pass0 (pa_cons (pv 5) (pa_cons (pv 1) (pa_cons (pv 2) pa_nil))))) (pss_one (ps_expr (pe_bm PySem.F.plainAttrs_list PySem.F.slot_list_append PySem.F.type_list_append mt_append (pv 2) (pa_cons (pe_tup (pa_cons (pe_ix (ix_listK (K := K) rfl) (pv 5) pe_int (fun _ _ => rfl)) (pa_cons (pe_ix (ix_listK (K := K) rfl) (pv 5) pe_int (fun _ _ => rfl)) (pa_cons (pe_callTy call_int_str (by rfl) T.b_int (by decide +kernel) (pa_cons (pe_ix (ix_listK (K := K) rfl) (pv 5) pe_int (fun _ _ => rfl)) pa_nil)) pa_nil)))) pa_nil)))) (pss_one (ps_ret (pe_tup (pa_cons pe_str (pa_cons (pe_op op_add (pv 4) pe_int) pa_nil)))))))))))
  (pss_one (ps_ret (pe_tup (pa_cons pe_str (pa_cons (pe_callTy (n_tupleK (K := K) rfl) (by rfl) T.b_tuple (by decide +kernel) (pa_cons (pv 1) pa_nil)) (pa_cons (pe_callTy (n_tupleK (K := K) rfl) (by rfl) T.b_tuple (by decide +kernel) (pa_cons (pe_call G_law_pair_order (hr.mono (by omega)) (by rfl) D_law_pair_order.m D_law_pair_order.F.kp D_law_pair_order.b .nil pass0 (pa_cons (pe_call G_law_names_of (hr.mono (by omega)) (by rfl) D_law_names_of.m D_law_names_of.F.kp D_law_names_of.b .nil pass0 (pa_cons (pv 1) pa_nil)) (pa_cons (pv 2) pa_nil))) pa_nil)) pa_nil)))))))))), ?_⟩
    walk_at "my sts"
    refine lst_end (xs := []) (by simp) fun F H1 hF s1 h1 => ?_
    walk_at "my sts"
    refine lst_end (xs := []) (by simp) fun T H2 hT s2 h2 => ?_
    have s12 := s1.trans s2
    have nFT : F ≠ T := fun e => by rw [← e, h1] at hT; cases hT
    have hT0 : H T = none := s1.free hT
    walk_at "my sts"
    refine ⟨z, "\n", rfl, rfl, by decide +kernel, Nat.le_trans (show z.length + 2 ≤ 200000 by omega) (by decide), fun L hL => ?_⟩
    have s2L : Same H2 (upd H2 L (.lst ((Txt.split z "\n").map V.str))) := same_new hL
    have hL3 : (upd H2 L (.lst ((Txt.split z "\n").map V.str))) L = some (.lst ((Txt.split z "\n").map V.str)) := upd_same
    have h13 := s2L _ _ (s2 _ _ h1)
    have h23 := s2L _ _ h2
    have nLF : L ≠ F := fun e => by rw [e, s2 _ _ h1] at hL; cases hL
    have nLT : L ≠ T := fun e => by rw [e, h2] at hL; cases hL
    have s03 := s12.trans s2L
    generalize upd H2 L (.lst ((Txt.split z "\n").map V.str)) = H3 at *
    have llen := PyProof.Rows.split_le z "\n"
    have lpart : ∀ l ∈ Txt.split z "\n", l.length ≤ 100000 := fun l hl => Nat.le_trans (PyProof.Rows.part_short hl) lz
    generalize hLS : Txt.split z "\n" = ls at *
    walk_at "my sts"
    refine fr1 (by rw [List.length_map]; omega) (by rw [List.length_map]; omega) (fun i σ' H' => But2 F T H3 H' ∧ ∃ fa ta fs us u4 u5, σ' = [some (.str z), some (.ref F), some (.ref T), some (.ref L), u4, u5] ∧ H' F = some (.lst fa) ∧ Rows H' fa ((fs : List (Str × Int)).map frow) ∧ H' T = some (.lst ta) ∧ Rows H' ta ((us : List (Str × Str × Int)).map trow) ∧ ReadOk fs us ∧ rdL ls 1 [] [] = rdL (ls.drop i) (1 + i) fs us) ⟨But2.refl, [], [], [], [], _, _, rfl, h13, Rows.nil, h23, Rows.nil, ⟨List.nodup_nil, nofun, by decide, ⟨List.nodup_nil, nofun, by decide⟩⟩, rfl⟩ ?_ ?_
    · rintro i σ' H4 hi ⟨b4, fa, ta, fs, us, u4, u5, rfl, hF4, rF4, hT4, rT4, ok, eR⟩
      have hi : i < ls.length := by
        have : i < (List.map V.str ls).length := by omega
        rwa [List.length_map] at this
      have hL4 := b4.keep _ _ hL3 nLF nLT
      have ll := lpart _ (nth_mem hi)
      have ed : ls.drop i = nth ls i :: ls.drop (i + 1) := by
        rw [List.drop_eq_getElem_cons hi]
        have := nth_get hi
        rw [List.getElem?_eq_getElem hi] at this
        rw [Option.some.inj this]
      rw [ed, rdL] at eR
      walk_at "my sts"
      refine i_ixL (sqL hL4) (at_nth hi) ?_
      generalize nth ls i = line at *
      walk_at "my sts"
      refine ⟨line, " ", rfl, rfl, by decide +kernel, Nat.le_trans (show line.length + 2 ≤ 200000 by omega) (by decide), fun Wd hWd => ?_⟩
      have lw : ∀ w ∈ Txt.split line " ", w.length ≤ 100000 := fun w hw => Nat.le_trans (PyProof.Rows.part_short hw) ll
      have s46 : Same H4 (upd H4 Wd (.lst ((Txt.split line " ").map V.str))) := same_new hWd
      have hW : (upd H4 Wd (.lst ((Txt.split line " ").map V.str))) Wd = some (.lst ((Txt.split line " ").map V.str)) := upd_same
      generalize upd H4 Wd (.lst ((Txt.split line " ").map V.str)) = H6 at *
      generalize Txt.split line " " = ws at *
      have nm : ∀ f ∈ fs, nameB f.1 = true := fun f hf => (ok.nm f hf).1
      have l10 := ok.l10
      have l24 := ok.wok.len
      have lfa := rF4.len
      have lta := rT4.len
      rw [List.length_map] at lfa lta
      have sH0 : Same H H4 := fun b o h => b4.keep b o (s03 b o h) (fun e => by rw [e, hF] at h; cases h) (fun e => by rw [e, hT0] at h; cases h)
      walk_at "my sts"
      refine ⟨Wd, F, T, fa, ta, ws, fs, us, rfl, hW, s46 _ _ hF4, rF4.keep (Tk.same s46), s46 _ _ hT4, rT4.keep (Tk.same s46), by omega, by omega, lw, fun H7 s7 => ?_⟩
      have s47 := s46.trans s7
      have hW7 := s7 _ _ hW
      have hF7 := s47 _ _ hF4
      have hT7 := s47 _ _ hT4
      have rF7 := rF4.keep (Tk.same s47)
      have rT7 := rT4.keep (Tk.same s47)
      walk_at "my sts"
      refine i_ite (fun c => ?_) fun c => ?_
      · obtain ⟨l3, _, _, n2, _, _⟩ := flB_facts c
        obtain ⟨v1, _, _, v4⟩ := numB_val n2
        rw [if_pos c] at eR
        walk_at "my sts"
        refine i_ixL (sqL hW7) (at_nth (i := 1) (by omega)) ?_
        walk_at "my sts"
        refine i_ixL (sqL hW7) (at_nth (i := 2) (by omega)) ?_
        walk_at "my sts"
        refine ⟨nth ws 2, _, rfl, v1, v4, ?_⟩
        walk_at "my sts"
        refine tup_end (show 2 ≤ 100000 by decide) fun t H8 ht s8 h8 => ?_
        have hF8 := s8 _ _ hF7
        walk_at "my sts"
        refine i_append hF8 (by omega) ?_
        have tk : Tk H7 (upd H8 F (.lst (fa ++ [.ref t]))) := fun x d e => Tk.lst hF8 _ _ (s8 _ _ e)
        refine ⟨(b4.same (s47.trans s8)).app1 hF8, _, ta, _, us, _, _, rfl, upd_same, ?_, by rw [upd_ne nFT.symm]; exact s8 _ _ hT7, rT7.keep tk, ok.folk c, by rw [eR, show 1 + i + 1 = 1 + (i + 1) by omega]⟩
        rw [List.map_append]
        exact (rF7.keep tk).app (Rows.one (Tk.lst hF8 _ _ h8))
      · rw [if_neg (by rw [c]; decide)] at eR
        walk_at "my sts"
        refine ⟨Wd, F, T, fa, ta, ws, fs, us, rfl, hW7, hF7, rF7, hT7, rT7, by omega, by omega, lw, fun H8 s8 => ?_⟩
        have hW8 := s8 _ _ hW7
        have hF8 := s8 _ _ hF7
        have hT8 := s8 _ _ hT7
        have rF8 := rF7.keep (Tk.same s8)
        have rT8 := rT7.keep (Tk.same s8)
        walk_at "my sts"
        refine i_ite (fun c2 => ?_) fun c2 => ?_
        · obtain ⟨l4, _, _, _, _, n3, _, _⟩ := wlB_facts c2
          obtain ⟨v1, _, _, v4⟩ := numB_val n3
          rw [if_pos c2] at eR
          walk_at "my sts"
          refine i_ixL (sqL hW8) (at_nth (i := 1) (by omega)) ?_
          walk_at "my sts"
          refine i_ixL (sqL hW8) (at_nth (i := 2) (by omega)) ?_
          walk_at "my sts"
          refine i_ixL (sqL hW8) (at_nth (i := 3) (by omega)) ?_
          walk_at "my sts"
          refine ⟨nth ws 3, _, rfl, v1, v4, ?_⟩
          walk_at "my sts"
          refine tup_end (show 3 ≤ 100000 by decide) fun t H9 ht s9 h9 => ?_
          have hT9 := s9 _ _ hT8
          walk_at "my sts"
          refine i_append hT9 (by omega) ?_
          have tk : Tk H8 (upd H9 T (.lst (ta ++ [.ref t]))) := fun x d e => Tk.lst hT9 _ _ (s9 _ _ e)
          refine ⟨(b4.same ((s47.trans s8).trans s9)).app2 hT9, fa, _, fs, _, _, _, rfl, by rw [upd_ne nFT]; exact s9 _ _ hF8, rF8.keep tk, upd_same, ?_, ok.watch c2, by rw [eR, show 1 + i + 1 = 1 + (i + 1) by omega]⟩
          rw [List.map_append]
          exact (rT8.keep tk).app (Rows.one (Tk.lst hT9 _ _ h9))
        · rw [if_neg (by rw [c2]; decide)] at eR
          walk_at "my sts"
          refine tup_end (show 2 ≤ 100000 by decide) fun t H9 ht s9 h9 => ?_
          have sA := sH0.trans ((s47.trans s8).trans s9)
          refine k _ H9 (LamX.ExtN.of sA) (tT.ext sA) ⟨t, rfl, .inl ⟨1 + i, eR, ?_⟩⟩
          rw [h9]
          have e : (i : Int) + 1 = ((1 + i : Nat) : Int) := by omega
          rw [e]
    · rintro σ' H4 ⟨b4, fa, ta, fs, us, u4, u5, rfl, hF4, rF4, hT4, rT4, ok, eR⟩
      rw [List.drop_of_length_le (by rw [List.length_map]; omega), rdL] at eR
      have sH : Same H H4 := fun b o h => b4.keep b o (s03 b o h) (fun e => by rw [e, hF] at h; cases h) (fun e => by rw [e, hT0] at h; cases h)
      walk_at "my sts"
      have lfa := rF4.len
      have lta := rT4.len
      rw [List.length_map] at lfa lta
      have l10 := ok.l10
      have l24 := ok.wok.len
      refine tuple_end (sqL hF4) fun A5 H5 hA5 s5 h5 => ?_
      walk_at "my sts"
      refine ⟨F, fa, fs, rfl, s5 _ _ hF4, rF4.keep (Tk.same s5), by omega, fun N H6 hN h6 s6 => ?_⟩
      have s46 := s5.trans s6
      have sA := sH.trans s46
      walk_at "my sts"
      refine ⟨N, T, fs.map (·.1), us, ta, rfl, h6, s46 _ _ hT4, rT4.keep (Tk.same s46), fun t ht => ⟨(ok.wok.mem t ht).1, (ok.wok.mem t ht).2.1⟩, l24, by rw [List.length_map]; exact l10, fun n hn => by obtain ⟨f, hf, rfl⟩ := List.mem_map.mp hn; exact (ok.nm f hf).1, tT.ext sA, fun D zs ds H7 e7 t7 h7 r7 pm so => ?_⟩
      have h57 := e7 _ _ (s6 _ _ h5) nofun
      have r57 : Rows H7 fa (fs.map frow) := (rF4.keep (Tk.same s46)).keep fun x d h => e7 _ _ h nofun
      walk_at "my sts"
      refine tuple_end (sqL h7) fun B H8 hB s8 h8 => ?_
      walk_at "my sts"
      refine tup_end (show 3 ≤ 100000 by decide) fun t H9 ht s9 h9 => ?_
      have s79 := s8.trans s9
      exact k _ H9 (((LamX.ExtN.of sA).trans e7).trans (LamX.ExtN.of s79)) (t7.ext s79) ⟨t, rfl, .inr ⟨fs, us, ds, A5, B, fa, zs, eR, pm, so, h9, s79 _ _ h57, r57.keep (Tk.same s79), s9 _ _ h8, r7.keep (Tk.same s79)⟩⟩
/-- lists of the same rows are the same -/
theorem sm_atom {H : Hp} {n : Nat} {v : V} (h : atomB v = true) : Sm H n v v := by
  cases v with
  | bl b => exact .bl n b
  | int i => exact .int n i
  | str z => exact .str n z
  | non => exact .non n
  | ref a => cases h
  | _ => cases h
theorem sm_row {H : Hp} {n : Nat} {t u : Addr} {r : List V} (ht : H t = some (.tup r)) (hu : H u = some (.tup r)) (l : r.length ≤ 1000) (at_ : ∀ v ∈ r, atomB v = true) : Sm H (n + 1) (.ref t) (.ref u) :=
  .tup (.inl ht) (.inl hu) rfl (by omega) fun i x y hx hy => by
    rw [hx] at hy
    cases hy
    exact sm_atom (at_ x (List.mem_of_getElem? hx))
theorem AnsT.same {H H' : Hp} {v : V} {o : Nat ⊕ (List (Str × Int) × List (Str × Str × Int))} (h : AnsT H v o) (e : LamX.ExtN H H') : AnsT H' v o := by
  obtain ⟨t, rfl, h⟩ := h
  refine ⟨t, rfl, h.imp (fun ⟨n, a, b⟩ => ⟨n, a, e _ _ b nofun⟩) ?_⟩
  rintro ⟨fs, us, ds, a, b, rf, rw0, h1, h2, h3, h4, h5, h6, h7, h8⟩
  exact ⟨fs, us, ds, a, b, rf, rw0, h1, h2, h3, e _ _ h4 nofun, e _ _ h5 nofun, h6.keep fun x d h => e _ _ h nofun, e _ _ h7 nofun, h8.keep fun x d h => e _ _ h nofun⟩
theorem sm_ansT {H : Hp} {v w : V} {o : Nat ⊕ (List (Str × Int) × List (Str × Str × Int))} (ok : ∀ fs us, o = .inr (fs, us) → ReadOk fs us) (h : AnsT H v o) (g : AnsT H w o) : Sm H 4 v w := by
  obtain ⟨t, rfl, h⟩ := h
  obtain ⟨u, rfl, g⟩ := g
  rcases h with ⟨n, e, h⟩ | ⟨fs, us, ds, a, b, rf, rw0, e, pm, so, h1, h2, h3, h4, h5⟩
  · rcases g with ⟨m, e2, g⟩ | ⟨fs2, us2, ds2, a2, b2, rf2, rw2, e2, pm2, so2, g1, g2, g3, g4, g5⟩
    · rw [e] at e2
      cases e2
      exact sm_row h g (show 2 ≤ 1000 by decide) fun v hv => by
        simp only [List.mem_cons, List.not_mem_nil, or_false] at hv
        rcases hv with rfl | rfl <;> rfl
    · rw [e] at e2
      cases e2
  · rcases g with ⟨m, e2, g⟩ | ⟨fs2, us2, ds2, a2, b2, rf2, rw2, e2, pm2, so2, g1, g2, g3, g4, g5⟩
    · rw [e] at e2
      cases e2
    · rw [e] at e2
      cases e2
      have r := ok fs us e
      have ed : ds = ds2 := sort_one r.wok pm pm2 so so2
      subst ed
      have l10 := r.l10
      have l24 := r.wok.len
      have ld := pm.length_eq
      refine .tup (.inl h1) (.inl g1) rfl (show 3 ≤ 100000 by decide) fun j x y hx hy => ?_
      match j with
      | 0 =>
        cases hx
        cases hy
        exact .str _ _
      | 1 =>
        cases hx
        cases hy
        exact (rp_rows (n := 1) (.inr h2) h3 (atomF fs) (by rw [List.length_map]; omega)).sm (rp_rows (n := 1) (.inr g2) g3 (atomF fs) (by rw [List.length_map]; omega))
      | 2 =>
        cases hx
        cases hy
        exact (rp_rows (n := 1) (.inr h4) h5 (atomT ds) (by rw [List.length_map]; omega)).sm (rp_rows (n := 1) (.inr g4) g5 (atomT ds) (by rw [List.length_map]; omega))
      | j + 3 => cases hx
/-- what has been read off lines is right -/
theorem rdL_ok : ∀ (ls : List Str) (n : Nat) (f0 fs : List (Str × Int)) (u0 us : List (Str × Str × Int)), ReadOk f0 u0 → rdL ls n f0 u0 = .inr (fs, us) → ReadOk fs us
  | [], n, f0, fs, u0, us, r, h => by
    rw [rdL] at h
    cases h
    exact r
  | l :: ls, n, f0, fs, u0, us, r, h => by
    rw [rdL] at h
    split at h
    · next c => exact rdL_ok ls _ _ _ _ _ (r.folk c) h
    · split at h
      · next c => exact rdL_ok ls _ _ _ _ _ (r.watch c) h
      · cases h
theorem lines30 {fs : List (Str × Int)} {ws : List (Str × Str × Int)} (nf : ∀ f ∈ fs, nameB f.1 = true ∧ 0 ≤ f.2 ∧ f.2 ≤ 9999) (nt : ∀ t ∈ ws, nameB t.1 = true ∧ nameB t.2.1 = true ∧ 0 ≤ t.2.2 ∧ t.2.2 ≤ 9999) : ∀ z ∈ linesW fs ws, z.length ≤ 30 := fun z hz => by
  have c : ("folk " : Str).length = 5 := by decide +kernel
  have c6 : ("watch " : Str).length = 6 := by decide +kernel
  have d : (" " : Str).length = 1 := by decide +kernel
  rcases List.mem_append.mp hz with h | h
  · obtain ⟨f, hf, rfl⟩ := List.mem_map.mp h
    have h := nf f hf
    have a := (nameB_len h.1).2
    have b := numZ_len h.2.1 h.2.2
    unfold lnF
    rw [strLen_append, strLen_append, strLen_append]
    omega
  · obtain ⟨t, ht, rfl⟩ := List.mem_map.mp h
    have h := nt t ht
    have a := (nameB_len h.1).2
    have a2 := (nameB_len h.2.1).2
    have b := numZ_len h.2.2.1 h.2.2.2
    unfold lnW
    rw [strLen_append, strLen_append, strLen_append, strLen_append, strLen_append]
    omega
def bnd8 : Nat → Nat
  | 0 => 1020
  | i + 1 => 4 * bnd8 i + 1200
theorem bnd8_le {i : Nat} (h : i ≤ 2) : bnd8 i ≤ 22320 := by
  match i, h with
  | 0, _ => decide
  | 1, _ => decide
  | 2, _ => decide
theorem bnd8_3 {i : Nat} (h : i ≤ 3) : bnd8 i ≤ 90480 := by
  match i, h with
  | 0, _ => decide
  | 1, _ => decide
  | 2, _ => decide
  | 3, _ => decide
def sp_law (LT : List (Addr × Str)) (K : PySem.W.Frag) : Sp := fun vs H Q _ => ∃ (a : Addr) (ns : List Int), vs = [.ref a] ∧ SqL K H a (ns.map V.int) ∧ ns.length ≤ 63 ∧ LamX.Tabs LT H ∧ ∀ H', Q (.bl true) H'
theorem ok_law {f : Addr} {fd : FuncData}
    {f_law_store : Addr} {fd_law_store : FuncData} (D_law_store : Dn K mg "_law_store" s_law_store p_law_store f_law_store fd_law_store) (G_law_store : FnOk P w K mg base CX0 1 f_law_store fd_law_store p_law_store (sp_law_store K))
    {f_law_drawn : Addr} {fd_law_drawn : FuncData} (D_law_drawn : Dn K mg "_law_drawn" s_law_drawn p_law_drawn f_law_drawn fd_law_drawn) (G_law_drawn : FnOk P w K mg base CX0 6 f_law_drawn fd_law_drawn p_law_drawn (sp_law_drawn K))
    {f_law_names_of : Addr} {fd_law_names_of : FuncData} (D_law_names_of : Dn K mg "_law_names_of" s_law_names_of p_law_names_of f_law_names_of fd_law_names_of) (G_law_names_of : FnOk P w K mg base CX0 1 f_law_names_of fd_law_names_of p_law_names_of (sp_law_names_of K))
    {f_law_web_lines : Addr} {fd_law_web_lines : FuncData} (D_law_web_lines : Dn K mg "_law_web_lines" s_law_web_lines p_law_web_lines f_law_web_lines fd_law_web_lines) (G_law_web_lines : FnOk P w K mg base CX0 1 f_law_web_lines fd_law_web_lines p_law_web_lines (sp_law_web_lines K))
    {f_law_spoilt : Addr} {fd_law_spoilt : FuncData} (D_law_spoilt : Dn K mg "_law_spoilt" s_law_spoilt p_law_spoilt f_law_spoilt fd_law_spoilt) (G_law_spoilt : FnOk P w K mg base CX0 7 f_law_spoilt fd_law_spoilt p_law_spoilt (sp_law_spoilt K))
    {f_law_same : Addr} {fd_law_same : FuncData} (D_law_same : Dn K mg "_law_same" s_law_same p_law_same f_law_same fd_law_same) (G_law_same : FnOk P w K mg base CX0 5 f_law_same fd_law_same p_law_same (sp_law_same K))
    {f_law_take : Addr} {fd_law_take : FuncData} (D_law_take : Dn K mg "_law_take" s_law_take p_law_take f_law_take fd_law_take) (G_law_take : FnOk P w K mg base CX0 2 f_law_take fd_law_take p_law_take (sp_law_take K))
    {f_law_told : Addr} {fd_law_told : FuncData} (D_law_told : Dn K mg "_law_told" s_law_told p_law_told f_law_told fd_law_told) (G_law_told : FnOk P w K mg base CX0 10 f_law_told fd_law_told p_law_told (sp_law_told K))
    {f_law_read : Addr} {fd_law_read : FuncData} (D_law_read : Dn K mg "_law_read" s_law_read p_law_read f_law_read fd_law_read) (G_law_read : FnOk P w K mg base CX0 5 f_law_read fd_law_read p_law_read (sp_law_read LT K))
    (T : Txt K mg) (D : Dn K mg "law" s_law p_law f fd) : FnOk P w K mg base CX0 11 f fd p_law (sp_law LT K) := by
  refine D.F.ok sc_law (fun vs H Q E h => ?_) (fun cdv A outer s' H vs Q E hr h => ?_)
  · obtain ⟨a, ns, rfl, _⟩ := h
    rfl
  · obtain ⟨a, script, rfl, hS, hl, tT, k⟩ := h
    refine ⟨_, (pss_cons (ps_set (i := 1) sc_law.nd rfl (Or.inl rfl) (pe_call G_law_store (hr.mono (by omega)) (by rfl) D_law_store.m D_law_store.F.kp D_law_store.b .nil pass0 (pa_cons (pv 0) pa_nil)))
  (pss_cons (ps_set (i := 2) sc_law.nd rfl (Or.inl rfl) (pe_call G_law_drawn (hr.mono (by omega)) (by rfl) D_law_drawn.m D_law_drawn.F.kp D_law_drawn.b .nil pass0 (pa_cons (pv 1) pa_nil)))
  (pss_cons (ps_set (i := 3) sc_law.nd rfl (Or.inl rfl) (pe_call G_law_names_of (hr.mono (by omega)) (by rfl) D_law_names_of.m D_law_names_of.F.kp D_law_names_of.b .nil pass0 (pa_cons (pe_ix (ix_listK (K := K) rfl) (pv 2) pe_int (fun _ _ => rfl)) pa_nil)))
  (pss_cons (ps_set (i := 4) sc_law.nd rfl (Or.inl rfl) (pe_call G_law_web_lines (hr.mono (by omega)) (by rfl) D_law_web_lines.m D_law_web_lines.F.kp D_law_web_lines.b .nil pass0 (pa_cons (pe_ix (ix_listK (K := K) rfl) (pv 2) pe_int (fun _ _ => rfl)) (pa_cons (pe_ix (ix_listK (K := K) rfl) (pv 2) pe_int (fun _ _ => rfl)) pa_nil))))
  (pss_cons (ps_set (i := 5) sc_law.nd rfl (Or.inl rfl) (pe_lst (pa_cons (pe_bm PySem.F.plainAttrs_str PySem.F.slot_str_join PySem.F.type_str_join mt_join pe_str (pa_cons (pv 4) pa_nil)) (pa_cons (pe_op n_addZ pe_str (pe_bm PySem.F.plainAttrs_str PySem.F.slot_str_join PySem.F.type_str_join mt_join pe_str (pa_cons (pv 4) pa_nil))) (pa_cons (pe_op n_addZ (pe_bm PySem.F.plainAttrs_str PySem.F.slot_str_join PySem.F.type_str_join mt_join pe_str (pa_cons (pv 4) pa_nil)) pe_str) (pa_cons pe_str pa_nil))))))
  (pss_cons (ps_for PassesOwn.never rfl (pi_range1 (by rfl) T.b_range (pa_cons pe_int pa_nil)) (pg_name (i := 6) sc_law.nd rfl (Or.inl rfl))
   (pss_cons (ps_set (i := 7) sc_law.nd rfl (Or.inl rfl) (pv 4))
  (pss_cons (ps_for PassesOwn.never rfl (pi_range1 (by rfl) T.b_range (pa_cons (pe_op op_add pe_int (pe_call G_law_take (hr.mono (by omega)) (by rfl) D_law_take.m D_law_take.F.kp D_law_take.b .nil pass0 (pa_cons (pv 1) (pa_cons pe_int pa_nil)))) pa_nil)) (pg_name (i := 8) sc_law.nd rfl (Or.inl rfl))
   (pss_one (ps_set (i := 7) sc_law.nd rfl (Or.inl rfl) (pe_call G_law_spoilt (hr.mono (by omega)) (by rfl) D_law_spoilt.m D_law_spoilt.F.kp D_law_spoilt.b .nil pass0 (pa_cons (pv 1) (pa_cons (pv 3) (pa_cons (pv 7) pa_nil)))))))
  (pss_one (ps_expr (pe_bm PySem.F.plainAttrs_list PySem.F.slot_list_append PySem.F.type_list_append mt_append (pv 5) (pa_cons (pe_bm PySem.F.plainAttrs_str PySem.F.slot_str_join PySem.F.type_str_join mt_join pe_str (pa_cons (pv 7) pa_nil)) pa_nil)))))))
  (pss_cons (ps_for PassesOwn.never rfl (pi_list (pe_op op_cat (pv 5) (pe_revL (pv 5)))) (pg_name (i := 9) sc_law.nd rfl (Or.inl rfl))
   (pss_one (ps_if (pt_not (pt_val (pe_call G_law_same (hr.mono (by omega)) (by rfl) D_law_same.m D_law_same.F.kp D_law_same.b .nil pass0 (pa_cons (pe_call G_law_told (hr.mono (by omega)) (by rfl) D_law_told.m D_law_told.F.kp D_law_told.b .nil pass0 (pa_cons (pv 9) pa_nil)) (pa_cons (pe_call G_law_read (hr.mono (by omega)) (by rfl) D_law_read.m D_law_read.F.kp D_law_read.b .nil pass0 (pa_cons (pv 9) pa_nil)) pa_nil))))) (pss_one (ps_ret pe_bl)) pss_nil)))
  (pss_one (ps_ret pe_bl))))))))), ?_⟩
    walk_at "my sts"
    refine ⟨a, script, rfl, hS, by omega, fun s H1 hs hst1 s1 => ?_⟩
    have t1 := tT.ext s1
    walk_at "my sts"
    refine ⟨s, rfl, hst1, fun p fp wp ys xs fs ws H2 hp h2 nf nw hf rf hw rw0 l1 l10 l24 gf gw hst2 f2 => ?_⟩
    have t2 := tabs_fr t1 hst1 f2
    have np := hst1.ne hp
    have ly := rf.len
    have lx := rw0.len
    rw [List.length_map] at ly lx
    walk_at "my sts"
    refine ⟨fp, ys, fs, rfl, hf, rf, by omega, fun N H3 hN h3 s3 => ?_⟩
    have nN := hst2.ne hN
    have h23 := s3 _ _ h2
    walk_at "my sts"
    refine ⟨fp, wp, ys, xs, fs, ws, rfl, .inl (s3 _ _ hf), rf.keep (Tk.same s3), .inl (s3 _ _ hw), rw0.keep (Tk.same s3), l10, by omega, gf, gw, fun L H4 hL s4 h4 => ?_⟩
    have nL := (hst2.same s3).ne hL
    have s24 := s3.trans s4
    have hst4 := hst2.same s24
    have t4 := t2.ext s24
    have h34 := s4 _ _ h3
    have lz := lines30 gf gw
    have ll : (linesW fs ws).length ≤ 34 := by
      unfold linesW
      rw [List.length_append, List.length_map, List.length_map]
      omega
    have ll1 : 1 ≤ (linesW fs ws).length := by
      unfold linesW
      rw [List.length_append, List.length_map]
      omega
    have tl := tot_le lz
    generalize linesW fs ws = ls at *
    have lmul : ls.length * 30 ≤ 34 * 30 := Nat.mul_le_mul_right _ ll
    walk_at "my sts"
    have c1 : (Str.ofString "\n").length = 1 := by decide +kernel
    have c0 : (Str.ofString "").length = 0 := by decide +kernel
    have ts : (ls.map fun x => x.length).sum = tot ls := rfl
    have lj : (Txt.join (Str.ofString "\n") ls).length ≤ tot ls + ls.length * (Str.ofString "\n").length := tot_join _ _
    rw [c1] at lj
    refine ⟨_, L, ls, rfl, rfl, .inl (sqL h4), by rw [c1, ts]; omega, ?_⟩
    walk_at "my sts"
    refine ⟨_, L, ls, rfl, rfl, .inl (sqL h4), by rw [c1, ts]; omega, ?_⟩
    walk_at "my sts"
    refine ⟨_, L, ls, rfl, rfl, .inl (sqL h4), by rw [c1, ts]; omega, ?_⟩
    walk_at "my sts"
    generalize Txt.join (Str.ofString "\n") ls = w0 at *
    have a1 : (Str.ofString "\n" ++ w0).length = 1 + w0.length := by rw [strLen_append]; omega
    have a2 : (w0 ++ Str.ofString "\n").length = w0.length + 1 := by rw [strLen_append]; omega
    refine lst_end (xs := [w0, Str.ofString "\n" ++ w0, w0 ++ Str.ofString "\n", Str.ofString ""].map V.str) (show 4 ≤ 100000 by decide) fun X H5 hX s5 h5 => ?_
    have nX := hst4.ne hX
    have hst5 := hst4.same s5
    have aX : ∀ z ∈ [w0, Str.ofString "\n" ++ w0, w0 ++ Str.ofString "\n", Str.ofString ""], z.length ≤ 100000 := fun z hz => by
      simp only [List.mem_cons, List.not_mem_nil, or_false] at hz
      rcases hz with rfl | rfl | rfl | rfl <;> omega
    have lX : [w0, Str.ofString "\n" ++ w0, w0 ++ Str.ofString "\n", Str.ofString ""].length = 4 := rfl
    generalize [w0, Str.ofString "\n" ++ w0, w0 ++ Str.ofString "\n", Str.ofString ""] = zs0 at *
    walk_at "my sts"
    refine fr1 (by decide) (by decide) (fun i σ' H' => StOk H' s ∧ Fr s H4 H' ∧ ∃ zs u6 u7 u8 u9, σ' = [some (.ref a), some (.ref s), some (.ref p), some (.ref N), some (.ref L), some (.ref X), u6, u7, u8, u9] ∧ H' X = some (.lst ((zs : List Str).map V.str)) ∧ zs.length = 4 + i ∧ ∀ z ∈ zs, z.length ≤ 100000) ⟨hst5, Fr.same s5, zs0, _, _, _, _, rfl, h5, lX, aX⟩ ?_ ?_
    · rintro i σ' H6 hi ⟨hst6, f6, zs, u6, u7, u8, u9, rfl, hx6, lzs, azs⟩
      have hi : i < 3 := hi
      walk_at "my sts"
      refine ⟨s, 3, rfl, hst6, by decide, fun n H7 n0 n1 hst7 f7 => ?_⟩
      have f47 := f6.trans f7
      walk_at "my sts"
      refine fr1 (by omega) (by omega) (fun j σ2 H' => StOk H' s ∧ Fr s H4 H' ∧ H' X = some (.lst (zs.map V.str)) ∧ ∃ o l2 v8 v9, σ2 = [some (.ref a), some (.ref s), some (.ref p), some (.ref N), some (.ref L), some (.ref X), some (.int (i : Int)), some (.ref o), v8, v9] ∧ o ≠ s ∧ H' o = some (.lst ((l2 : List Str).map V.str)) ∧ 1 ≤ l2.length ∧ l2.length ≤ 34 + 11 * j ∧ tot l2 ≤ bnd8 j) ⟨hst7, f47, f7.1 _ _ hx6 nX, L, ls, _, _, rfl, nL, f47.1 _ _ h4 nL, ll1, by omega, by show tot ls ≤ 1020; omega⟩ ?_ ?_
      · rintro j σ2 H8 hj ⟨hst8, f8, hx8, o, l2, v8, v9, rfl, no, ho, lo1, lo2, to2⟩
        have hj : j ≤ 2 := by omega
        have bj := bnd8_le hj
        walk_at "my sts"
        refine ⟨s, N, o, fs.map (·.1), l2, rfl, hst8, f8.1 _ _ h34 nN, nN, by rw [List.length_map]; omega, by rw [List.length_map]; omega, fun n hn => by obtain ⟨f, hf, rfl⟩ := List.mem_map.mp hn; exact (gf f hf).1, ho, no, lo1, by omega, by omega, fun o2 l3 H9 ho2 h9 b1 b2 b3 hst9 f9 => ?_⟩
        walk_at "my sts"
        exact ⟨hst9, f8.trans f9, f9.1 _ _ hx8 nX, o2, l3, _, _, rfl, hst8.ne ho2, h9, b1, by omega, by show tot l3 ≤ 4 * bnd8 j + 1200; omega⟩
      · rintro σ2 H8 ⟨hst8, f8, hx8, o, l2, v8, v9, rfl, no, ho, lo1, lo2, to2⟩
        have hn : (1 + n).toNat ≤ 3 := by omega
        have bn := bnd8_3 hn
        have ts2 : (l2.map fun x => x.length).sum = tot l2 := rfl
        have lj2 : (Txt.join (Str.ofString "\n") l2).length ≤ tot l2 + l2.length * (Str.ofString "\n").length := tot_join _ _
        rw [c1] at lj2
        walk_at "my sts"
        refine ⟨_, o, l2, rfl, rfl, .inl (sqL ho), by rw [c1, ts2]; omega, ?_⟩
        walk_at "my sts"
        refine i_append hx8 (by rw [List.length_map]; omega) ?_
        obtain ⟨b1, b2, b3, _⟩ := mut_all (ys := zs.map V.str ++ [V.str (Txt.join (Str.ofString "\n") l2)]) hst4 f8 hst8 hX
        refine ⟨b1, b2, zs ++ [Txt.join (Str.ofString "\n") l2], _, _, _, _, rfl, by rw [List.map_append]; exact b3, by rw [List.length_append, lzs]; rfl, fun z hz => ?_⟩
        rcases List.mem_append.mp hz with hz | hz
        · exact azs z hz
        · rw [List.mem_singleton.mp hz]
          omega
    rintro σ' H6 ⟨hst6, f6, zs, u6, u7, u8, u9, rfl, hx6, lzs, azs⟩
    have lzs : zs.length = 7 := lzs
    have t6 := tabs_fr t4 hst4 f6
    walk_at "my sts"
    refine rev_end (sqL hx6) fun X2 H7 hX2 s7 h7 => ?_
    rw [← List.map_reverse] at h7
    refine cat_end (s7 _ _ hx6) h7 (by rw [List.length_map, List.length_map, List.length_reverse, lzs]; decide) fun X3 H8 hX3 s8 h8 => ?_
    rw [← List.map_append] at h8
    have az2 : ∀ z ∈ zs ++ zs.reverse, z.length ≤ 100000 := fun z hz => (List.mem_append.mp hz).elim (azs z) fun h => azs z (List.mem_reverse.mp h)
    generalize zs ++ zs.reverse = zz at *
    have t8 := t6.ext (s7.trans s8)
    refine fl (sqL h8) (fun i σ2 H' => LamX.ExtN H8 H' ∧ LamX.Tabs LT H' ∧ ∃ u6 u7 u8 u9, σ2 = [some (.ref a), some (.ref s), some (.ref p), some (.ref N), some (.ref L), some (.ref X), u6, u7, u8, u9]) ⟨LamX.ExtN.of fun _ _ h => h, t8, _, _, _, _, rfl⟩ (fun i σ' H' _ g => sqL (g.1 _ _ h8 nofun)) ?_ ?_
    · rintro i v σ2 H9 hv ⟨e9, t9, u6, u7, u8, u9, rfl⟩
      rw [List.getElem?_map] at hv
      obtain ⟨z, hz, rfl⟩ := Option.map_eq_some_iff.mp hv
      have lz := az2 z (List.mem_of_getElem? hz)
      walk_at "my sts"
      refine ⟨z, rfl, lz, fun v1 H10 s10 a1 => ?_⟩
      walk_at "my sts"
      refine ⟨z, rfl, lz, t9.ext s10, fun v2 H11 e11 t11 a2 => ?_⟩
      walk_at "my sts"
      refine ⟨_, _, rfl, sm_ansT (fun fs us e => rdL_ok _ 1 [] fs [] us ⟨List.nodup_nil, nofun, by decide, ⟨List.nodup_nil, nofun, by decide⟩⟩ e) (a1.same e11) a2, fun H12 s12 => ?_⟩
      walk_at "my sts"
      exact ⟨e9.trans ((LamX.ExtN.of s10).trans (e11.trans (LamX.ExtN.of s12))), t11.ext s12, _, _, _, _, rfl⟩
    · rintro σ2 H9 ⟨e9, t9, u6, u7, u8, u9, rfl⟩
      walk_at "my sts"
      exact k H9
theorem all_mk {l : PySem.W.OpenLaw} {w : World} {K : PySem.W.Frag} {h : Heap} {mg : Str → Option Value} {fa : Addr} (X : K.In h) (G : h.Ns mainGlobals mg) (hfa : mg "law" = some (.ref fa))
    {ts : List Addr} (hT : ∀ P ∈ ts, h.get? P = some (PySem.W.tabObj #[]))
    {A_Web : Addr}
    (a_Web : PySem.W.nsIn K mainGlobals "Web" = some (some (.ref A_Web)))
    (pg_Web : PySem.W.plainGet K A_Web Str.empty = true)
    (hd_Web : PySem.W.hasDictIn K A_Web = true)
    (po_Web : PySem.W.plainOver K A_Web = true)
    (sa_Web : PySem.W.findIn K (.ref A_Web) "__setattr__" = some (some (.builtin "object.__setattr__")))
    (mk_Web : PySem.W.makesIn K A_Web = true)
    (kc_Web : PySem.W.keepIn K (.ref A_Web) = true)
    (no_Web_0 : PySem.W.findIn K (.ref A_Web) "_folk" = some none)
    (no_Web_1 : PySem.W.findIn K (.ref A_Web) "_names" = some none)
    (no_Web_2 : PySem.W.findIn K (.ref A_Web) "_watches" = some none)
    (no_Web_3 : PySem.W.findIn K (.ref A_Web) "_pulls" = some none)
    (ex_gc : PySem.W.specialIn K (.builtin "object.__class__") "__get__" = some (some (.builtin "getset_descriptor.__get__")))
    (ex_tc : PySem.W.takesIn K (.builtin "object.__class__") = some true)
    {A_DrowseError : Addr}
    (a_DrowseError : PySem.W.nsIn K mainGlobals "DrowseError" = some (some (.ref A_DrowseError)))
    (ga_DrowseError : PySem.W.findIn K (.ref A_DrowseError) "__getattribute__" = some (some (.builtin "BaseException.__getattribute__")))
    (gg_DrowseError : PySem.W.findIn K (.ref A_DrowseError) "__getattr__" = some none)
    (sb_DrowseError : PySem.W.subIn K (.ref A_DrowseError) (.type "BaseException") = some true)
    (hd_DrowseError : PySem.W.hasDictIn K A_DrowseError = true)
    (cl_DrowseError : PySem.W.findIn K (.ref A_DrowseError) "__class__" = some (some (.builtin "object.__class__")))
    (mr_DrowseError : PySem.W.mroIn K A_DrowseError (.type "object") = some true)
    (ty_DrowseError : PySem.W.typeIn K (.ref A_DrowseError) = some (.type "type"))
    (ic_DrowseError : PySem.W.isClsIn K A_DrowseError = true)
    (ss_DrowseError : PySem.W.subIn K (.ref A_DrowseError) (.ref A_DrowseError) = some true)
    {A_BadName : Addr}
    (a_BadName : PySem.W.nsIn K mainGlobals "BadName" = some (some (.ref A_BadName)))
    (ga_BadName : PySem.W.findIn K (.ref A_BadName) "__getattribute__" = some (some (.builtin "BaseException.__getattribute__")))
    (gg_BadName : PySem.W.findIn K (.ref A_BadName) "__getattr__" = some none)
    (sb_BadName : PySem.W.subIn K (.ref A_BadName) (.type "BaseException") = some true)
    (hd_BadName : PySem.W.hasDictIn K A_BadName = true)
    (cl_BadName : PySem.W.findIn K (.ref A_BadName) "__class__" = some (some (.builtin "object.__class__")))
    (mr_BadName : PySem.W.mroIn K A_BadName (.type "object") = some true)
    (ty_BadName : PySem.W.typeIn K (.ref A_BadName) = some (.type "type"))
    (ic_BadName : PySem.W.isClsIn K A_BadName = true)
    (ss_BadName : PySem.W.subIn K (.ref A_BadName) (.ref A_BadName) = some true)
    {A_BadNumber : Addr}
    (a_BadNumber : PySem.W.nsIn K mainGlobals "BadNumber" = some (some (.ref A_BadNumber)))
    (ga_BadNumber : PySem.W.findIn K (.ref A_BadNumber) "__getattribute__" = some (some (.builtin "BaseException.__getattribute__")))
    (gg_BadNumber : PySem.W.findIn K (.ref A_BadNumber) "__getattr__" = some none)
    (sb_BadNumber : PySem.W.subIn K (.ref A_BadNumber) (.type "BaseException") = some true)
    (hd_BadNumber : PySem.W.hasDictIn K A_BadNumber = true)
    (cl_BadNumber : PySem.W.findIn K (.ref A_BadNumber) "__class__" = some (some (.builtin "object.__class__")))
    (mr_BadNumber : PySem.W.mroIn K A_BadNumber (.type "object") = some true)
    (ty_BadNumber : PySem.W.typeIn K (.ref A_BadNumber) = some (.type "type"))
    (ic_BadNumber : PySem.W.isClsIn K A_BadNumber = true)
    (ss_BadNumber : PySem.W.subIn K (.ref A_BadNumber) (.ref A_BadNumber) = some true)
    {A_BadCount : Addr}
    (a_BadCount : PySem.W.nsIn K mainGlobals "BadCount" = some (some (.ref A_BadCount)))
    (ga_BadCount : PySem.W.findIn K (.ref A_BadCount) "__getattribute__" = some (some (.builtin "BaseException.__getattribute__")))
    (gg_BadCount : PySem.W.findIn K (.ref A_BadCount) "__getattr__" = some none)
    (sb_BadCount : PySem.W.subIn K (.ref A_BadCount) (.type "BaseException") = some true)
    (hd_BadCount : PySem.W.hasDictIn K A_BadCount = true)
    (cl_BadCount : PySem.W.findIn K (.ref A_BadCount) "__class__" = some (some (.builtin "object.__class__")))
    (mr_BadCount : PySem.W.mroIn K A_BadCount (.type "object") = some true)
    (ty_BadCount : PySem.W.typeIn K (.ref A_BadCount) = some (.type "type"))
    (ic_BadCount : PySem.W.isClsIn K A_BadCount = true)
    (ss_BadCount : PySem.W.subIn K (.ref A_BadCount) (.ref A_BadCount) = some true)
    {A_Repeated : Addr}
    (a_Repeated : PySem.W.nsIn K mainGlobals "Repeated" = some (some (.ref A_Repeated)))
    (ga_Repeated : PySem.W.findIn K (.ref A_Repeated) "__getattribute__" = some (some (.builtin "BaseException.__getattribute__")))
    (gg_Repeated : PySem.W.findIn K (.ref A_Repeated) "__getattr__" = some none)
    (sb_Repeated : PySem.W.subIn K (.ref A_Repeated) (.type "BaseException") = some true)
    (hd_Repeated : PySem.W.hasDictIn K A_Repeated = true)
    (cl_Repeated : PySem.W.findIn K (.ref A_Repeated) "__class__" = some (some (.builtin "object.__class__")))
    (mr_Repeated : PySem.W.mroIn K A_Repeated (.type "object") = some true)
    (ty_Repeated : PySem.W.typeIn K (.ref A_Repeated) = some (.type "type"))
    (ic_Repeated : PySem.W.isClsIn K A_Repeated = true)
    (ss_Repeated : PySem.W.subIn K (.ref A_Repeated) (.ref A_Repeated) = some true)
    {A_UnknownFolk : Addr}
    (a_UnknownFolk : PySem.W.nsIn K mainGlobals "UnknownFolk" = some (some (.ref A_UnknownFolk)))
    (ga_UnknownFolk : PySem.W.findIn K (.ref A_UnknownFolk) "__getattribute__" = some (some (.builtin "BaseException.__getattribute__")))
    (gg_UnknownFolk : PySem.W.findIn K (.ref A_UnknownFolk) "__getattr__" = some none)
    (sb_UnknownFolk : PySem.W.subIn K (.ref A_UnknownFolk) (.type "BaseException") = some true)
    (hd_UnknownFolk : PySem.W.hasDictIn K A_UnknownFolk = true)
    (cl_UnknownFolk : PySem.W.findIn K (.ref A_UnknownFolk) "__class__" = some (some (.builtin "object.__class__")))
    (mr_UnknownFolk : PySem.W.mroIn K A_UnknownFolk (.type "object") = some true)
    (ty_UnknownFolk : PySem.W.typeIn K (.ref A_UnknownFolk) = some (.type "type"))
    (ic_UnknownFolk : PySem.W.isClsIn K A_UnknownFolk = true)
    (ss_UnknownFolk : PySem.W.subIn K (.ref A_UnknownFolk) (.ref A_UnknownFolk) = some true)
    {A_SelfWatch : Addr}
    (a_SelfWatch : PySem.W.nsIn K mainGlobals "SelfWatch" = some (some (.ref A_SelfWatch)))
    (ga_SelfWatch : PySem.W.findIn K (.ref A_SelfWatch) "__getattribute__" = some (some (.builtin "BaseException.__getattribute__")))
    (gg_SelfWatch : PySem.W.findIn K (.ref A_SelfWatch) "__getattr__" = some none)
    (sb_SelfWatch : PySem.W.subIn K (.ref A_SelfWatch) (.type "BaseException") = some true)
    (hd_SelfWatch : PySem.W.hasDictIn K A_SelfWatch = true)
    (cl_SelfWatch : PySem.W.findIn K (.ref A_SelfWatch) "__class__" = some (some (.builtin "object.__class__")))
    (mr_SelfWatch : PySem.W.mroIn K A_SelfWatch (.type "object") = some true)
    (ty_SelfWatch : PySem.W.typeIn K (.ref A_SelfWatch) = some (.type "type"))
    (ic_SelfWatch : PySem.W.isClsIn K A_SelfWatch = true)
    (ss_SelfWatch : PySem.W.subIn K (.ref A_SelfWatch) (.ref A_SelfWatch) = some true)
    {A_BadText : Addr}
    (a_BadText : PySem.W.nsIn K mainGlobals "BadText" = some (some (.ref A_BadText)))
    (ga_BadText : PySem.W.findIn K (.ref A_BadText) "__getattribute__" = some (some (.builtin "BaseException.__getattribute__")))
    (gg_BadText : PySem.W.findIn K (.ref A_BadText) "__getattr__" = some none)
    (sb_BadText : PySem.W.subIn K (.ref A_BadText) (.type "BaseException") = some true)
    (hd_BadText : PySem.W.hasDictIn K A_BadText = true)
    (cl_BadText : PySem.W.findIn K (.ref A_BadText) "__class__" = some (some (.builtin "object.__class__")))
    (mr_BadText : PySem.W.mroIn K A_BadText (.type "object") = some true)
    (ty_BadText : PySem.W.typeIn K (.ref A_BadText) = some (.type "type"))
    (ic_BadText : PySem.W.isClsIn K A_BadText = true)
    (ss_BadText : PySem.W.subIn K (.ref A_BadText) (.ref A_BadText) = some true)
    {A_BorderWatch : Addr}
    (a_BorderWatch : PySem.W.nsIn K mainGlobals "BorderWatch" = some (some (.ref A_BorderWatch)))
    (ga_BorderWatch : PySem.W.findIn K (.ref A_BorderWatch) "__getattribute__" = some (some (.builtin "BaseException.__getattribute__")))
    (gg_BorderWatch : PySem.W.findIn K (.ref A_BorderWatch) "__getattr__" = some none)
    (sb_BorderWatch : PySem.W.subIn K (.ref A_BorderWatch) (.type "BaseException") = some true)
    (hd_BorderWatch : PySem.W.hasDictIn K A_BorderWatch = true)
    (cl_BorderWatch : PySem.W.findIn K (.ref A_BorderWatch) "__class__" = some (some (.builtin "object.__class__")))
    (mr_BorderWatch : PySem.W.mroIn K A_BorderWatch (.type "object") = some true)
    (ty_BorderWatch : PySem.W.typeIn K (.ref A_BorderWatch) = some (.type "type"))
    (ic_BorderWatch : PySem.W.isClsIn K A_BorderWatch = true)
    (ss_BorderWatch : PySem.W.subIn K (.ref A_BorderWatch) (.ref A_BorderWatch) = some true)
    {nm_BadName qn_BadName : Str} {N_BadName fI_BadName : Addr} {bs_BadName bm_BadName sb2_BadName : List Value} {sn_BadName : List Str} {ab_BadName : Bool} {col_BadName : Option Bool} {dd_BadName : Option Addr} {m0_BadName m1_BadName m2_BadName m3_BadName m5_BadName : Option Value}
    (xL_BadName : K.lookup A_BadName = some (excClassObj nm_BadName qn_BadName A_BadName N_BadName bs_BadName bm_BadName true sn_BadName sb2_BadName ab_BadName col_BadName dd_BadName m0_BadName m1_BadName m2_BadName m3_BadName m5_BadName "ValueError.__new__"))
    (sa_BadName : PySem.W.findIn K (.ref A_BadName) "__setattr__" = some (some (.builtin "object.__setattr__")))
    (kc_BadName : PySem.W.keepIn K (.ref A_BadName) = true)
    (iC_BadName : PySem.W.findIn K (.ref A_BadName) "__init__" = some (some (.ref fI_BadName)))
    (tI_BadName : PySem.W.typeIn K (.ref fI_BadName) = some (.type "function"))
    (no_BadName_0 : PySem.W.findIn K (.ref A_BadName) "name" = some none)
    (rv_BadName : PySem.HandSPX.refsVE bm_BadName = true)
    {nm_BadNumber qn_BadNumber : Str} {N_BadNumber fI_BadNumber : Addr} {bs_BadNumber bm_BadNumber sb2_BadNumber : List Value} {sn_BadNumber : List Str} {ab_BadNumber : Bool} {col_BadNumber : Option Bool} {dd_BadNumber : Option Addr} {m0_BadNumber m1_BadNumber m2_BadNumber m3_BadNumber m5_BadNumber : Option Value}
    (xL_BadNumber : K.lookup A_BadNumber = some (excClassObj nm_BadNumber qn_BadNumber A_BadNumber N_BadNumber bs_BadNumber bm_BadNumber true sn_BadNumber sb2_BadNumber ab_BadNumber col_BadNumber dd_BadNumber m0_BadNumber m1_BadNumber m2_BadNumber m3_BadNumber m5_BadNumber "ValueError.__new__"))
    (sa_BadNumber : PySem.W.findIn K (.ref A_BadNumber) "__setattr__" = some (some (.builtin "object.__setattr__")))
    (kc_BadNumber : PySem.W.keepIn K (.ref A_BadNumber) = true)
    (iC_BadNumber : PySem.W.findIn K (.ref A_BadNumber) "__init__" = some (some (.ref fI_BadNumber)))
    (tI_BadNumber : PySem.W.typeIn K (.ref fI_BadNumber) = some (.type "function"))
    (no_BadNumber_0 : PySem.W.findIn K (.ref A_BadNumber) "value" = some none)
    (rv_BadNumber : PySem.HandSPX.refsVE bm_BadNumber = true)
    {nm_BadCount qn_BadCount : Str} {N_BadCount fI_BadCount : Addr} {bs_BadCount bm_BadCount sb2_BadCount : List Value} {sn_BadCount : List Str} {ab_BadCount : Bool} {col_BadCount : Option Bool} {dd_BadCount : Option Addr} {m0_BadCount m1_BadCount m2_BadCount m3_BadCount m5_BadCount : Option Value}
    (xL_BadCount : K.lookup A_BadCount = some (excClassObj nm_BadCount qn_BadCount A_BadCount N_BadCount bs_BadCount bm_BadCount true sn_BadCount sb2_BadCount ab_BadCount col_BadCount dd_BadCount m0_BadCount m1_BadCount m2_BadCount m3_BadCount m5_BadCount "ValueError.__new__"))
    (sa_BadCount : PySem.W.findIn K (.ref A_BadCount) "__setattr__" = some (some (.builtin "object.__setattr__")))
    (kc_BadCount : PySem.W.keepIn K (.ref A_BadCount) = true)
    (iC_BadCount : PySem.W.findIn K (.ref A_BadCount) "__init__" = some (some (.ref fI_BadCount)))
    (tI_BadCount : PySem.W.typeIn K (.ref fI_BadCount) = some (.type "function"))
    (no_BadCount_0 : PySem.W.findIn K (.ref A_BadCount) "what" = some none)
    (no_BadCount_1 : PySem.W.findIn K (.ref A_BadCount) "number" = some none)
    (rv_BadCount : PySem.HandSPX.refsVE bm_BadCount = true)
    {nm_Repeated qn_Repeated : Str} {N_Repeated fI_Repeated : Addr} {bs_Repeated bm_Repeated sb2_Repeated : List Value} {sn_Repeated : List Str} {ab_Repeated : Bool} {col_Repeated : Option Bool} {dd_Repeated : Option Addr} {m0_Repeated m1_Repeated m2_Repeated m3_Repeated m5_Repeated : Option Value}
    (xL_Repeated : K.lookup A_Repeated = some (excClassObj nm_Repeated qn_Repeated A_Repeated N_Repeated bs_Repeated bm_Repeated true sn_Repeated sb2_Repeated ab_Repeated col_Repeated dd_Repeated m0_Repeated m1_Repeated m2_Repeated m3_Repeated m5_Repeated "ValueError.__new__"))
    (sa_Repeated : PySem.W.findIn K (.ref A_Repeated) "__setattr__" = some (some (.builtin "object.__setattr__")))
    (kc_Repeated : PySem.W.keepIn K (.ref A_Repeated) = true)
    (iC_Repeated : PySem.W.findIn K (.ref A_Repeated) "__init__" = some (some (.ref fI_Repeated)))
    (tI_Repeated : PySem.W.typeIn K (.ref fI_Repeated) = some (.type "function"))
    (no_Repeated_0 : PySem.W.findIn K (.ref A_Repeated) "value" = some none)
    (rv_Repeated : PySem.HandSPX.refsVE bm_Repeated = true)
    {nm_UnknownFolk qn_UnknownFolk : Str} {N_UnknownFolk fI_UnknownFolk : Addr} {bs_UnknownFolk bm_UnknownFolk sb2_UnknownFolk : List Value} {sn_UnknownFolk : List Str} {ab_UnknownFolk : Bool} {col_UnknownFolk : Option Bool} {dd_UnknownFolk : Option Addr} {m0_UnknownFolk m1_UnknownFolk m2_UnknownFolk m3_UnknownFolk m5_UnknownFolk : Option Value}
    (xL_UnknownFolk : K.lookup A_UnknownFolk = some (excClassObj nm_UnknownFolk qn_UnknownFolk A_UnknownFolk N_UnknownFolk bs_UnknownFolk bm_UnknownFolk true sn_UnknownFolk sb2_UnknownFolk ab_UnknownFolk col_UnknownFolk dd_UnknownFolk m0_UnknownFolk m1_UnknownFolk m2_UnknownFolk m3_UnknownFolk m5_UnknownFolk "ValueError.__new__"))
    (sa_UnknownFolk : PySem.W.findIn K (.ref A_UnknownFolk) "__setattr__" = some (some (.builtin "object.__setattr__")))
    (kc_UnknownFolk : PySem.W.keepIn K (.ref A_UnknownFolk) = true)
    (iC_UnknownFolk : PySem.W.findIn K (.ref A_UnknownFolk) "__init__" = some (some (.ref fI_UnknownFolk)))
    (tI_UnknownFolk : PySem.W.typeIn K (.ref fI_UnknownFolk) = some (.type "function"))
    (no_UnknownFolk_0 : PySem.W.findIn K (.ref A_UnknownFolk) "name" = some none)
    (rv_UnknownFolk : PySem.HandSPX.refsVE bm_UnknownFolk = true)
    {nm_SelfWatch qn_SelfWatch : Str} {N_SelfWatch fI_SelfWatch : Addr} {bs_SelfWatch bm_SelfWatch sb2_SelfWatch : List Value} {sn_SelfWatch : List Str} {ab_SelfWatch : Bool} {col_SelfWatch : Option Bool} {dd_SelfWatch : Option Addr} {m0_SelfWatch m1_SelfWatch m2_SelfWatch m3_SelfWatch m5_SelfWatch : Option Value}
    (xL_SelfWatch : K.lookup A_SelfWatch = some (excClassObj nm_SelfWatch qn_SelfWatch A_SelfWatch N_SelfWatch bs_SelfWatch bm_SelfWatch true sn_SelfWatch sb2_SelfWatch ab_SelfWatch col_SelfWatch dd_SelfWatch m0_SelfWatch m1_SelfWatch m2_SelfWatch m3_SelfWatch m5_SelfWatch "ValueError.__new__"))
    (sa_SelfWatch : PySem.W.findIn K (.ref A_SelfWatch) "__setattr__" = some (some (.builtin "object.__setattr__")))
    (kc_SelfWatch : PySem.W.keepIn K (.ref A_SelfWatch) = true)
    (iC_SelfWatch : PySem.W.findIn K (.ref A_SelfWatch) "__init__" = some (some (.ref fI_SelfWatch)))
    (tI_SelfWatch : PySem.W.typeIn K (.ref fI_SelfWatch) = some (.type "function"))
    (no_SelfWatch_0 : PySem.W.findIn K (.ref A_SelfWatch) "name" = some none)
    (rv_SelfWatch : PySem.HandSPX.refsVE bm_SelfWatch = true)
    {nm_BadText qn_BadText : Str} {N_BadText fI_BadText : Addr} {bs_BadText bm_BadText sb2_BadText : List Value} {sn_BadText : List Str} {ab_BadText : Bool} {col_BadText : Option Bool} {dd_BadText : Option Addr} {m0_BadText m1_BadText m2_BadText m3_BadText m5_BadText : Option Value}
    (xL_BadText : K.lookup A_BadText = some (excClassObj nm_BadText qn_BadText A_BadText N_BadText bs_BadText bm_BadText true sn_BadText sb2_BadText ab_BadText col_BadText dd_BadText m0_BadText m1_BadText m2_BadText m3_BadText m5_BadText "ValueError.__new__"))
    (sa_BadText : PySem.W.findIn K (.ref A_BadText) "__setattr__" = some (some (.builtin "object.__setattr__")))
    (kc_BadText : PySem.W.keepIn K (.ref A_BadText) = true)
    (iC_BadText : PySem.W.findIn K (.ref A_BadText) "__init__" = some (some (.ref fI_BadText)))
    (tI_BadText : PySem.W.typeIn K (.ref fI_BadText) = some (.type "function"))
    (no_BadText_0 : PySem.W.findIn K (.ref A_BadText) "line" = some none)
    (rv_BadText : PySem.HandSPX.refsVE bm_BadText = true)
    {nm_BorderWatch qn_BorderWatch : Str} {N_BorderWatch fI_BorderWatch : Addr} {bs_BorderWatch bm_BorderWatch sb2_BorderWatch : List Value} {sn_BorderWatch : List Str} {ab_BorderWatch : Bool} {col_BorderWatch : Option Bool} {dd_BorderWatch : Option Addr} {m0_BorderWatch m1_BorderWatch m2_BorderWatch m3_BorderWatch m5_BorderWatch : Option Value}
    (xL_BorderWatch : K.lookup A_BorderWatch = some (excClassObj nm_BorderWatch qn_BorderWatch A_BorderWatch N_BorderWatch bs_BorderWatch bm_BorderWatch true sn_BorderWatch sb2_BorderWatch ab_BorderWatch col_BorderWatch dd_BorderWatch m0_BorderWatch m1_BorderWatch m2_BorderWatch m3_BorderWatch m5_BorderWatch "ValueError.__new__"))
    (sa_BorderWatch : PySem.W.findIn K (.ref A_BorderWatch) "__setattr__" = some (some (.builtin "object.__setattr__")))
    (kc_BorderWatch : PySem.W.keepIn K (.ref A_BorderWatch) = true)
    (iC_BorderWatch : PySem.W.findIn K (.ref A_BorderWatch) "__init__" = some (some (.ref fI_BorderWatch)))
    (tI_BorderWatch : PySem.W.typeIn K (.ref fI_BorderWatch) = some (.type "function"))
    (no_BorderWatch_0 : PySem.W.findIn K (.ref A_BorderWatch) "watcher" = some none)
    (no_BorderWatch_1 : PySem.W.findIn K (.ref A_BorderWatch) "watched" = some none)
    (rv_BorderWatch : PySem.HandSPX.refsVE bm_BorderWatch = true)
    (sub_BadName_DrowseError : PySem.W.subIn K (.ref A_BadName) (.ref A_DrowseError) = some true)
    (sub_BadName_BadText : PySem.W.subIn K (.ref A_BadName) (.ref A_BadText) = some false)
    (sub_BadName_BadCount : PySem.W.subIn K (.ref A_BadName) (.ref A_BadCount) = some false)
    (sub_BadName_BadNumber : PySem.W.subIn K (.ref A_BadName) (.ref A_BadNumber) = some false)
    (sub_BadName_Repeated : PySem.W.subIn K (.ref A_BadName) (.ref A_Repeated) = some false)
    (sub_BadName_UnknownFolk : PySem.W.subIn K (.ref A_BadName) (.ref A_UnknownFolk) = some false)
    (sub_BadNumber_DrowseError : PySem.W.subIn K (.ref A_BadNumber) (.ref A_DrowseError) = some true)
    (sub_BadNumber_BadText : PySem.W.subIn K (.ref A_BadNumber) (.ref A_BadText) = some false)
    (sub_BadNumber_BadCount : PySem.W.subIn K (.ref A_BadNumber) (.ref A_BadCount) = some false)
    (sub_BadNumber_BadName : PySem.W.subIn K (.ref A_BadNumber) (.ref A_BadName) = some false)
    (sub_BadNumber_Repeated : PySem.W.subIn K (.ref A_BadNumber) (.ref A_Repeated) = some false)
    (sub_BadNumber_UnknownFolk : PySem.W.subIn K (.ref A_BadNumber) (.ref A_UnknownFolk) = some false)
    (sub_BadCount_DrowseError : PySem.W.subIn K (.ref A_BadCount) (.ref A_DrowseError) = some true)
    (sub_BadCount_BadText : PySem.W.subIn K (.ref A_BadCount) (.ref A_BadText) = some false)
    (sub_BadCount_BadName : PySem.W.subIn K (.ref A_BadCount) (.ref A_BadName) = some false)
    (sub_BadCount_BadNumber : PySem.W.subIn K (.ref A_BadCount) (.ref A_BadNumber) = some false)
    (sub_BadCount_Repeated : PySem.W.subIn K (.ref A_BadCount) (.ref A_Repeated) = some false)
    (sub_BadCount_UnknownFolk : PySem.W.subIn K (.ref A_BadCount) (.ref A_UnknownFolk) = some false)
    (sub_Repeated_DrowseError : PySem.W.subIn K (.ref A_Repeated) (.ref A_DrowseError) = some true)
    (sub_Repeated_BadText : PySem.W.subIn K (.ref A_Repeated) (.ref A_BadText) = some false)
    (sub_Repeated_BadCount : PySem.W.subIn K (.ref A_Repeated) (.ref A_BadCount) = some false)
    (sub_Repeated_BadName : PySem.W.subIn K (.ref A_Repeated) (.ref A_BadName) = some false)
    (sub_Repeated_BadNumber : PySem.W.subIn K (.ref A_Repeated) (.ref A_BadNumber) = some false)
    (sub_Repeated_UnknownFolk : PySem.W.subIn K (.ref A_Repeated) (.ref A_UnknownFolk) = some false)
    (sub_UnknownFolk_DrowseError : PySem.W.subIn K (.ref A_UnknownFolk) (.ref A_DrowseError) = some true)
    (sub_UnknownFolk_BadText : PySem.W.subIn K (.ref A_UnknownFolk) (.ref A_BadText) = some false)
    (sub_UnknownFolk_BadCount : PySem.W.subIn K (.ref A_UnknownFolk) (.ref A_BadCount) = some false)
    (sub_UnknownFolk_BadName : PySem.W.subIn K (.ref A_UnknownFolk) (.ref A_BadName) = some false)
    (sub_UnknownFolk_BadNumber : PySem.W.subIn K (.ref A_UnknownFolk) (.ref A_BadNumber) = some false)
    (sub_UnknownFolk_Repeated : PySem.W.subIn K (.ref A_UnknownFolk) (.ref A_Repeated) = some false)
    (sub_SelfWatch_DrowseError : PySem.W.subIn K (.ref A_SelfWatch) (.ref A_DrowseError) = some true)
    (sub_SelfWatch_BadText : PySem.W.subIn K (.ref A_SelfWatch) (.ref A_BadText) = some false)
    (sub_SelfWatch_BadCount : PySem.W.subIn K (.ref A_SelfWatch) (.ref A_BadCount) = some false)
    (sub_SelfWatch_BadName : PySem.W.subIn K (.ref A_SelfWatch) (.ref A_BadName) = some false)
    (sub_SelfWatch_BadNumber : PySem.W.subIn K (.ref A_SelfWatch) (.ref A_BadNumber) = some false)
    (sub_SelfWatch_Repeated : PySem.W.subIn K (.ref A_SelfWatch) (.ref A_Repeated) = some false)
    (sub_SelfWatch_UnknownFolk : PySem.W.subIn K (.ref A_SelfWatch) (.ref A_UnknownFolk) = some false)
    (sub_BadText_DrowseError : PySem.W.subIn K (.ref A_BadText) (.ref A_DrowseError) = some true)
    (sub_BadText_BadCount : PySem.W.subIn K (.ref A_BadText) (.ref A_BadCount) = some false)
    (sub_BadText_BadName : PySem.W.subIn K (.ref A_BadText) (.ref A_BadName) = some false)
    (sub_BadText_BadNumber : PySem.W.subIn K (.ref A_BadText) (.ref A_BadNumber) = some false)
    (sub_BadText_Repeated : PySem.W.subIn K (.ref A_BadText) (.ref A_Repeated) = some false)
    (sub_BadText_UnknownFolk : PySem.W.subIn K (.ref A_BadText) (.ref A_UnknownFolk) = some false)
    (sub_BorderWatch_DrowseError : PySem.W.subIn K (.ref A_BorderWatch) (.ref A_DrowseError) = some true)
    (sub_BorderWatch_BadText : PySem.W.subIn K (.ref A_BorderWatch) (.ref A_BadText) = some false)
    (sub_BorderWatch_BadCount : PySem.W.subIn K (.ref A_BorderWatch) (.ref A_BadCount) = some false)
    (sub_BorderWatch_BadName : PySem.W.subIn K (.ref A_BorderWatch) (.ref A_BadName) = some false)
    (sub_BorderWatch_BadNumber : PySem.W.subIn K (.ref A_BorderWatch) (.ref A_BadNumber) = some false)
    (sub_BorderWatch_Repeated : PySem.W.subIn K (.ref A_BorderWatch) (.ref A_Repeated) = some false)
    (sub_BorderWatch_UnknownFolk : PySem.W.subIn K (.ref A_BorderWatch) (.ref A_UnknownFolk) = some false)
    {f0 : Addr}
    {od0 an0 : Option Addr} {sl0 : Array (Option Value)} {oc0 kV0 dc0 pm0 cd0 ct0 : Value}
    (a0 : PySem.W.nsIn K mainGlobals "plain" = some (some (.ref f0)))
    (l0 : K.lookup f0 = some ⟨oc0, od0, .func (PySem.W.fnOf "plain" "plain" (defArgs s_plain) (defBody s_plain) (defScope s_plain) .none kV0 dc0 pm0 an0 cd0 ct0), sl0⟩)
    (c0 : PySem.W.codeIn K cd0 "plain" = true)
    (k0 : PySem.W.keepIn K (.ref f0) = true)
    {od1 an1 : Option Addr} {sl1 : Array (Option Value)} {oc1 kV1 dc1 pm1 cd1 ct1 : Value}
    (l1 : K.lookup fI_BadName = some ⟨oc1, od1, .func (PySem.W.fnOf "__init__" "BadName.__init__" (defArgs s_BadName__init) (defBody s_BadName__init) (defScope s_BadName__init) .none kV1 dc1 pm1 an1 cd1 ct1), sl1⟩)
    (c1 : PySem.W.codeIn K cd1 "BadName.__init__" = true)
    (k1 : PySem.W.keepIn K (.ref fI_BadName) = true)
    {od2 an2 : Option Addr} {sl2 : Array (Option Value)} {oc2 kV2 dc2 pm2 cd2 ct2 : Value}
    (l2 : K.lookup fI_BadNumber = some ⟨oc2, od2, .func (PySem.W.fnOf "__init__" "BadNumber.__init__" (defArgs s_BadNumber__init) (defBody s_BadNumber__init) (defScope s_BadNumber__init) .none kV2 dc2 pm2 an2 cd2 ct2), sl2⟩)
    (c2 : PySem.W.codeIn K cd2 "BadNumber.__init__" = true)
    (k2 : PySem.W.keepIn K (.ref fI_BadNumber) = true)
    {od3 an3 : Option Addr} {sl3 : Array (Option Value)} {oc3 kV3 dc3 pm3 cd3 ct3 : Value}
    (l3 : K.lookup fI_BadCount = some ⟨oc3, od3, .func (PySem.W.fnOf "__init__" "BadCount.__init__" (defArgs s_BadCount__init) (defBody s_BadCount__init) (defScope s_BadCount__init) .none kV3 dc3 pm3 an3 cd3 ct3), sl3⟩)
    (c3 : PySem.W.codeIn K cd3 "BadCount.__init__" = true)
    (k3 : PySem.W.keepIn K (.ref fI_BadCount) = true)
    {od4 an4 : Option Addr} {sl4 : Array (Option Value)} {oc4 kV4 dc4 pm4 cd4 ct4 : Value}
    (l4 : K.lookup fI_Repeated = some ⟨oc4, od4, .func (PySem.W.fnOf "__init__" "Repeated.__init__" (defArgs s_Repeated__init) (defBody s_Repeated__init) (defScope s_Repeated__init) .none kV4 dc4 pm4 an4 cd4 ct4), sl4⟩)
    (c4 : PySem.W.codeIn K cd4 "Repeated.__init__" = true)
    (k4 : PySem.W.keepIn K (.ref fI_Repeated) = true)
    {od5 an5 : Option Addr} {sl5 : Array (Option Value)} {oc5 kV5 dc5 pm5 cd5 ct5 : Value}
    (l5 : K.lookup fI_UnknownFolk = some ⟨oc5, od5, .func (PySem.W.fnOf "__init__" "UnknownFolk.__init__" (defArgs s_UnknownFolk__init) (defBody s_UnknownFolk__init) (defScope s_UnknownFolk__init) .none kV5 dc5 pm5 an5 cd5 ct5), sl5⟩)
    (c5 : PySem.W.codeIn K cd5 "UnknownFolk.__init__" = true)
    (k5 : PySem.W.keepIn K (.ref fI_UnknownFolk) = true)
    {od6 an6 : Option Addr} {sl6 : Array (Option Value)} {oc6 kV6 dc6 pm6 cd6 ct6 : Value}
    (l6 : K.lookup fI_SelfWatch = some ⟨oc6, od6, .func (PySem.W.fnOf "__init__" "SelfWatch.__init__" (defArgs s_SelfWatch__init) (defBody s_SelfWatch__init) (defScope s_SelfWatch__init) .none kV6 dc6 pm6 an6 cd6 ct6), sl6⟩)
    (c6 : PySem.W.codeIn K cd6 "SelfWatch.__init__" = true)
    (k6 : PySem.W.keepIn K (.ref fI_SelfWatch) = true)
    {od7 an7 : Option Addr} {sl7 : Array (Option Value)} {oc7 kV7 dc7 pm7 cd7 ct7 : Value}
    (l7 : K.lookup fI_BadText = some ⟨oc7, od7, .func (PySem.W.fnOf "__init__" "BadText.__init__" (defArgs s_BadText__init) (defBody s_BadText__init) (defScope s_BadText__init) .none kV7 dc7 pm7 an7 cd7 ct7), sl7⟩)
    (c7 : PySem.W.codeIn K cd7 "BadText.__init__" = true)
    (k7 : PySem.W.keepIn K (.ref fI_BadText) = true)
    {od8 an8 : Option Addr} {sl8 : Array (Option Value)} {oc8 kV8 dc8 pm8 cd8 ct8 : Value}
    (l8 : K.lookup fI_BorderWatch = some ⟨oc8, od8, .func (PySem.W.fnOf "__init__" "BorderWatch.__init__" (defArgs s_BorderWatch__init) (defBody s_BorderWatch__init) (defScope s_BorderWatch__init) .none kV8 dc8 pm8 an8 cd8 ct8), sl8⟩)
    (c8 : PySem.W.codeIn K cd8 "BorderWatch.__init__" = true)
    (k8 : PySem.W.keepIn K (.ref fI_BorderWatch) = true)
    {f9 : Addr}
    {od9 an9 : Option Addr} {sl9 : Array (Option Value)} {oc9 kV9 dc9 pm9 cd9 ct9 : Value}
    (a9 : PySem.W.nsIn K mainGlobals "is_name" = some (some (.ref f9)))
    (l9 : K.lookup f9 = some ⟨oc9, od9, .func (PySem.W.fnOf "is_name" "is_name" (defArgs s_is_name) (defBody s_is_name) (defScope s_is_name) .none kV9 dc9 pm9 an9 cd9 ct9), sl9⟩)
    (c9 : PySem.W.codeIn K cd9 "is_name" = true)
    (k9 : PySem.W.keepIn K (.ref f9) = true)
    {f10 : Addr}
    {od10 an10 : Option Addr} {sl10 : Array (Option Value)} {oc10 kV10 dc10 pm10 cd10 ct10 : Value}
    (a10 : PySem.W.nsIn K mainGlobals "is_number" = some (some (.ref f10)))
    (l10 : K.lookup f10 = some ⟨oc10, od10, .func (PySem.W.fnOf "is_number" "is_number" (defArgs s_is_number) (defBody s_is_number) (defScope s_is_number) .none kV10 dc10 pm10 an10 cd10 ct10), sl10⟩)
    (c10 : PySem.W.codeIn K cd10 "is_number" = true)
    (k10 : PySem.W.keepIn K (.ref f10) = true)
    {f11 : Addr}
    {od11 an11 : Option Addr} {sl11 : Array (Option Value)} {oc11 kV11 dc11 pm11 cd11 ct11 : Value}
    (a11 : PySem.W.nsIn K mainGlobals "check_number" = some (some (.ref f11)))
    (l11 : K.lookup f11 = some ⟨oc11, od11, .func (PySem.W.fnOf "check_number" "check_number" (defArgs s_check_number) (defBody s_check_number) (defScope s_check_number) .none kV11 dc11 pm11 an11 cd11 ct11), sl11⟩)
    (c11 : PySem.W.codeIn K cd11 "check_number" = true)
    (k11 : PySem.W.keepIn K (.ref f11) = true)
    {f12 : Addr}
    {od12 an12 : Option Addr} {sl12 : Array (Option Value)} {oc12 kV12 dc12 pm12 cd12 ct12 : Value}
    (a12 : PySem.W.nsIn K mainGlobals "check_count" = some (some (.ref f12)))
    (l12 : K.lookup f12 = some ⟨oc12, od12, .func (PySem.W.fnOf "check_count" "check_count" (defArgs s_check_count) (defBody s_check_count) (defScope s_check_count) .none kV12 dc12 pm12 an12 cd12 ct12), sl12⟩)
    (c12 : PySem.W.codeIn K cd12 "check_count" = true)
    (k12 : PySem.W.keepIn K (.ref f12) = true)
    {f13 : Addr}
    {od13 an13 : Option Addr} {sl13 : Array (Option Value)} {oc13 kV13 dc13 pm13 cd13 ct13 : Value}
    (a13 : PySem.W.nsIn K mainGlobals "check_new_name" = some (some (.ref f13)))
    (l13 : K.lookup f13 = some ⟨oc13, od13, .func (PySem.W.fnOf "check_new_name" "check_new_name" (defArgs s_check_new_name) (defBody s_check_new_name) (defScope s_check_new_name) .none kV13 dc13 pm13 an13 cd13 ct13), sl13⟩)
    (c13 : PySem.W.codeIn K cd13 "check_new_name" = true)
    (k13 : PySem.W.keepIn K (.ref f13) = true)
    {f14 : Addr}
    {od14 an14 : Option Addr} {sl14 : Array (Option Value)} {oc14 kV14 dc14 pm14 cd14 ct14 : Value}
    (a14 : PySem.W.nsIn K mainGlobals "place_in" = some (some (.ref f14)))
    (l14 : K.lookup f14 = some ⟨oc14, od14, .func (PySem.W.fnOf "place_in" "place_in" (defArgs s_place_in) (defBody s_place_in) (defScope s_place_in) .none kV14 dc14 pm14 an14 cd14 ct14), sl14⟩)
    (c14 : PySem.W.codeIn K cd14 "place_in" = true)
    (k14 : PySem.W.keepIn K (.ref f14) = true)
    {f15 : Addr}
    {od15 an15 : Option Addr} {sl15 : Array (Option Value)} {oc15 kV15 dc15 pm15 cd15 ct15 : Value}
    (a15 : PySem.W.nsIn K mainGlobals "examined_folk" = some (some (.ref f15)))
    (l15 : K.lookup f15 = some ⟨oc15, od15, .func (PySem.W.fnOf "examined_folk" "examined_folk" (defArgs s_examined_folk) (defBody s_examined_folk) (defScope s_examined_folk) .none kV15 dc15 pm15 an15 cd15 ct15), sl15⟩)
    (c15 : PySem.W.codeIn K cd15 "examined_folk" = true)
    (k15 : PySem.W.keepIn K (.ref f15) = true)
    {f16 : Addr}
    {od16 an16 : Option Addr} {sl16 : Array (Option Value)} {oc16 kV16 dc16 pm16 cd16 ct16 : Value}
    (a16 : PySem.W.nsIn K mainGlobals "examined_watches" = some (some (.ref f16)))
    (l16 : K.lookup f16 = some ⟨oc16, od16, .func (PySem.W.fnOf "examined_watches" "examined_watches" (defArgs s_examined_watches) (defBody s_examined_watches) (defScope s_examined_watches) .none kV16 dc16 pm16 an16 cd16 ct16), sl16⟩)
    (c16 : PySem.W.codeIn K cd16 "examined_watches" = true)
    (k16 : PySem.W.keepIn K (.ref f16) = true)
    {f17 : Addr}
    {od17 an17 : Option Addr} {sl17 : Array (Option Value)} {oc17 kV17 dc17 pm17 cd17 ct17 : Value}
    (a17 : PySem.W.nsIn K mainGlobals "all_pulls" = some (some (.ref f17)))
    (l17 : K.lookup f17 = some ⟨oc17, od17, .func (PySem.W.fnOf "all_pulls" "all_pulls" (defArgs s_all_pulls) (defBody s_all_pulls) (defScope s_all_pulls) .none kV17 dc17 pm17 an17 cd17 ct17), sl17⟩)
    (c17 : PySem.W.codeIn K cd17 "all_pulls" = true)
    (k17 : PySem.W.keepIn K (.ref f17) = true)
    {f18 : Addr}
    {od18 an18 : Option Addr} {sl18 : Array (Option Value)} {oc18 kV18 dc18 pm18 cd18 ct18 : Value}
    {T18 td18 : Addr} {oT18 : Value} {dT18 d218 : Option Addr} {nT18 n218 : Nat} {slT18 sl218 : Array (Option Value)}
    (a18 : PySem.W.findIn K (.ref A_Web) "__init__" = some (some (.ref f18)))
    (n18 : PySem.W.isFn K (.ref f18) = true)
    (l18 : K.lookup f18 = some ⟨oc18, od18, .func (PySem.W.fnOf "__init__" "Web.__init__" (defArgs s_Web__init) (defBody s_Web__init) (defScope s_Web__init) (.ref T18) kV18 dc18 pm18 an18 cd18 ct18), sl18⟩)
    (c18 : PySem.W.codeIn K cd18 "Web.__init__" = true)
    (k18 : PySem.W.keepIn K (.ref f18) = true)
    (lT18 : K.lookup T18 = some ⟨oT18, dT18, .seq [Value.ref td18].toArray nT18, slT18⟩)
    (ld18 : K.lookup td18 = some ⟨.type "tuple", d218, .seq #[] n218, sl218⟩)
    {f19 : Addr}
    {od19 an19 : Option Addr} {sl19 : Array (Option Value)} {oc19 kV19 dc19 pm19 cd19 ct19 : Value}
    {pp19 : Addr} {rest19 : List Value}
    (a19 : PySem.W.findIn K (.ref A_Web) "folk" = some (some (.ref pp19)))
    (g19 : PySem.W.specialIn K (.ref pp19) "__get__" = some (some (.builtin "property.__get__")))
    (t19 : PySem.W.takesIn K (.ref pp19) = some true)
    (r19 : PySem.W.recIn K pp19 "property" = some (.ref f19 :: rest19))
    (l19 : K.lookup f19 = some ⟨oc19, od19, .func (PySem.W.fnOf "folk" "Web.folk" (defArgs s_Web_folk) (defBody s_Web_folk) (defScope s_Web_folk) .none kV19 dc19 pm19 an19 cd19 ct19), sl19⟩)
    (c19 : PySem.W.codeIn K cd19 "Web.folk" = true)
    (k19 : PySem.W.keepIn K (.ref f19) = true)
    {f20 : Addr}
    {od20 an20 : Option Addr} {sl20 : Array (Option Value)} {oc20 kV20 dc20 pm20 cd20 ct20 : Value}
    {pp20 : Addr} {rest20 : List Value}
    (a20 : PySem.W.findIn K (.ref A_Web) "watches" = some (some (.ref pp20)))
    (g20 : PySem.W.specialIn K (.ref pp20) "__get__" = some (some (.builtin "property.__get__")))
    (t20 : PySem.W.takesIn K (.ref pp20) = some true)
    (r20 : PySem.W.recIn K pp20 "property" = some (.ref f20 :: rest20))
    (l20 : K.lookup f20 = some ⟨oc20, od20, .func (PySem.W.fnOf "watches" "Web.watches" (defArgs s_Web_watches) (defBody s_Web_watches) (defScope s_Web_watches) .none kV20 dc20 pm20 an20 cd20 ct20), sl20⟩)
    (c20 : PySem.W.codeIn K cd20 "Web.watches" = true)
    (k20 : PySem.W.keepIn K (.ref f20) = true)
    {f21 : Addr}
    {od21 an21 : Option Addr} {sl21 : Array (Option Value)} {oc21 kV21 dc21 pm21 cd21 ct21 : Value}
    (a21 : PySem.W.nsIn K mainGlobals "is_written_number" = some (some (.ref f21)))
    (l21 : K.lookup f21 = some ⟨oc21, od21, .func (PySem.W.fnOf "is_written_number" "is_written_number" (defArgs s_is_written_number) (defBody s_is_written_number) (defScope s_is_written_number) .none kV21 dc21 pm21 an21 cd21 ct21), sl21⟩)
    (c21 : PySem.W.codeIn K cd21 "is_written_number" = true)
    (k21 : PySem.W.keepIn K (.ref f21) = true)
    {f22 : Addr}
    {od22 an22 : Option Addr} {sl22 : Array (Option Value)} {oc22 kV22 dc22 pm22 cd22 ct22 : Value}
    (a22 : PySem.W.nsIn K mainGlobals "web_text" = some (some (.ref f22)))
    (l22 : K.lookup f22 = some ⟨oc22, od22, .func (PySem.W.fnOf "web_text" "web_text" (defArgs s_web_text) (defBody s_web_text) (defScope s_web_text) .none kV22 dc22 pm22 an22 cd22 ct22), sl22⟩)
    (c22 : PySem.W.codeIn K cd22 "web_text" = true)
    (k22 : PySem.W.keepIn K (.ref f22) = true)
    {f23 : Addr}
    {od23 an23 : Option Addr} {sl23 : Array (Option Value)} {oc23 kV23 dc23 pm23 cd23 ct23 : Value}
    (a23 : PySem.W.nsIn K mainGlobals "_is_folk_line" = some (some (.ref f23)))
    (l23 : K.lookup f23 = some ⟨oc23, od23, .func (PySem.W.fnOf "_is_folk_line" "_is_folk_line" (defArgs s_is_folk_line) (defBody s_is_folk_line) (defScope s_is_folk_line) .none kV23 dc23 pm23 an23 cd23 ct23), sl23⟩)
    (c23 : PySem.W.codeIn K cd23 "_is_folk_line" = true)
    (k23 : PySem.W.keepIn K (.ref f23) = true)
    {f24 : Addr}
    {od24 an24 : Option Addr} {sl24 : Array (Option Value)} {oc24 kV24 dc24 pm24 cd24 ct24 : Value}
    (a24 : PySem.W.nsIn K mainGlobals "_is_watch_line" = some (some (.ref f24)))
    (l24 : K.lookup f24 = some ⟨oc24, od24, .func (PySem.W.fnOf "_is_watch_line" "_is_watch_line" (defArgs s_is_watch_line) (defBody s_is_watch_line) (defScope s_is_watch_line) .none kV24 dc24 pm24 an24 cd24 ct24), sl24⟩)
    (c24 : PySem.W.codeIn K cd24 "_is_watch_line" = true)
    (k24 : PySem.W.keepIn K (.ref f24) = true)
    {f25 : Addr}
    {od25 an25 : Option Addr} {sl25 : Array (Option Value)} {oc25 kV25 dc25 pm25 cd25 ct25 : Value}
    (a25 : PySem.W.nsIn K mainGlobals "read_web" = some (some (.ref f25)))
    (l25 : K.lookup f25 = some ⟨oc25, od25, .func (PySem.W.fnOf "read_web" "read_web" (defArgs s_read_web) (defBody s_read_web) (defScope s_read_web) .none kV25 dc25 pm25 an25 cd25 ct25), sl25⟩)
    (c25 : PySem.W.codeIn K cd25 "read_web" = true)
    (k25 : PySem.W.keepIn K (.ref f25) = true)
    {f26 : Addr}
    {od26 an26 : Option Addr} {sl26 : Array (Option Value)} {oc26 kV26 dc26 pm26 cd26 ct26 : Value}
    (a26 : PySem.W.nsIn K mainGlobals "_law_store" = some (some (.ref f26)))
    (l26 : K.lookup f26 = some ⟨oc26, od26, .func (PySem.W.fnOf "_law_store" "_law_store" (defArgs s_law_store) (defBody s_law_store) (defScope s_law_store) .none kV26 dc26 pm26 an26 cd26 ct26), sl26⟩)
    (c26 : PySem.W.codeIn K cd26 "_law_store" = true)
    (k26 : PySem.W.keepIn K (.ref f26) = true)
    {f27 : Addr}
    {od27 an27 : Option Addr} {sl27 : Array (Option Value)} {oc27 kV27 dc27 pm27 cd27 ct27 : Value}
    (a27 : PySem.W.nsIn K mainGlobals "_law_next" = some (some (.ref f27)))
    (l27 : K.lookup f27 = some ⟨oc27, od27, .func (PySem.W.fnOf "_law_next" "_law_next" (defArgs s_law_next) (defBody s_law_next) (defScope s_law_next) .none kV27 dc27 pm27 an27 cd27 ct27), sl27⟩)
    (c27 : PySem.W.codeIn K cd27 "_law_next" = true)
    (k27 : PySem.W.keepIn K (.ref f27) = true)
    {f28 : Addr}
    {od28 an28 : Option Addr} {sl28 : Array (Option Value)} {oc28 kV28 dc28 pm28 cd28 ct28 : Value}
    (a28 : PySem.W.nsIn K mainGlobals "_law_raw" = some (some (.ref f28)))
    (l28 : K.lookup f28 = some ⟨oc28, od28, .func (PySem.W.fnOf "_law_raw" "_law_raw" (defArgs s_law_raw) (defBody s_law_raw) (defScope s_law_raw) .none kV28 dc28 pm28 an28 cd28 ct28), sl28⟩)
    (c28 : PySem.W.codeIn K cd28 "_law_raw" = true)
    (k28 : PySem.W.keepIn K (.ref f28) = true)
    {f29 : Addr}
    {od29 an29 : Option Addr} {sl29 : Array (Option Value)} {oc29 kV29 dc29 pm29 cd29 ct29 : Value}
    (a29 : PySem.W.nsIn K mainGlobals "_law_take" = some (some (.ref f29)))
    (l29 : K.lookup f29 = some ⟨oc29, od29, .func (PySem.W.fnOf "_law_take" "_law_take" (defArgs s_law_take) (defBody s_law_take) (defScope s_law_take) .none kV29 dc29 pm29 an29 cd29 ct29), sl29⟩)
    (c29 : PySem.W.codeIn K cd29 "_law_take" = true)
    (k29 : PySem.W.keepIn K (.ref f29) = true)
    {f30 : Addr}
    {od30 an30 : Option Addr} {sl30 : Array (Option Value)} {oc30 kV30 dc30 pm30 cd30 ct30 : Value}
    (a30 : PySem.W.nsIn K mainGlobals "_law_some" = some (some (.ref f30)))
    (l30 : K.lookup f30 = some ⟨oc30, od30, .func (PySem.W.fnOf "_law_some" "_law_some" (defArgs s_law_some) (defBody s_law_some) (defScope s_law_some) .none kV30 dc30 pm30 an30 cd30 ct30), sl30⟩)
    (c30 : PySem.W.codeIn K cd30 "_law_some" = true)
    (k30 : PySem.W.keepIn K (.ref f30) = true)
    {f31 : Addr}
    {od31 an31 : Option Addr} {sl31 : Array (Option Value)} {oc31 kV31 dc31 pm31 cd31 ct31 : Value}
    (a31 : PySem.W.nsIn K mainGlobals "_law_pick" = some (some (.ref f31)))
    (l31 : K.lookup f31 = some ⟨oc31, od31, .func (PySem.W.fnOf "_law_pick" "_law_pick" (defArgs s_law_pick) (defBody s_law_pick) (defScope s_law_pick) .none kV31 dc31 pm31 an31 cd31 ct31), sl31⟩)
    (c31 : PySem.W.codeIn K cd31 "_law_pick" = true)
    (k31 : PySem.W.keepIn K (.ref f31) = true)
    {f32 : Addr}
    {od32 an32 : Option Addr} {sl32 : Array (Option Value)} {oc32 kV32 dc32 pm32 cd32 ct32 : Value}
    (a32 : PySem.W.nsIn K mainGlobals "_law_mixed" = some (some (.ref f32)))
    (l32 : K.lookup f32 = some ⟨oc32, od32, .func (PySem.W.fnOf "_law_mixed" "_law_mixed" (defArgs s_law_mixed) (defBody s_law_mixed) (defScope s_law_mixed) .none kV32 dc32 pm32 an32 cd32 ct32), sl32⟩)
    (c32 : PySem.W.codeIn K cd32 "_law_mixed" = true)
    (k32 : PySem.W.keepIn K (.ref f32) = true)
    {f33 : Addr}
    {od33 an33 : Option Addr} {sl33 : Array (Option Value)} {oc33 kV33 dc33 pm33 cd33 ct33 : Value}
    (a33 : PySem.W.nsIn K mainGlobals "_law_same" = some (some (.ref f33)))
    (l33 : K.lookup f33 = some ⟨oc33, od33, .func (PySem.W.fnOf "_law_same" "_law_same" (defArgs s_law_same) (defBody s_law_same) (defScope s_law_same) .none kV33 dc33 pm33 an33 cd33 ct33), sl33⟩)
    (c33 : PySem.W.codeIn K cd33 "_law_same" = true)
    (k33 : PySem.W.keepIn K (.ref f33) = true)
    {f34 : Addr}
    {od34 an34 : Option Addr} {sl34 : Array (Option Value)} {oc34 kV34 dc34 pm34 cd34 ct34 : Value}
    (a34 : PySem.W.nsIn K mainGlobals "_law_unlike" = some (some (.ref f34)))
    (l34 : K.lookup f34 = some ⟨oc34, od34, .func (PySem.W.fnOf "_law_unlike" "_law_unlike" (defArgs s_law_unlike) (defBody s_law_unlike) (defScope s_law_unlike) .none kV34 dc34 pm34 an34 cd34 ct34), sl34⟩)
    (c34 : PySem.W.codeIn K cd34 "_law_unlike" = true)
    (k34 : PySem.W.keepIn K (.ref f34) = true)
    {f35 : Addr}
    {od35 an35 : Option Addr} {sl35 : Array (Option Value)} {oc35 kV35 dc35 pm35 cd35 ct35 : Value}
    (a35 : PySem.W.nsIn K mainGlobals "_law_name" = some (some (.ref f35)))
    (l35 : K.lookup f35 = some ⟨oc35, od35, .func (PySem.W.fnOf "_law_name" "_law_name" (defArgs s_law_name) (defBody s_law_name) (defScope s_law_name) .none kV35 dc35 pm35 an35 cd35 ct35), sl35⟩)
    (c35 : PySem.W.codeIn K cd35 "_law_name" = true)
    (k35 : PySem.W.keepIn K (.ref f35) = true)
    {f36 : Addr}
    {od36 an36 : Option Addr} {sl36 : Array (Option Value)} {oc36 kV36 dc36 pm36 cd36 ct36 : Value}
    (a36 : PySem.W.nsIn K mainGlobals "_law_names" = some (some (.ref f36)))
    (l36 : K.lookup f36 = some ⟨oc36, od36, .func (PySem.W.fnOf "_law_names" "_law_names" (defArgs s_law_names) (defBody s_law_names) (defScope s_law_names) .none kV36 dc36 pm36 an36 cd36 ct36), sl36⟩)
    (c36 : PySem.W.codeIn K cd36 "_law_names" = true)
    (k36 : PySem.W.keepIn K (.ref f36) = true)
    {f37 : Addr}
    {od37 an37 : Option Addr} {sl37 : Array (Option Value)} {oc37 kV37 dc37 pm37 cd37 ct37 : Value}
    (a37 : PySem.W.nsIn K mainGlobals "_law_bad_name" = some (some (.ref f37)))
    (l37 : K.lookup f37 = some ⟨oc37, od37, .func (PySem.W.fnOf "_law_bad_name" "_law_bad_name" (defArgs s_law_bad_name) (defBody s_law_bad_name) (defScope s_law_bad_name) .none kV37 dc37 pm37 an37 cd37 ct37), sl37⟩)
    (c37 : PySem.W.codeIn K cd37 "_law_bad_name" = true)
    (k37 : PySem.W.keepIn K (.ref f37) = true)
    {f38 : Addr}
    {od38 an38 : Option Addr} {sl38 : Array (Option Value)} {oc38 kV38 dc38 pm38 cd38 ct38 : Value}
    (a38 : PySem.W.nsIn K mainGlobals "_law_is_name" = some (some (.ref f38)))
    (l38 : K.lookup f38 = some ⟨oc38, od38, .func (PySem.W.fnOf "_law_is_name" "_law_is_name" (defArgs s_law_is_name) (defBody s_law_is_name) (defScope s_law_is_name) .none kV38 dc38 pm38 an38 cd38 ct38), sl38⟩)
    (c38 : PySem.W.codeIn K cd38 "_law_is_name" = true)
    (k38 : PySem.W.keepIn K (.ref f38) = true)
    {f39 : Addr}
    {od39 an39 : Option Addr} {sl39 : Array (Option Value)} {oc39 kV39 dc39 pm39 cd39 ct39 : Value}
    (a39 : PySem.W.nsIn K mainGlobals "_law_fresh" = some (some (.ref f39)))
    (l39 : K.lookup f39 = some ⟨oc39, od39, .func (PySem.W.fnOf "_law_fresh" "_law_fresh" (defArgs s_law_fresh) (defBody s_law_fresh) (defScope s_law_fresh) .none kV39 dc39 pm39 an39 cd39 ct39), sl39⟩)
    (c39 : PySem.W.codeIn K cd39 "_law_fresh" = true)
    (k39 : PySem.W.keepIn K (.ref f39) = true)
    {f40 : Addr}
    {od40 an40 : Option Addr} {sl40 : Array (Option Value)} {oc40 kV40 dc40 pm40 cd40 ct40 : Value}
    (a40 : PySem.W.nsIn K mainGlobals "_law_names_of" = some (some (.ref f40)))
    (l40 : K.lookup f40 = some ⟨oc40, od40, .func (PySem.W.fnOf "_law_names_of" "_law_names_of" (defArgs s_law_names_of) (defBody s_law_names_of) (defScope s_law_names_of) .none kV40 dc40 pm40 an40 cd40 ct40), sl40⟩)
    (c40 : PySem.W.codeIn K cd40 "_law_names_of" = true)
    (k40 : PySem.W.keepIn K (.ref f40) = true)
    {f41 : Addr}
    {od41 an41 : Option Addr} {sl41 : Array (Option Value)} {oc41 kV41 dc41 pm41 cd41 ct41 : Value}
    (a41 : PySem.W.nsIn K mainGlobals "_law_pairs" = some (some (.ref f41)))
    (l41 : K.lookup f41 = some ⟨oc41, od41, .func (PySem.W.fnOf "_law_pairs" "_law_pairs" (defArgs s_law_pairs) (defBody s_law_pairs) (defScope s_law_pairs) .none kV41 dc41 pm41 an41 cd41 ct41), sl41⟩)
    (c41 : PySem.W.codeIn K cd41 "_law_pairs" = true)
    (k41 : PySem.W.keepIn K (.ref f41) = true)
    {f42 : Addr}
    {cc42 : Addr}
    {od42 an42 : Option Addr} {sl42 : Array (Option Value)} {oc42 kV42 dc42 pm42 ct42 : Value}
    (a42 : PySem.W.nsIn K mainGlobals "_law_pair_order" = some (some (.ref f42)))
    (l42 : K.lookup f42 = some ⟨oc42, od42, .func (PySem.W.fnOf "_law_pair_order" "_law_pair_order" (defArgs s_law_pair_order) (defBody s_law_pair_order) (defScope s_law_pair_order) .none kV42 dc42 pm42 an42 (.ref cc42) ct42), sl42⟩)
    (c42 : PySem.W.codeIn K (.ref cc42) "_law_pair_order" = true)
    (tq42 : (ts.find? (PySem.W.codeHdIn K cc42)).isSome = true)
    (k42 : PySem.W.keepIn K (.ref f42) = true)
    {f43 : Addr}
    {od43 an43 : Option Addr} {sl43 : Array (Option Value)} {oc43 kV43 dc43 pm43 cd43 ct43 : Value}
    (a43 : PySem.W.nsIn K mainGlobals "_law_web_lines" = some (some (.ref f43)))
    (l43 : K.lookup f43 = some ⟨oc43, od43, .func (PySem.W.fnOf "_law_web_lines" "_law_web_lines" (defArgs s_law_web_lines) (defBody s_law_web_lines) (defScope s_law_web_lines) .none kV43 dc43 pm43 an43 cd43 ct43), sl43⟩)
    (c43 : PySem.W.codeIn K cd43 "_law_web_lines" = true)
    (k43 : PySem.W.keepIn K (.ref f43) = true)
    {f44 : Addr}
    {od44 an44 : Option Addr} {sl44 : Array (Option Value)} {oc44 kV44 dc44 pm44 cd44 ct44 : Value}
    (a44 : PySem.W.nsIn K mainGlobals "_law_bent_number" = some (some (.ref f44)))
    (l44 : K.lookup f44 = some ⟨oc44, od44, .func (PySem.W.fnOf "_law_bent_number" "_law_bent_number" (defArgs s_law_bent_number) (defBody s_law_bent_number) (defScope s_law_bent_number) .none kV44 dc44 pm44 an44 cd44 ct44), sl44⟩)
    (c44 : PySem.W.codeIn K cd44 "_law_bent_number" = true)
    (k44 : PySem.W.keepIn K (.ref f44) = true)
    {f45 : Addr}
    {od45 an45 : Option Addr} {sl45 : Array (Option Value)} {oc45 kV45 dc45 pm45 cd45 ct45 : Value}
    (a45 : PySem.W.nsIn K mainGlobals "_law_bent_spaces" = some (some (.ref f45)))
    (l45 : K.lookup f45 = some ⟨oc45, od45, .func (PySem.W.fnOf "_law_bent_spaces" "_law_bent_spaces" (defArgs s_law_bent_spaces) (defBody s_law_bent_spaces) (defScope s_law_bent_spaces) .none kV45 dc45 pm45 an45 cd45 ct45), sl45⟩)
    (c45 : PySem.W.codeIn K cd45 "_law_bent_spaces" = true)
    (k45 : PySem.W.keepIn K (.ref f45) = true)
    {f46 : Addr}
    {od46 an46 : Option Addr} {sl46 : Array (Option Value)} {oc46 kV46 dc46 pm46 cd46 ct46 : Value}
    (a46 : PySem.W.nsIn K mainGlobals "_law_bad_watch_line" = some (some (.ref f46)))
    (l46 : K.lookup f46 = some ⟨oc46, od46, .func (PySem.W.fnOf "_law_bad_watch_line" "_law_bad_watch_line" (defArgs s_law_bad_watch_line) (defBody s_law_bad_watch_line) (defScope s_law_bad_watch_line) .none kV46 dc46 pm46 an46 cd46 ct46), sl46⟩)
    (c46 : PySem.W.codeIn K cd46 "_law_bad_watch_line" = true)
    (k46 : PySem.W.keepIn K (.ref f46) = true)
    {f47 : Addr}
    {od47 an47 : Option Addr} {sl47 : Array (Option Value)} {oc47 kV47 dc47 pm47 cd47 ct47 : Value}
    (a47 : PySem.W.nsIn K mainGlobals "_law_late_folk" = some (some (.ref f47)))
    (l47 : K.lookup f47 = some ⟨oc47, od47, .func (PySem.W.fnOf "_law_late_folk" "_law_late_folk" (defArgs s_law_late_folk) (defBody s_law_late_folk) (defScope s_law_late_folk) .none kV47 dc47 pm47 an47 cd47 ct47), sl47⟩)
    (c47 : PySem.W.codeIn K cd47 "_law_late_folk" = true)
    (k47 : PySem.W.keepIn K (.ref f47) = true)
    {f48 : Addr}
    {od48 an48 : Option Addr} {sl48 : Array (Option Value)} {oc48 kV48 dc48 pm48 cd48 ct48 : Value}
    (a48 : PySem.W.nsIn K mainGlobals "_law_drawn" = some (some (.ref f48)))
    (l48 : K.lookup f48 = some ⟨oc48, od48, .func (PySem.W.fnOf "_law_drawn" "_law_drawn" (defArgs s_law_drawn) (defBody s_law_drawn) (defScope s_law_drawn) .none kV48 dc48 pm48 an48 cd48 ct48), sl48⟩)
    (c48 : PySem.W.codeIn K cd48 "_law_drawn" = true)
    (k48 : PySem.W.keepIn K (.ref f48) = true)
    {f49 : Addr}
    {od49 an49 : Option Addr} {sl49 : Array (Option Value)} {oc49 kV49 dc49 pm49 cd49 ct49 : Value}
    (a49 : PySem.W.nsIn K mainGlobals "_law_word" = some (some (.ref f49)))
    (l49 : K.lookup f49 = some ⟨oc49, od49, .func (PySem.W.fnOf "_law_word" "_law_word" (defArgs s_law_word) (defBody s_law_word) (defScope s_law_word) .none kV49 dc49 pm49 an49 cd49 ct49), sl49⟩)
    (c49 : PySem.W.codeIn K cd49 "_law_word" = true)
    (k49 : PySem.W.keepIn K (.ref f49) = true)
    {f50 : Addr}
    {od50 an50 : Option Addr} {sl50 : Array (Option Value)} {oc50 kV50 dc50 pm50 cd50 ct50 : Value}
    (a50 : PySem.W.nsIn K mainGlobals "_law_spoilt" = some (some (.ref f50)))
    (l50 : K.lookup f50 = some ⟨oc50, od50, .func (PySem.W.fnOf "_law_spoilt" "_law_spoilt" (defArgs s_law_spoilt) (defBody s_law_spoilt) (defScope s_law_spoilt) .none kV50 dc50 pm50 an50 cd50 ct50), sl50⟩)
    (c50 : PySem.W.codeIn K cd50 "_law_spoilt" = true)
    (k50 : PySem.W.keepIn K (.ref f50) = true)
    {f51 : Addr}
    {od51 an51 : Option Addr} {sl51 : Array (Option Value)} {oc51 kV51 dc51 pm51 cd51 ct51 : Value}
    (a51 : PySem.W.nsIn K mainGlobals "_law_number_fine" = some (some (.ref f51)))
    (l51 : K.lookup f51 = some ⟨oc51, od51, .func (PySem.W.fnOf "_law_number_fine" "_law_number_fine" (defArgs s_law_number_fine) (defBody s_law_number_fine) (defScope s_law_number_fine) .none kV51 dc51 pm51 an51 cd51 ct51), sl51⟩)
    (c51 : PySem.W.codeIn K cd51 "_law_number_fine" = true)
    (k51 : PySem.W.keepIn K (.ref f51) = true)
    {f52 : Addr}
    {od52 an52 : Option Addr} {sl52 : Array (Option Value)} {oc52 kV52 dc52 pm52 cd52 ct52 : Value}
    (a52 : PySem.W.nsIn K mainGlobals "_law_folk_line" = some (some (.ref f52)))
    (l52 : K.lookup f52 = some ⟨oc52, od52, .func (PySem.W.fnOf "_law_folk_line" "_law_folk_line" (defArgs s_law_folk_line) (defBody s_law_folk_line) (defScope s_law_folk_line) .none kV52 dc52 pm52 an52 cd52 ct52), sl52⟩)
    (c52 : PySem.W.codeIn K cd52 "_law_folk_line" = true)
    (k52 : PySem.W.keepIn K (.ref f52) = true)
    {f53 : Addr}
    {od53 an53 : Option Addr} {sl53 : Array (Option Value)} {oc53 kV53 dc53 pm53 cd53 ct53 : Value}
    (a53 : PySem.W.nsIn K mainGlobals "_law_watch_line" = some (some (.ref f53)))
    (l53 : K.lookup f53 = some ⟨oc53, od53, .func (PySem.W.fnOf "_law_watch_line" "_law_watch_line" (defArgs s_law_watch_line) (defBody s_law_watch_line) (defScope s_law_watch_line) .none kV53 dc53 pm53 an53 cd53 ct53), sl53⟩)
    (c53 : PySem.W.codeIn K cd53 "_law_watch_line" = true)
    (k53 : PySem.W.keepIn K (.ref f53) = true)
    {f54 : Addr}
    {od54 an54 : Option Addr} {sl54 : Array (Option Value)} {oc54 kV54 dc54 pm54 cd54 ct54 : Value}
    (a54 : PySem.W.nsIn K mainGlobals "_law_read" = some (some (.ref f54)))
    (l54 : K.lookup f54 = some ⟨oc54, od54, .func (PySem.W.fnOf "_law_read" "_law_read" (defArgs s_law_read) (defBody s_law_read) (defScope s_law_read) .none kV54 dc54 pm54 an54 cd54 ct54), sl54⟩)
    (c54 : PySem.W.codeIn K cd54 "_law_read" = true)
    (k54 : PySem.W.keepIn K (.ref f54) = true)
    {f55 : Addr}
    {od55 an55 : Option Addr} {sl55 : Array (Option Value)} {oc55 kV55 dc55 pm55 cd55 ct55 : Value}
    (a55 : PySem.W.nsIn K mainGlobals "_law_told" = some (some (.ref f55)))
    (l55 : K.lookup f55 = some ⟨oc55, od55, .func (PySem.W.fnOf "_law_told" "_law_told" (defArgs s_law_told) (defBody s_law_told) (defScope s_law_told) .none kV55 dc55 pm55 an55 cd55 ct55), sl55⟩)
    (c55 : PySem.W.codeIn K cd55 "_law_told" = true)
    (k55 : PySem.W.keepIn K (.ref f55) = true)
    {f56 : Addr}
    {od56 an56 : Option Addr} {sl56 : Array (Option Value)} {oc56 kV56 dc56 pm56 cd56 ct56 : Value}
    (a56 : PySem.W.nsIn K mainGlobals "law" = some (some (.ref f56)))
    (l56 : K.lookup f56 = some ⟨oc56, od56, .func (PySem.W.fnOf "law" "law" (defArgs s_law) (defBody s_law) (defScope s_law) .none kV56 dc56 pm56 an56 cd56 ct56), sl56⟩)
    (c56 : PySem.W.codeIn K cd56 "law" = true)
    (k56 : PySem.W.keepIn K (.ref f56) = true)
    (z_all : PySem.W.nsIn K mainGlobals "all" = some none)
    (z_bool : PySem.W.nsIn K mainGlobals "bool" = some none)
    (z_enumerate : PySem.W.nsIn K mainGlobals "enumerate" = some none)
    (z_int : PySem.W.nsIn K mainGlobals "int" = some none)
    (z_isinstance : PySem.W.nsIn K mainGlobals "isinstance" = some none)
    (z_iter : PySem.W.nsIn K mainGlobals "iter" = some none)
    (z_len : PySem.W.nsIn K mainGlobals "len" = some none)
    (z_list : PySem.W.nsIn K mainGlobals "list" = some none)
    (z_max : PySem.W.nsIn K mainGlobals "max" = some none)
    (z_range : PySem.W.nsIn K mainGlobals "range" = some none)
    (z_sorted : PySem.W.nsIn K mainGlobals "sorted" = some none)
    (z_str : PySem.W.nsIn K mainGlobals "str" = some none)
    (z_sum : PySem.W.nsIn K mainGlobals "sum" = some none)
    (z_tuple : PySem.W.nsIn K mainGlobals "tuple" = some none)
    {t_MOST_FOLK : Tok}
    (y_MOST_FOLK : PySem.W.nsIn K mainGlobals "MOST_FOLK" = some (some (Value.int 10 t_MOST_FOLK)))
    {t_MOST_NUMBER : Tok}
    (y_MOST_NUMBER : PySem.W.nsIn K mainGlobals "MOST_NUMBER" = some (some (Value.int 9999 t_MOST_NUMBER)))
    {t_MOST_WATCHES : Tok}
    (y_MOST_WATCHES : PySem.W.nsIn K mainGlobals "MOST_WATCHES" = some (some (Value.int 24 t_MOST_WATCHES)))
    {t_LETTERS : Tok}
    (y_LETTERS : PySem.W.nsIn K mainGlobals "_LETTERS" = some (some (Value.str "abcdefghijklmnopqrstuvwxyz" t_LETTERS)))
    {t_LETTERS_AND_DIGITS : Tok}
    (y_LETTERS_AND_DIGITS : PySem.W.nsIn K mainGlobals "_LETTERS_AND_DIGITS" = some (some (Value.str "abcdefghijklmnopqrstuvwxyz0123456789" t_LETTERS_AND_DIGITS)))
    {t_LONGEST_NAME : Tok}
    (y_LONGEST_NAME : PySem.W.nsIn K mainGlobals "_LONGEST_NAME" = some (some (Value.int 8 t_LONGEST_NAME)))
    {t_MOST_DIGITS : Tok}
    (y_MOST_DIGITS : PySem.W.nsIn K mainGlobals "_MOST_DIGITS" = some (some (Value.int 4 t_MOST_DIGITS)))
    (tk : (ts.all fun P => (K.lookup P).isNone) = true)
    : LamX.LawAtS l w K CX0 11 63 "script" mg fa h := by
  have e := hfa.symm.trans (PySem.W.mg_of X G a56)
  cases e
  have T : Txt K mg := ⟨PySem.W.mg_none_of X G z_all, PySem.W.mg_none_of X G z_bool, PySem.W.mg_none_of X G z_enumerate, PySem.W.mg_none_of X G z_int, PySem.W.mg_none_of X G z_isinstance, PySem.W.mg_none_of X G z_iter, PySem.W.mg_none_of X G z_len, PySem.W.mg_none_of X G z_list, PySem.W.mg_none_of X G z_max, PySem.W.mg_none_of X G z_range, PySem.W.mg_none_of X G z_sorted, PySem.W.mg_none_of X G z_str, PySem.W.mg_none_of X G z_sum, PySem.W.mg_none_of X G z_tuple, ⟨_, PySem.W.mg_of X G y_MOST_FOLK, ⟨_, rfl⟩⟩, ⟨_, PySem.W.mg_of X G y_MOST_NUMBER, ⟨_, rfl⟩⟩, ⟨_, PySem.W.mg_of X G y_MOST_WATCHES, ⟨_, rfl⟩⟩, ⟨_, PySem.W.mg_of X G y_LETTERS, ⟨_, rfl⟩⟩, ⟨_, PySem.W.mg_of X G y_LETTERS_AND_DIGITS, ⟨_, rfl⟩⟩, ⟨_, PySem.W.mg_of X G y_LONGEST_NAME, ⟨_, rfl⟩⟩, ⟨_, PySem.W.mg_of X G y_MOST_DIGITS, ⟨_, rfl⟩⟩⟩
  have e_Web := gad_of a_Web
  have X_Web : Ci K mg "Web" ["_folk", "_names", "_watches", "_pulls"] := ⟨by rw [e_Web]; exact PySem.W.mg_of X G a_Web, by rw [e_Web]; exact ⟨pg_Web, hd_Web, po_Web, sa_Web⟩, fun f hf => by rw [e_Web]; (simp only [List.mem_cons, List.not_mem_nil, or_false] at hf); rcases hf with rfl | rfl | rfl | rfl; exact no_Web_0; exact no_Web_1; exact no_Web_2; exact no_Web_3⟩
  have e_DrowseError := gad_of a_DrowseError
  have Y_DrowseError : Ee K mg "DrowseError" := ⟨by rw [e_DrowseError]; exact PySem.W.mg_of X G a_DrowseError, by rw [e_DrowseError]; exact ⟨ga_DrowseError, gg_DrowseError, sb_DrowseError, hd_DrowseError, cl_DrowseError, ex_gc, ex_tc, mr_DrowseError⟩, by rw [e_DrowseError]; exact ⟨ga_DrowseError, gg_DrowseError, sb_DrowseError, hd_DrowseError⟩⟩
  have e_BadName := gad_of a_BadName
  have Y_BadName : Ee K mg "BadName" := ⟨by rw [e_BadName]; exact PySem.W.mg_of X G a_BadName, by rw [e_BadName]; exact ⟨ga_BadName, gg_BadName, sb_BadName, hd_BadName, cl_BadName, ex_gc, ex_tc, mr_BadName⟩, by rw [e_BadName]; exact ⟨ga_BadName, gg_BadName, sb_BadName, hd_BadName⟩⟩
  have e_BadNumber := gad_of a_BadNumber
  have Y_BadNumber : Ee K mg "BadNumber" := ⟨by rw [e_BadNumber]; exact PySem.W.mg_of X G a_BadNumber, by rw [e_BadNumber]; exact ⟨ga_BadNumber, gg_BadNumber, sb_BadNumber, hd_BadNumber, cl_BadNumber, ex_gc, ex_tc, mr_BadNumber⟩, by rw [e_BadNumber]; exact ⟨ga_BadNumber, gg_BadNumber, sb_BadNumber, hd_BadNumber⟩⟩
  have e_BadCount := gad_of a_BadCount
  have Y_BadCount : Ee K mg "BadCount" := ⟨by rw [e_BadCount]; exact PySem.W.mg_of X G a_BadCount, by rw [e_BadCount]; exact ⟨ga_BadCount, gg_BadCount, sb_BadCount, hd_BadCount, cl_BadCount, ex_gc, ex_tc, mr_BadCount⟩, by rw [e_BadCount]; exact ⟨ga_BadCount, gg_BadCount, sb_BadCount, hd_BadCount⟩⟩
  have e_Repeated := gad_of a_Repeated
  have Y_Repeated : Ee K mg "Repeated" := ⟨by rw [e_Repeated]; exact PySem.W.mg_of X G a_Repeated, by rw [e_Repeated]; exact ⟨ga_Repeated, gg_Repeated, sb_Repeated, hd_Repeated, cl_Repeated, ex_gc, ex_tc, mr_Repeated⟩, by rw [e_Repeated]; exact ⟨ga_Repeated, gg_Repeated, sb_Repeated, hd_Repeated⟩⟩
  have e_UnknownFolk := gad_of a_UnknownFolk
  have Y_UnknownFolk : Ee K mg "UnknownFolk" := ⟨by rw [e_UnknownFolk]; exact PySem.W.mg_of X G a_UnknownFolk, by rw [e_UnknownFolk]; exact ⟨ga_UnknownFolk, gg_UnknownFolk, sb_UnknownFolk, hd_UnknownFolk, cl_UnknownFolk, ex_gc, ex_tc, mr_UnknownFolk⟩, by rw [e_UnknownFolk]; exact ⟨ga_UnknownFolk, gg_UnknownFolk, sb_UnknownFolk, hd_UnknownFolk⟩⟩
  have e_SelfWatch := gad_of a_SelfWatch
  have Y_SelfWatch : Ee K mg "SelfWatch" := ⟨by rw [e_SelfWatch]; exact PySem.W.mg_of X G a_SelfWatch, by rw [e_SelfWatch]; exact ⟨ga_SelfWatch, gg_SelfWatch, sb_SelfWatch, hd_SelfWatch, cl_SelfWatch, ex_gc, ex_tc, mr_SelfWatch⟩, by rw [e_SelfWatch]; exact ⟨ga_SelfWatch, gg_SelfWatch, sb_SelfWatch, hd_SelfWatch⟩⟩
  have e_BadText := gad_of a_BadText
  have Y_BadText : Ee K mg "BadText" := ⟨by rw [e_BadText]; exact PySem.W.mg_of X G a_BadText, by rw [e_BadText]; exact ⟨ga_BadText, gg_BadText, sb_BadText, hd_BadText, cl_BadText, ex_gc, ex_tc, mr_BadText⟩, by rw [e_BadText]; exact ⟨ga_BadText, gg_BadText, sb_BadText, hd_BadText⟩⟩
  have e_BorderWatch := gad_of a_BorderWatch
  have Y_BorderWatch : Ee K mg "BorderWatch" := ⟨by rw [e_BorderWatch]; exact PySem.W.mg_of X G a_BorderWatch, by rw [e_BorderWatch]; exact ⟨ga_BorderWatch, gg_BorderWatch, sb_BorderWatch, hd_BorderWatch, cl_BorderWatch, ex_gc, ex_tc, mr_BorderWatch⟩, by rw [e_BorderWatch]; exact ⟨ga_BorderWatch, gg_BorderWatch, sb_BorderWatch, hd_BorderWatch⟩⟩
  have O_BadName : OexC K A_BadName := ⟨⟨_, _, _, _, _, _, _, _, _, _, _, _, _, _, _, xL_BadName, rv_BadName⟩, sa_BadName, sb_BadName, ty_BadName, kc_BadName⟩
  have X_BadName : Dx K mg "BadName" (gad K "BadName") fI_BadName ["name"] := ⟨Y_BadName.g, by rw [e_BadName]; exact O_BadName, by rw [e_BadName]; exact iC_BadName, tI_BadName, fun f hf => by rw [e_BadName]; (simp only [List.mem_cons, List.not_mem_nil, or_false] at hf); rcases hf with rfl; exact no_BadName_0⟩
  have O_BadNumber : OexC K A_BadNumber := ⟨⟨_, _, _, _, _, _, _, _, _, _, _, _, _, _, _, xL_BadNumber, rv_BadNumber⟩, sa_BadNumber, sb_BadNumber, ty_BadNumber, kc_BadNumber⟩
  have X_BadNumber : Dx K mg "BadNumber" (gad K "BadNumber") fI_BadNumber ["value"] := ⟨Y_BadNumber.g, by rw [e_BadNumber]; exact O_BadNumber, by rw [e_BadNumber]; exact iC_BadNumber, tI_BadNumber, fun f hf => by rw [e_BadNumber]; (simp only [List.mem_cons, List.not_mem_nil, or_false] at hf); rcases hf with rfl; exact no_BadNumber_0⟩
  have O_BadCount : OexC K A_BadCount := ⟨⟨_, _, _, _, _, _, _, _, _, _, _, _, _, _, _, xL_BadCount, rv_BadCount⟩, sa_BadCount, sb_BadCount, ty_BadCount, kc_BadCount⟩
  have X_BadCount : Dx K mg "BadCount" (gad K "BadCount") fI_BadCount ["what", "number"] := ⟨Y_BadCount.g, by rw [e_BadCount]; exact O_BadCount, by rw [e_BadCount]; exact iC_BadCount, tI_BadCount, fun f hf => by rw [e_BadCount]; (simp only [List.mem_cons, List.not_mem_nil, or_false] at hf); rcases hf with rfl | rfl; exact no_BadCount_0; exact no_BadCount_1⟩
  have O_Repeated : OexC K A_Repeated := ⟨⟨_, _, _, _, _, _, _, _, _, _, _, _, _, _, _, xL_Repeated, rv_Repeated⟩, sa_Repeated, sb_Repeated, ty_Repeated, kc_Repeated⟩
  have X_Repeated : Dx K mg "Repeated" (gad K "Repeated") fI_Repeated ["value"] := ⟨Y_Repeated.g, by rw [e_Repeated]; exact O_Repeated, by rw [e_Repeated]; exact iC_Repeated, tI_Repeated, fun f hf => by rw [e_Repeated]; (simp only [List.mem_cons, List.not_mem_nil, or_false] at hf); rcases hf with rfl; exact no_Repeated_0⟩
  have O_UnknownFolk : OexC K A_UnknownFolk := ⟨⟨_, _, _, _, _, _, _, _, _, _, _, _, _, _, _, xL_UnknownFolk, rv_UnknownFolk⟩, sa_UnknownFolk, sb_UnknownFolk, ty_UnknownFolk, kc_UnknownFolk⟩
  have X_UnknownFolk : Dx K mg "UnknownFolk" (gad K "UnknownFolk") fI_UnknownFolk ["name"] := ⟨Y_UnknownFolk.g, by rw [e_UnknownFolk]; exact O_UnknownFolk, by rw [e_UnknownFolk]; exact iC_UnknownFolk, tI_UnknownFolk, fun f hf => by rw [e_UnknownFolk]; (simp only [List.mem_cons, List.not_mem_nil, or_false] at hf); rcases hf with rfl; exact no_UnknownFolk_0⟩
  have O_SelfWatch : OexC K A_SelfWatch := ⟨⟨_, _, _, _, _, _, _, _, _, _, _, _, _, _, _, xL_SelfWatch, rv_SelfWatch⟩, sa_SelfWatch, sb_SelfWatch, ty_SelfWatch, kc_SelfWatch⟩
  have X_SelfWatch : Dx K mg "SelfWatch" (gad K "SelfWatch") fI_SelfWatch ["name"] := ⟨Y_SelfWatch.g, by rw [e_SelfWatch]; exact O_SelfWatch, by rw [e_SelfWatch]; exact iC_SelfWatch, tI_SelfWatch, fun f hf => by rw [e_SelfWatch]; (simp only [List.mem_cons, List.not_mem_nil, or_false] at hf); rcases hf with rfl; exact no_SelfWatch_0⟩
  have O_BadText : OexC K A_BadText := ⟨⟨_, _, _, _, _, _, _, _, _, _, _, _, _, _, _, xL_BadText, rv_BadText⟩, sa_BadText, sb_BadText, ty_BadText, kc_BadText⟩
  have X_BadText : Dx K mg "BadText" (gad K "BadText") fI_BadText ["line"] := ⟨Y_BadText.g, by rw [e_BadText]; exact O_BadText, by rw [e_BadText]; exact iC_BadText, tI_BadText, fun f hf => by rw [e_BadText]; (simp only [List.mem_cons, List.not_mem_nil, or_false] at hf); rcases hf with rfl; exact no_BadText_0⟩
  have O_BorderWatch : OexC K A_BorderWatch := ⟨⟨_, _, _, _, _, _, _, _, _, _, _, _, _, _, _, xL_BorderWatch, rv_BorderWatch⟩, sa_BorderWatch, sb_BorderWatch, ty_BorderWatch, kc_BorderWatch⟩
  have X_BorderWatch : Dx K mg "BorderWatch" (gad K "BorderWatch") fI_BorderWatch ["watcher", "watched"] := ⟨Y_BorderWatch.g, by rw [e_BorderWatch]; exact O_BorderWatch, by rw [e_BorderWatch]; exact iC_BorderWatch, tI_BorderWatch, fun f hf => by rw [e_BorderWatch]; (simp only [List.mem_cons, List.not_mem_nil, or_false] at hf); rcases hf with rfl | rfl; exact no_BorderWatch_0; exact no_BorderWatch_1⟩
  have Kt : Ek K := ⟨trivial, by rw [e_BadName, e_DrowseError]; exact PySem.W.exm_ref sb_DrowseError hd_DrowseError ty_DrowseError sub_BadName_DrowseError,
    by rw [e_BadName, e_BadText]; exact kit_ref sub_BadName_BadText ic_BadText ty_BadText ss_BadText,
    by rw [e_BadName, e_BadCount]; exact kit_ref sub_BadName_BadCount ic_BadCount ty_BadCount ss_BadCount,
    by rw [e_BadName]; exact kit_ref ss_BadName ic_BadName ty_BadName ss_BadName,
    by rw [e_BadName, e_BadNumber]; exact kit_ref sub_BadName_BadNumber ic_BadNumber ty_BadNumber ss_BadNumber,
    by rw [e_BadName, e_Repeated]; exact kit_ref sub_BadName_Repeated ic_Repeated ty_Repeated ss_Repeated,
    by rw [e_BadName, e_UnknownFolk]; exact kit_ref sub_BadName_UnknownFolk ic_UnknownFolk ty_UnknownFolk ss_UnknownFolk,
    by rw [e_BadNumber, e_DrowseError]; exact PySem.W.exm_ref sb_DrowseError hd_DrowseError ty_DrowseError sub_BadNumber_DrowseError,
    by rw [e_BadNumber, e_BadText]; exact kit_ref sub_BadNumber_BadText ic_BadText ty_BadText ss_BadText,
    by rw [e_BadNumber, e_BadCount]; exact kit_ref sub_BadNumber_BadCount ic_BadCount ty_BadCount ss_BadCount,
    by rw [e_BadNumber, e_BadName]; exact kit_ref sub_BadNumber_BadName ic_BadName ty_BadName ss_BadName,
    by rw [e_BadNumber]; exact kit_ref ss_BadNumber ic_BadNumber ty_BadNumber ss_BadNumber,
    by rw [e_BadNumber, e_Repeated]; exact kit_ref sub_BadNumber_Repeated ic_Repeated ty_Repeated ss_Repeated,
    by rw [e_BadNumber, e_UnknownFolk]; exact kit_ref sub_BadNumber_UnknownFolk ic_UnknownFolk ty_UnknownFolk ss_UnknownFolk,
    by rw [e_BadCount, e_DrowseError]; exact PySem.W.exm_ref sb_DrowseError hd_DrowseError ty_DrowseError sub_BadCount_DrowseError,
    by rw [e_BadCount, e_BadText]; exact kit_ref sub_BadCount_BadText ic_BadText ty_BadText ss_BadText,
    by rw [e_BadCount]; exact kit_ref ss_BadCount ic_BadCount ty_BadCount ss_BadCount,
    by rw [e_BadCount, e_BadName]; exact kit_ref sub_BadCount_BadName ic_BadName ty_BadName ss_BadName,
    by rw [e_BadCount, e_BadNumber]; exact kit_ref sub_BadCount_BadNumber ic_BadNumber ty_BadNumber ss_BadNumber,
    by rw [e_BadCount, e_Repeated]; exact kit_ref sub_BadCount_Repeated ic_Repeated ty_Repeated ss_Repeated,
    by rw [e_BadCount, e_UnknownFolk]; exact kit_ref sub_BadCount_UnknownFolk ic_UnknownFolk ty_UnknownFolk ss_UnknownFolk,
    by rw [e_Repeated, e_DrowseError]; exact PySem.W.exm_ref sb_DrowseError hd_DrowseError ty_DrowseError sub_Repeated_DrowseError,
    by rw [e_Repeated, e_BadText]; exact kit_ref sub_Repeated_BadText ic_BadText ty_BadText ss_BadText,
    by rw [e_Repeated, e_BadCount]; exact kit_ref sub_Repeated_BadCount ic_BadCount ty_BadCount ss_BadCount,
    by rw [e_Repeated, e_BadName]; exact kit_ref sub_Repeated_BadName ic_BadName ty_BadName ss_BadName,
    by rw [e_Repeated, e_BadNumber]; exact kit_ref sub_Repeated_BadNumber ic_BadNumber ty_BadNumber ss_BadNumber,
    by rw [e_Repeated]; exact kit_ref ss_Repeated ic_Repeated ty_Repeated ss_Repeated,
    by rw [e_Repeated, e_UnknownFolk]; exact kit_ref sub_Repeated_UnknownFolk ic_UnknownFolk ty_UnknownFolk ss_UnknownFolk,
    by rw [e_UnknownFolk, e_DrowseError]; exact PySem.W.exm_ref sb_DrowseError hd_DrowseError ty_DrowseError sub_UnknownFolk_DrowseError,
    by rw [e_UnknownFolk, e_BadText]; exact kit_ref sub_UnknownFolk_BadText ic_BadText ty_BadText ss_BadText,
    by rw [e_UnknownFolk, e_BadCount]; exact kit_ref sub_UnknownFolk_BadCount ic_BadCount ty_BadCount ss_BadCount,
    by rw [e_UnknownFolk, e_BadName]; exact kit_ref sub_UnknownFolk_BadName ic_BadName ty_BadName ss_BadName,
    by rw [e_UnknownFolk, e_BadNumber]; exact kit_ref sub_UnknownFolk_BadNumber ic_BadNumber ty_BadNumber ss_BadNumber,
    by rw [e_UnknownFolk, e_Repeated]; exact kit_ref sub_UnknownFolk_Repeated ic_Repeated ty_Repeated ss_Repeated,
    by rw [e_UnknownFolk]; exact kit_ref ss_UnknownFolk ic_UnknownFolk ty_UnknownFolk ss_UnknownFolk,
    by rw [e_SelfWatch, e_DrowseError]; exact PySem.W.exm_ref sb_DrowseError hd_DrowseError ty_DrowseError sub_SelfWatch_DrowseError,
    by rw [e_SelfWatch, e_BadText]; exact kit_ref sub_SelfWatch_BadText ic_BadText ty_BadText ss_BadText,
    by rw [e_SelfWatch, e_BadCount]; exact kit_ref sub_SelfWatch_BadCount ic_BadCount ty_BadCount ss_BadCount,
    by rw [e_SelfWatch, e_BadName]; exact kit_ref sub_SelfWatch_BadName ic_BadName ty_BadName ss_BadName,
    by rw [e_SelfWatch, e_BadNumber]; exact kit_ref sub_SelfWatch_BadNumber ic_BadNumber ty_BadNumber ss_BadNumber,
    by rw [e_SelfWatch, e_Repeated]; exact kit_ref sub_SelfWatch_Repeated ic_Repeated ty_Repeated ss_Repeated,
    by rw [e_SelfWatch, e_UnknownFolk]; exact kit_ref sub_SelfWatch_UnknownFolk ic_UnknownFolk ty_UnknownFolk ss_UnknownFolk,
    by rw [e_BadText, e_DrowseError]; exact PySem.W.exm_ref sb_DrowseError hd_DrowseError ty_DrowseError sub_BadText_DrowseError,
    by rw [e_BadText]; exact kit_ref ss_BadText ic_BadText ty_BadText ss_BadText,
    by rw [e_BadText, e_BadCount]; exact kit_ref sub_BadText_BadCount ic_BadCount ty_BadCount ss_BadCount,
    by rw [e_BadText, e_BadName]; exact kit_ref sub_BadText_BadName ic_BadName ty_BadName ss_BadName,
    by rw [e_BadText, e_BadNumber]; exact kit_ref sub_BadText_BadNumber ic_BadNumber ty_BadNumber ss_BadNumber,
    by rw [e_BadText, e_Repeated]; exact kit_ref sub_BadText_Repeated ic_Repeated ty_Repeated ss_Repeated,
    by rw [e_BadText, e_UnknownFolk]; exact kit_ref sub_BadText_UnknownFolk ic_UnknownFolk ty_UnknownFolk ss_UnknownFolk,
    by rw [e_BorderWatch, e_DrowseError]; exact PySem.W.exm_ref sb_DrowseError hd_DrowseError ty_DrowseError sub_BorderWatch_DrowseError,
    by rw [e_BorderWatch, e_BadText]; exact kit_ref sub_BorderWatch_BadText ic_BadText ty_BadText ss_BadText,
    by rw [e_BorderWatch, e_BadCount]; exact kit_ref sub_BorderWatch_BadCount ic_BadCount ty_BadCount ss_BadCount,
    by rw [e_BorderWatch, e_BadName]; exact kit_ref sub_BorderWatch_BadName ic_BadName ty_BadName ss_BadName,
    by rw [e_BorderWatch, e_BadNumber]; exact kit_ref sub_BorderWatch_BadNumber ic_BadNumber ty_BadNumber ss_BadNumber,
    by rw [e_BorderWatch, e_Repeated]; exact kit_ref sub_BorderWatch_Repeated ic_Repeated ty_Repeated ss_Repeated,
    by rw [e_BorderWatch, e_UnknownFolk]; exact kit_ref sub_BorderWatch_UnknownFolk ic_UnknownFolk ty_UnknownFolk ss_UnknownFolk⟩
  have F0 := fun_mk (st := s_plain) l0 c0 k0
  have b0 := F0.binds (ps := p_plain) fun _ _ _ _ _ _ us hl => match us, hl with | [_], _ => rfl
  have D_plain : Dn K mg "plain" s_plain p_plain _ _ := ⟨F0, b0, PySem.W.mg_of X G a0⟩
  have F1 := fun_mk (st := s_BadName__init) l1 c1 k1
  have b1 := F1.binds (ps := p_BadName__init) fun _ _ _ _ _ _ us hl => match us, hl with | [_, _], _ => rfl
  have D_BadName__init : Dm K "__init__" "BadName.__init__" s_BadName__init p_BadName__init _ _ := ⟨F1, b1⟩
  have F2 := fun_mk (st := s_BadNumber__init) l2 c2 k2
  have b2 := F2.binds (ps := p_BadNumber__init) fun _ _ _ _ _ _ us hl => match us, hl with | [_, _], _ => rfl
  have D_BadNumber__init : Dm K "__init__" "BadNumber.__init__" s_BadNumber__init p_BadNumber__init _ _ := ⟨F2, b2⟩
  have F3 := fun_mk (st := s_BadCount__init) l3 c3 k3
  have b3 := F3.binds (ps := p_BadCount__init) fun _ _ _ _ _ _ us hl => match us, hl with | [_, _, _], _ => rfl
  have D_BadCount__init : Dm K "__init__" "BadCount.__init__" s_BadCount__init p_BadCount__init _ _ := ⟨F3, b3⟩
  have F4 := fun_mk (st := s_Repeated__init) l4 c4 k4
  have b4 := F4.binds (ps := p_Repeated__init) fun _ _ _ _ _ _ us hl => match us, hl with | [_, _], _ => rfl
  have D_Repeated__init : Dm K "__init__" "Repeated.__init__" s_Repeated__init p_Repeated__init _ _ := ⟨F4, b4⟩
  have F5 := fun_mk (st := s_UnknownFolk__init) l5 c5 k5
  have b5 := F5.binds (ps := p_UnknownFolk__init) fun _ _ _ _ _ _ us hl => match us, hl with | [_, _], _ => rfl
  have D_UnknownFolk__init : Dm K "__init__" "UnknownFolk.__init__" s_UnknownFolk__init p_UnknownFolk__init _ _ := ⟨F5, b5⟩
  have F6 := fun_mk (st := s_SelfWatch__init) l6 c6 k6
  have b6 := F6.binds (ps := p_SelfWatch__init) fun _ _ _ _ _ _ us hl => match us, hl with | [_, _], _ => rfl
  have D_SelfWatch__init : Dm K "__init__" "SelfWatch.__init__" s_SelfWatch__init p_SelfWatch__init _ _ := ⟨F6, b6⟩
  have F7 := fun_mk (st := s_BadText__init) l7 c7 k7
  have b7 := F7.binds (ps := p_BadText__init) fun _ _ _ _ _ _ us hl => match us, hl with | [_, _], _ => rfl
  have D_BadText__init : Dm K "__init__" "BadText.__init__" s_BadText__init p_BadText__init _ _ := ⟨F7, b7⟩
  have F8 := fun_mk (st := s_BorderWatch__init) l8 c8 k8
  have b8 := F8.binds (ps := p_BorderWatch__init) fun _ _ _ _ _ _ us hl => match us, hl with | [_, _, _], _ => rfl
  have D_BorderWatch__init : Dm K "__init__" "BorderWatch.__init__" s_BorderWatch__init p_BorderWatch__init _ _ := ⟨F8, b8⟩
  have F9 := fun_mk (st := s_is_name) l9 c9 k9
  have b9 := F9.binds (ps := p_is_name) fun _ _ _ _ _ _ us hl => match us, hl with | [_], _ => rfl
  have D_is_name : Dn K mg "is_name" s_is_name p_is_name _ _ := ⟨F9, b9, PySem.W.mg_of X G a9⟩
  have F10 := fun_mk (st := s_is_number) l10 c10 k10
  have b10 := F10.binds (ps := p_is_number) fun _ _ _ _ _ _ us hl => match us, hl with | [_, _, _], _ => rfl
  have D_is_number : Dn K mg "is_number" s_is_number p_is_number _ _ := ⟨F10, b10, PySem.W.mg_of X G a10⟩
  have F11 := fun_mk (st := s_check_number) l11 c11 k11
  have b11 := F11.binds (ps := p_check_number) fun _ _ _ _ _ _ us hl => match us, hl with | [_, _, _], _ => rfl
  have D_check_number : Dn K mg "check_number" s_check_number p_check_number _ _ := ⟨F11, b11, PySem.W.mg_of X G a11⟩
  have F12 := fun_mk (st := s_check_count) l12 c12 k12
  have b12 := F12.binds (ps := p_check_count) fun _ _ _ _ _ _ us hl => match us, hl with | [_, _, _, _], _ => rfl
  have D_check_count : Dn K mg "check_count" s_check_count p_check_count _ _ := ⟨F12, b12, PySem.W.mg_of X G a12⟩
  have F13 := fun_mk (st := s_check_new_name) l13 c13 k13
  have b13 := F13.binds (ps := p_check_new_name) fun _ _ _ _ _ _ us hl => match us, hl with | [_], _ => rfl
  have D_check_new_name : Dn K mg "check_new_name" s_check_new_name p_check_new_name _ _ := ⟨F13, b13, PySem.W.mg_of X G a13⟩
  have F14 := fun_mk (st := s_place_in) l14 c14 k14
  have b14 := F14.binds (ps := p_place_in) fun _ _ _ _ _ _ us hl => match us, hl with | [_, _], _ => rfl
  have D_place_in : Dn K mg "place_in" s_place_in p_place_in _ _ := ⟨F14, b14, PySem.W.mg_of X G a14⟩
  have F15 := fun_mk (st := s_examined_folk) l15 c15 k15
  have b15 := F15.binds (ps := p_examined_folk) fun _ _ _ _ _ _ us hl => match us, hl with | [_, _], _ => rfl
  have D_examined_folk : Dn K mg "examined_folk" s_examined_folk p_examined_folk _ _ := ⟨F15, b15, PySem.W.mg_of X G a15⟩
  have F16 := fun_mk (st := s_examined_watches) l16 c16 k16
  have b16 := F16.binds (ps := p_examined_watches) fun _ _ _ _ _ _ us hl => match us, hl with | [_, _, _], _ => rfl
  have D_examined_watches : Dn K mg "examined_watches" s_examined_watches p_examined_watches _ _ := ⟨F16, b16, PySem.W.mg_of X G a16⟩
  have F17 := fun_mk (st := s_all_pulls) l17 c17 k17
  have b17 := F17.binds (ps := p_all_pulls) fun _ _ _ _ _ _ us hl => match us, hl with | [_, _], _ => rfl
  have D_all_pulls : Dn K mg "all_pulls" s_all_pulls p_all_pulls _ _ := ⟨F17, b17, PySem.W.mg_of X G a17⟩
  have F18 := dw_mk (st := s_Web__init) (dvs := [V.ref td18]) l18 c18 k18 lT18 (.cons rfl .nil) (by simp)
  have b18 := dw_binds (ps := p_Web__init) F18 3 1 (by simp) rfl rfl fun _ _ _ _ _ _ _ us its hl hl2 => match us, hl, its, hl2 with | [_, _, _], _, [_], _ => ⟨_, rfl, rfl⟩
  have D_Web__init : Dw K "__init__" "Web.__init__" s_Web__init [V.ref td18] p_Web__init _ _ := ⟨F18, b18⟩
  have E_Web__init : ∃ t, V.ref td18 = .ref t ∧ ∀ H', SqT K H' t [] := ⟨_, rfl, fun H' => sqT_written ld18 H'⟩
  have B1_Web__init := F18.binds1 (ps := p_Web__init) 2 0 (by simp) rfl fun _ _ _ _ _ _ _ us its hl hl2 => match us, hl, its, hl2 with | [_, _], _, [_], _ => ⟨_, rfl, rfl⟩
  have Mk_Web : Mk K (gad K "Web") f18 := by rw [e_Web]; exact ⟨mk_Web, a18, n18, kc_Web⟩
  have F19 := fun_mk (st := s_Web_folk) l19 c19 k19
  have b19 := F19.binds (ps := p_Web_folk) fun _ _ _ _ _ _ us hl => match us, hl with | [_], _ => rfl
  have D_Web_folk : Dm K "folk" "Web.folk" s_Web_folk p_Web_folk _ _ := ⟨F19, b19⟩
  have P_Web_folk : PropOf K (gad K "Web") "folk" pp19 f19 := by rw [e_Web]; exact ⟨a19, g19, t19, ⟨_, r19⟩⟩
  have F20 := fun_mk (st := s_Web_watches) l20 c20 k20
  have b20 := F20.binds (ps := p_Web_watches) fun _ _ _ _ _ _ us hl => match us, hl with | [_], _ => rfl
  have D_Web_watches : Dm K "watches" "Web.watches" s_Web_watches p_Web_watches _ _ := ⟨F20, b20⟩
  have P_Web_watches : PropOf K (gad K "Web") "watches" pp20 f20 := by rw [e_Web]; exact ⟨a20, g20, t20, ⟨_, r20⟩⟩
  have F21 := fun_mk (st := s_is_written_number) l21 c21 k21
  have b21 := F21.binds (ps := p_is_written_number) fun _ _ _ _ _ _ us hl => match us, hl with | [_], _ => rfl
  have D_is_written_number : Dn K mg "is_written_number" s_is_written_number p_is_written_number _ _ := ⟨F21, b21, PySem.W.mg_of X G a21⟩
  have F22 := fun_mk (st := s_web_text) l22 c22 k22
  have b22 := F22.binds (ps := p_web_text) fun _ _ _ _ _ _ us hl => match us, hl with | [_], _ => rfl
  have D_web_text : Dn K mg "web_text" s_web_text p_web_text _ _ := ⟨F22, b22, PySem.W.mg_of X G a22⟩
  have F23 := fun_mk (st := s_is_folk_line) l23 c23 k23
  have b23 := F23.binds (ps := p_is_folk_line) fun _ _ _ _ _ _ us hl => match us, hl with | [_, _, _], _ => rfl
  have D_is_folk_line : Dn K mg "_is_folk_line" s_is_folk_line p_is_folk_line _ _ := ⟨F23, b23, PySem.W.mg_of X G a23⟩
  have F24 := fun_mk (st := s_is_watch_line) l24 c24 k24
  have b24 := F24.binds (ps := p_is_watch_line) fun _ _ _ _ _ _ us hl => match us, hl with | [_, _, _], _ => rfl
  have D_is_watch_line : Dn K mg "_is_watch_line" s_is_watch_line p_is_watch_line _ _ := ⟨F24, b24, PySem.W.mg_of X G a24⟩
  have F25 := fun_mk (st := s_read_web) l25 c25 k25
  have b25 := F25.binds (ps := p_read_web) fun _ _ _ _ _ _ us hl => match us, hl with | [_], _ => rfl
  have D_read_web : Dn K mg "read_web" s_read_web p_read_web _ _ := ⟨F25, b25, PySem.W.mg_of X G a25⟩
  have F26 := fun_mk (st := s_law_store) l26 c26 k26
  have b26 := F26.binds (ps := p_law_store) fun _ _ _ _ _ _ us hl => match us, hl with | [_], _ => rfl
  have D_law_store : Dn K mg "_law_store" s_law_store p_law_store _ _ := ⟨F26, b26, PySem.W.mg_of X G a26⟩
  have F27 := fun_mk (st := s_law_next) l27 c27 k27
  have b27 := F27.binds (ps := p_law_next) fun _ _ _ _ _ _ us hl => match us, hl with | [_], _ => rfl
  have D_law_next : Dn K mg "_law_next" s_law_next p_law_next _ _ := ⟨F27, b27, PySem.W.mg_of X G a27⟩
  have F28 := fun_mk (st := s_law_raw) l28 c28 k28
  have b28 := F28.binds (ps := p_law_raw) fun _ _ _ _ _ _ us hl => match us, hl with | [_], _ => rfl
  have D_law_raw : Dn K mg "_law_raw" s_law_raw p_law_raw _ _ := ⟨F28, b28, PySem.W.mg_of X G a28⟩
  have F29 := fun_mk (st := s_law_take) l29 c29 k29
  have b29 := F29.binds (ps := p_law_take) fun _ _ _ _ _ _ us hl => match us, hl with | [_, _], _ => rfl
  have D_law_take : Dn K mg "_law_take" s_law_take p_law_take _ _ := ⟨F29, b29, PySem.W.mg_of X G a29⟩
  have F30 := fun_mk (st := s_law_some) l30 c30 k30
  have b30 := F30.binds (ps := p_law_some) fun _ _ _ _ _ _ us hl => match us, hl with | [_, _, _], _ => rfl
  have D_law_some : Dn K mg "_law_some" s_law_some p_law_some _ _ := ⟨F30, b30, PySem.W.mg_of X G a30⟩
  have F31 := fun_mk (st := s_law_pick) l31 c31 k31
  have b31 := F31.binds (ps := p_law_pick) fun _ _ _ _ _ _ us hl => match us, hl with | [_, _], _ => rfl
  have D_law_pick : Dn K mg "_law_pick" s_law_pick p_law_pick _ _ := ⟨F31, b31, PySem.W.mg_of X G a31⟩
  have F32 := fun_mk (st := s_law_mixed) l32 c32 k32
  have b32 := F32.binds (ps := p_law_mixed) fun _ _ _ _ _ _ us hl => match us, hl with | [_, _], _ => rfl
  have D_law_mixed : Dn K mg "_law_mixed" s_law_mixed p_law_mixed _ _ := ⟨F32, b32, PySem.W.mg_of X G a32⟩
  have F33 := fun_mk (st := s_law_same) l33 c33 k33
  have b33 := F33.binds (ps := p_law_same) fun _ _ _ _ _ _ us hl => match us, hl with | [_, _], _ => rfl
  have D_law_same : Dn K mg "_law_same" s_law_same p_law_same _ _ := ⟨F33, b33, PySem.W.mg_of X G a33⟩
  have F34 := fun_mk (st := s_law_unlike) l34 c34 k34
  have b34 := F34.binds (ps := p_law_unlike) fun _ _ _ _ _ _ us hl => match us, hl with | [_, _], _ => rfl
  have D_law_unlike : Dn K mg "_law_unlike" s_law_unlike p_law_unlike _ _ := ⟨F34, b34, PySem.W.mg_of X G a34⟩
  have F35 := fun_mk (st := s_law_name) l35 c35 k35
  have b35 := F35.binds (ps := p_law_name) fun _ _ _ _ _ _ us hl => match us, hl with | [_], _ => rfl
  have D_law_name : Dn K mg "_law_name" s_law_name p_law_name _ _ := ⟨F35, b35, PySem.W.mg_of X G a35⟩
  have F36 := fun_mk (st := s_law_names) l36 c36 k36
  have b36 := F36.binds (ps := p_law_names) fun _ _ _ _ _ _ us hl => match us, hl with | [_, _], _ => rfl
  have D_law_names : Dn K mg "_law_names" s_law_names p_law_names _ _ := ⟨F36, b36, PySem.W.mg_of X G a36⟩
  have F37 := fun_mk (st := s_law_bad_name) l37 c37 k37
  have b37 := F37.binds (ps := p_law_bad_name) fun _ _ _ _ _ _ us hl => match us, hl with | [_], _ => rfl
  have D_law_bad_name : Dn K mg "_law_bad_name" s_law_bad_name p_law_bad_name _ _ := ⟨F37, b37, PySem.W.mg_of X G a37⟩
  have F38 := fun_mk (st := s_law_is_name) l38 c38 k38
  have b38 := F38.binds (ps := p_law_is_name) fun _ _ _ _ _ _ us hl => match us, hl with | [_], _ => rfl
  have D_law_is_name : Dn K mg "_law_is_name" s_law_is_name p_law_is_name _ _ := ⟨F38, b38, PySem.W.mg_of X G a38⟩
  have F39 := fun_mk (st := s_law_fresh) l39 c39 k39
  have b39 := F39.binds (ps := p_law_fresh) fun _ _ _ _ _ _ us hl => match us, hl with | [_, _], _ => rfl
  have D_law_fresh : Dn K mg "_law_fresh" s_law_fresh p_law_fresh _ _ := ⟨F39, b39, PySem.W.mg_of X G a39⟩
  have F40 := fun_mk (st := s_law_names_of) l40 c40 k40
  have b40 := F40.binds (ps := p_law_names_of) fun _ _ _ _ _ _ us hl => match us, hl with | [_], _ => rfl
  have D_law_names_of : Dn K mg "_law_names_of" s_law_names_of p_law_names_of _ _ := ⟨F40, b40, PySem.W.mg_of X G a40⟩
  have F41 := fun_mk (st := s_law_pairs) l41 c41 k41
  have b41 := F41.binds (ps := p_law_pairs) fun _ _ _ _ _ _ us hl => match us, hl with | [_], _ => rfl
  have D_law_pairs : Dn K mg "_law_pairs" s_law_pairs p_law_pairs _ _ := ⟨F41, b41, PySem.W.mg_of X G a41⟩
  have F42 := fun_mk (st := s_law_pair_order) l42 c42 k42
  have b42 := F42.binds (ps := p_law_pair_order) fun _ _ _ _ _ _ us hl => match us, hl with | [_, _], _ => rfl
  have D_law_pair_order : Dn K mg "_law_pair_order" s_law_pair_order p_law_pair_order _ _ := ⟨F42, b42, PySem.W.mg_of X G a42⟩
  have F43 := fun_mk (st := s_law_web_lines) l43 c43 k43
  have b43 := F43.binds (ps := p_law_web_lines) fun _ _ _ _ _ _ us hl => match us, hl with | [_, _], _ => rfl
  have D_law_web_lines : Dn K mg "_law_web_lines" s_law_web_lines p_law_web_lines _ _ := ⟨F43, b43, PySem.W.mg_of X G a43⟩
  have F44 := fun_mk (st := s_law_bent_number) l44 c44 k44
  have b44 := F44.binds (ps := p_law_bent_number) fun _ _ _ _ _ _ us hl => match us, hl with | [_], _ => rfl
  have D_law_bent_number : Dn K mg "_law_bent_number" s_law_bent_number p_law_bent_number _ _ := ⟨F44, b44, PySem.W.mg_of X G a44⟩
  have F45 := fun_mk (st := s_law_bent_spaces) l45 c45 k45
  have b45 := F45.binds (ps := p_law_bent_spaces) fun _ _ _ _ _ _ us hl => match us, hl with | [_, _], _ => rfl
  have D_law_bent_spaces : Dn K mg "_law_bent_spaces" s_law_bent_spaces p_law_bent_spaces _ _ := ⟨F45, b45, PySem.W.mg_of X G a45⟩
  have F46 := fun_mk (st := s_law_bad_watch_line) l46 c46 k46
  have b46 := F46.binds (ps := p_law_bad_watch_line) fun _ _ _ _ _ _ us hl => match us, hl with | [_, _], _ => rfl
  have D_law_bad_watch_line : Dn K mg "_law_bad_watch_line" s_law_bad_watch_line p_law_bad_watch_line _ _ := ⟨F46, b46, PySem.W.mg_of X G a46⟩
  have F47 := fun_mk (st := s_law_late_folk) l47 c47 k47
  have b47 := F47.binds (ps := p_law_late_folk) fun _ _ _ _ _ _ us hl => match us, hl with | [_, _, _, _], _ => rfl
  have D_law_late_folk : Dn K mg "_law_late_folk" s_law_late_folk p_law_late_folk _ _ := ⟨F47, b47, PySem.W.mg_of X G a47⟩
  have F48 := fun_mk (st := s_law_drawn) l48 c48 k48
  have b48 := F48.binds (ps := p_law_drawn) fun _ _ _ _ _ _ us hl => match us, hl with | [_], _ => rfl
  have D_law_drawn : Dn K mg "_law_drawn" s_law_drawn p_law_drawn _ _ := ⟨F48, b48, PySem.W.mg_of X G a48⟩
  have F49 := fun_mk (st := s_law_word) l49 c49 k49
  have b49 := F49.binds (ps := p_law_word) fun _ _ _ _ _ _ us hl => match us, hl with | [_, _], _ => rfl
  have D_law_word : Dn K mg "_law_word" s_law_word p_law_word _ _ := ⟨F49, b49, PySem.W.mg_of X G a49⟩
  have F50 := fun_mk (st := s_law_spoilt) l50 c50 k50
  have b50 := F50.binds (ps := p_law_spoilt) fun _ _ _ _ _ _ us hl => match us, hl with | [_, _, _], _ => rfl
  have D_law_spoilt : Dn K mg "_law_spoilt" s_law_spoilt p_law_spoilt _ _ := ⟨F50, b50, PySem.W.mg_of X G a50⟩
  have F51 := fun_mk (st := s_law_number_fine) l51 c51 k51
  have b51 := F51.binds (ps := p_law_number_fine) fun _ _ _ _ _ _ us hl => match us, hl with | [_], _ => rfl
  have D_law_number_fine : Dn K mg "_law_number_fine" s_law_number_fine p_law_number_fine _ _ := ⟨F51, b51, PySem.W.mg_of X G a51⟩
  have F52 := fun_mk (st := s_law_folk_line) l52 c52 k52
  have b52 := F52.binds (ps := p_law_folk_line) fun _ _ _ _ _ _ us hl => match us, hl with | [_, _, _], _ => rfl
  have D_law_folk_line : Dn K mg "_law_folk_line" s_law_folk_line p_law_folk_line _ _ := ⟨F52, b52, PySem.W.mg_of X G a52⟩
  have F53 := fun_mk (st := s_law_watch_line) l53 c53 k53
  have b53 := F53.binds (ps := p_law_watch_line) fun _ _ _ _ _ _ us hl => match us, hl with | [_, _, _], _ => rfl
  have D_law_watch_line : Dn K mg "_law_watch_line" s_law_watch_line p_law_watch_line _ _ := ⟨F53, b53, PySem.W.mg_of X G a53⟩
  have F54 := fun_mk (st := s_law_read) l54 c54 k54
  have b54 := F54.binds (ps := p_law_read) fun _ _ _ _ _ _ us hl => match us, hl with | [_], _ => rfl
  have D_law_read : Dn K mg "_law_read" s_law_read p_law_read _ _ := ⟨F54, b54, PySem.W.mg_of X G a54⟩
  have F55 := fun_mk (st := s_law_told) l55 c55 k55
  have b55 := F55.binds (ps := p_law_told) fun _ _ _ _ _ _ us hl => match us, hl with | [_], _ => rfl
  have D_law_told : Dn K mg "_law_told" s_law_told p_law_told _ _ := ⟨F55, b55, PySem.W.mg_of X G a55⟩
  have F56 := fun_mk (st := s_law) l56 c56 k56
  have b56 := F56.binds (ps := p_law) fun _ _ _ _ _ _ us hl => match us, hl with | [_], _ => rfl
  have D_law : Dn K mg "law" s_law p_law _ _ := ⟨F56, b56, PySem.W.mg_of X G a56⟩
  obtain ⟨P42, eP42⟩ := Option.isSome_iff_exists.mp tq42
  have mP42 := List.mem_of_find?_eq_some eP42
  have cP42 := List.find?_some eP42
  have tk2 : ∀ P ∈ ts, K.lookup P = none := fun P hP => Option.isNone_iff_eq_none.mp (List.all_eq_true.mp tk P hP)
  refine ⟨PySem.W.fnOf "law" "law" (defArgs s_law) (defBody s_law) (defScope s_law) .none kV56 dc56 pm56 an56 cd56 ct56, [(cc42, P42)], sp_law [(P42, lq "_law_pair_order")] K, fun p hp => ?_, fun p hp => ?_, fun p hp => ?_, fun s v => .of_eq rfl, fun H a ns hl _ tH hS => ⟨a, ns, rfl, hS, hl, fun p hp => ?_, fun _ => rfl⟩, fun base _ _ hB => ?_⟩
  · (simp only [List.mem_cons, List.not_mem_nil, or_false] at hp); rcases hp with rfl
    · exact hT _ mP42
  · (simp only [List.mem_cons, List.not_mem_nil, or_false] at hp); rcases hp with rfl
    · exact tk2 _ mP42
  · (simp only [List.mem_cons, List.not_mem_nil, or_false] at hp); rcases hp with rfl
    · exact PySem.W.codeHd_of_K X cP42
  · (simp only [List.mem_cons, List.not_mem_nil, or_false] at hp); rcases hp with rfl
    · exact LamX.TabS.nil (tH (cc42, P42) (by simp))
  have TB_law_pair_order := hB (cc42, P42) (by simp)
  have mT_law_pair_order : (P42, lq "_law_pair_order") ∈ ([(P42, lq "_law_pair_order")] : List (Addr × Str)) := by simp
  have uT_law_pair_order : ∀ q ∈ ([(P42, lq "_law_pair_order")] : List (Addr × Str)), q.1 = P42 → q.2 = lq "_law_pair_order" := fun q hq e => by
    (simp only [List.mem_cons, List.not_mem_nil, or_false] at hq); rcases hq with rfl
    · rfl
  have G_law_store := ok_law_store (P := l.prog) (w := w) (base := base) T D_law_store
  have G_law_next := ok_law_next (P := l.prog) (w := w) (base := base) T D_law_next
  have G_law_raw := ok_law_raw (P := l.prog) (w := w) (base := base) T D_law_raw
  have G_law_take := ok_law_take (P := l.prog) (w := w) (base := base) D_law_next G_law_next D_law_raw G_law_raw T D_law_take
  have G_law_pick := ok_law_pick (P := l.prog) (w := w) (base := base) D_law_take G_law_take T D_law_pick
  have G_law_some := ok_law_some (P := l.prog) (w := w) (base := base) D_law_take G_law_take T D_law_some
  have G_law_name := ok_law_name (P := l.prog) (w := w) (base := base) D_law_take G_law_take D_law_pick G_law_pick D_law_some G_law_some T D_law_name
  have G_law_unlike := ok_law_unlike (P := l.prog) (w := w) (base := base) T D_law_unlike
  have G_law_names := ok_law_names (P := l.prog) (w := w) (base := base) D_law_take G_law_take D_law_name G_law_name D_law_unlike G_law_unlike T D_law_names
  have G_law_mixed := ok_law_mixed (P := l.prog) (w := w) (base := base) D_law_take G_law_take T D_law_mixed
  have G_law_pairs := ok_law_pairs (P := l.prog) (w := w) (base := base) T D_law_pairs
  have G_law_drawn := ok_law_drawn (P := l.prog) (w := w) (base := base) D_law_names G_law_names D_law_some G_law_some D_law_mixed G_law_mixed D_law_pairs G_law_pairs D_law_take G_law_take T D_law_drawn
  have G_law_names_of := ok_law_names_of (P := l.prog) (w := w) (base := base) T D_law_names_of
  have G_law_web_lines := ok_law_web_lines (P := l.prog) (w := w) (base := base) T D_law_web_lines
  have G_law_bent_number := ok_law_bent_number (P := l.prog) (w := w) (base := base) D_law_pick G_law_pick D_law_take G_law_take T D_law_bent_number
  have G_law_bad_name := ok_law_bad_name (P := l.prog) (w := w) (base := base) D_law_name G_law_name D_law_take G_law_take D_law_some G_law_some T D_law_bad_name
  have G_law_word := ok_law_word (P := l.prog) (w := w) (base := base) D_law_take G_law_take D_law_bent_number G_law_bent_number D_law_bad_name G_law_bad_name D_law_pick G_law_pick D_law_some G_law_some T D_law_word
  have G_law_bent_spaces := ok_law_bent_spaces (P := l.prog) (w := w) (base := base) D_law_take G_law_take T D_law_bent_spaces
  have G_law_fresh := ok_law_fresh (P := l.prog) (w := w) (base := base) D_law_unlike G_law_unlike D_law_name G_law_name T D_law_fresh
  have G_law_late_folk := ok_law_late_folk (P := l.prog) (w := w) (base := base) D_law_take G_law_take D_law_fresh G_law_fresh T D_law_late_folk
  have G_law_bad_watch_line := ok_law_bad_watch_line (P := l.prog) (w := w) (base := base) D_law_pick G_law_pick D_law_fresh G_law_fresh D_law_take G_law_take T D_law_bad_watch_line
  have G_law_spoilt := ok_law_spoilt (P := l.prog) (w := w) (base := base) D_law_take G_law_take D_law_word G_law_word D_law_pick G_law_pick D_law_bent_spaces G_law_bent_spaces D_law_late_folk G_law_late_folk D_law_some G_law_some D_law_bad_watch_line G_law_bad_watch_line T D_law_spoilt
  have G_law_same := ok_law_same (P := l.prog) (w := w) (base := base) T D_law_same
  have G_plain := ok_plain (P := l.prog) (w := w) (base := base) T D_plain
  have G_BadCount__init := ok_BadCount__init (P := l.prog) (w := w) (base := base) D_plain G_plain T D_BadCount__init
  have G_check_count := ok_check_count (P := l.prog) (w := w) (base := base) D_BadCount__init G_BadCount__init X_BadCount T D_check_count
  have G_is_name := ok_is_name (P := l.prog) (w := w) (base := base) T D_is_name
  have G_BadName__init := ok_BadName__init (P := l.prog) (w := w) (base := base) D_plain G_plain T D_BadName__init
  have G_check_new_name := ok_check_new_name (P := l.prog) (w := w) (base := base) D_is_name G_is_name D_BadName__init G_BadName__init X_BadName T D_check_new_name
  have G_is_number := ok_is_number (P := l.prog) (w := w) (base := base) T D_is_number
  have G_BadNumber__init := ok_BadNumber__init (P := l.prog) (w := w) (base := base) D_plain G_plain T D_BadNumber__init
  have G_check_number := ok_check_number (P := l.prog) (w := w) (base := base) D_is_number G_is_number D_BadNumber__init G_BadNumber__init X_BadNumber T D_check_number
  have G_Repeated__init := ok_Repeated__init (P := l.prog) (w := w) (base := base) D_plain G_plain T D_Repeated__init
  have G_examined_folk := ok_examined_folk (P := l.prog) (w := w) (base := base) D_check_new_name G_check_new_name D_check_number G_check_number D_Repeated__init G_Repeated__init X_Repeated T D_examined_folk
  have G_UnknownFolk__init := ok_UnknownFolk__init (P := l.prog) (w := w) (base := base) D_plain G_plain T D_UnknownFolk__init
  have G_place_in := ok_place_in (P := l.prog) (w := w) (base := base) D_UnknownFolk__init G_UnknownFolk__init X_UnknownFolk T D_place_in
  have G_SelfWatch__init := ok_SelfWatch__init (P := l.prog) (w := w) (base := base) D_plain G_plain T D_SelfWatch__init
  have G_BorderWatch__init := ok_BorderWatch__init (P := l.prog) (w := w) (base := base) D_plain G_plain T D_BorderWatch__init
  have G_examined_watches := ok_examined_watches (P := l.prog) (w := w) (base := base) D_check_count G_check_count D_place_in G_place_in D_check_number G_check_number D_SelfWatch__init G_SelfWatch__init X_SelfWatch D_BorderWatch__init G_BorderWatch__init X_BorderWatch D_Repeated__init G_Repeated__init X_Repeated T D_examined_watches
  have G_all_pulls := ok_all_pulls (P := l.prog) (w := w) (base := base) T D_all_pulls
  have G_Web__init := ok_Web__init (P := l.prog) (w := w) (base := base) D_check_count G_check_count D_examined_folk G_examined_folk D_examined_watches G_examined_watches D_all_pulls G_all_pulls X_Web T D_Web__init
  have G_is_written_number := ok_is_written_number (P := l.prog) (w := w) (base := base) T D_is_written_number
  have G_is_folk_line := ok_is_folk_line (P := l.prog) (w := w) (base := base) D_is_name G_is_name D_is_written_number G_is_written_number T D_is_folk_line
  have G_is_watch_line := ok_is_watch_line (P := l.prog) (w := w) (base := base) D_is_written_number G_is_written_number T D_is_watch_line
  have G_BadText__init := ok_BadText__init (P := l.prog) (w := w) (base := base) D_plain G_plain T D_BadText__init
  have G_read_web := ok_read_web (P := l.prog) (w := w) (base := base) D_Web__init G_Web__init Mk_Web D_is_folk_line G_is_folk_line D_is_watch_line G_is_watch_line D_BadText__init G_BadText__init X_BadText X_Web T D_read_web
  have G_Web_folk := ok_Web_folk (P := l.prog) (w := w) (base := base) X_Web T D_Web_folk
  have G_Web_watches := ok_Web_watches (P := l.prog) (w := w) (base := base) X_Web T D_Web_watches
  have G_web_text := ok_web_text (P := l.prog) (w := w) (base := base) D_Web_folk G_Web_folk P_Web_folk D_Web_watches G_Web_watches P_Web_watches X_Web T D_web_text
  have G_law_told := ok_law_told (P := l.prog) (w := w) (base := base) D_read_web G_read_web D_web_text G_web_text D_Web_folk G_Web_folk P_Web_folk D_Web_watches G_Web_watches P_Web_watches D_law_web_lines G_law_web_lines X_Web Y_BadCount Y_BadName Y_BadNumber Y_BadText Y_DrowseError Y_Repeated Y_UnknownFolk X_BadText Kt T D_law_told
  have G_law_is_name := ok_law_is_name (P := l.prog) (w := w) (base := base) T D_law_is_name
  have G_law_number_fine := ok_law_number_fine (P := l.prog) (w := w) (base := base) T D_law_number_fine
  have G_law_folk_line := ok_law_folk_line (P := l.prog) (w := w) (base := base) D_law_is_name G_law_is_name D_law_number_fine G_law_number_fine D_law_names_of G_law_names_of T D_law_folk_line
  have G_law_watch_line := ok_law_watch_line (P := l.prog) (w := w) (base := base) D_law_names_of G_law_names_of D_law_number_fine G_law_number_fine T D_law_watch_line
  have G_law_pair_order := ok_law_pair_order (P := l.prog) (w := w) (base := base) (LT := [(P42, lq "_law_pair_order")]) rfl TB_law_pair_order mT_law_pair_order uT_law_pair_order T D_law_pair_order
  have G_law_read := ok_law_read (P := l.prog) (w := w) (base := base) (LT := [(P42, lq "_law_pair_order")]) D_law_folk_line G_law_folk_line D_law_watch_line G_law_watch_line D_law_pair_order G_law_pair_order D_law_names_of G_law_names_of T D_law_read
  exact ok_law (LT := [(P42, lq "_law_pair_order")]) D_law_store G_law_store D_law_drawn G_law_drawn D_law_names_of G_law_names_of D_law_web_lines G_law_web_lines D_law_spoilt G_law_spoilt D_law_same G_law_same D_law_take G_law_take D_law_told G_law_told D_law_read G_law_read T D_law
theorem walk {l : PySem.W.OpenLaw} {q : Program} {loose : List Str} {XP : (Str → Option Value) → Heap → Prop} {YP : World → Heap → Prop} {d : DefRec} {K : Params → PySem.W.Frag} (hn : l.most = some 63) (hdf : d.params.defaults = [])
    (hY : ∀ (w : World) (h : Heap), YP w h → (K w.params).In h)
    (F : ∀ (w : World) (mg : Str → Option Value) (fa : Addr) (h : Heap), YP w h → (K w.params).In h → h.Ns mainGlobals mg → mg d.name = some (.ref fa) → LamX.LawAtS l w (K w.params) CX0 11 63 "script" mg fa h) :
    PySem.W.WalkO q loose XP YP l.row.toRowW d [] (fun f vs => PySem.call f vs) :=
  LamX.walk_ofTs (n := 63) (k := 11) (x := "script") (CX := fun _ => CX0) hn (by decide) hdf ⟨rfl, by decide, by decide⟩ hY F (fun _ _ _ _ _ z => z)
end
end My
open PySem PySem.W PyProof.Rows
set_option maxRecDepth 100000 in
set_option maxHeartbeats 0 in
theorem PySem.Challenge.cw_drowsefolk_k08_first_line_at_fault_holds : PySem.Challenge.rw_drowsefolk_k08_first_line_at_fault.Holds := by
  w_on; o_law; k_head; (case hw => w_witness2)
  k_fill
  refine My.walk (l := PySem.Challenge.rw_drowsefolk_k08_first_line_at_fault) rfl rfl (fun w h Y => PySem.W.km_in_of Y) ?F
  case F =>
    intro w mg fa h Y KX G hmg
    refine' My.all_mk KX G hmg (PySem.W.km_tabs_of Y) ?a_Web ?pg_Web ?hd_Web ?po_Web ?sa_Web ?mk_Web ?kc_Web ?no_Web_0 ?no_Web_1 ?no_Web_2 ?no_Web_3 ?ex_gc ?ex_tc ?a_DrowseError ?ga_DrowseError ?gg_DrowseError ?sb_DrowseError ?hd_DrowseError ?cl_DrowseError ?mr_DrowseError ?ty_DrowseError ?ic_DrowseError ?ss_DrowseError ?a_BadName ?ga_BadName ?gg_BadName ?sb_BadName ?hd_BadName ?cl_BadName ?mr_BadName ?ty_BadName ?ic_BadName ?ss_BadName ?a_BadNumber ?ga_BadNumber ?gg_BadNumber ?sb_BadNumber ?hd_BadNumber ?cl_BadNumber ?mr_BadNumber ?ty_BadNumber ?ic_BadNumber ?ss_BadNumber ?a_BadCount ?ga_BadCount ?gg_BadCount ?sb_BadCount ?hd_BadCount ?cl_BadCount ?mr_BadCount ?ty_BadCount ?ic_BadCount ?ss_BadCount ?a_Repeated ?ga_Repeated ?gg_Repeated ?sb_Repeated ?hd_Repeated ?cl_Repeated ?mr_Repeated ?ty_Repeated ?ic_Repeated ?ss_Repeated ?a_UnknownFolk ?ga_UnknownFolk ?gg_UnknownFolk ?sb_UnknownFolk ?hd_UnknownFolk ?cl_UnknownFolk ?mr_UnknownFolk ?ty_UnknownFolk ?ic_UnknownFolk ?ss_UnknownFolk ?a_SelfWatch ?ga_SelfWatch ?gg_SelfWatch ?sb_SelfWatch ?hd_SelfWatch ?cl_SelfWatch ?mr_SelfWatch ?ty_SelfWatch ?ic_SelfWatch ?ss_SelfWatch ?a_BadText ?ga_BadText ?gg_BadText ?sb_BadText ?hd_BadText ?cl_BadText ?mr_BadText ?ty_BadText ?ic_BadText ?ss_BadText ?a_BorderWatch ?ga_BorderWatch ?gg_BorderWatch ?sb_BorderWatch ?hd_BorderWatch ?cl_BorderWatch ?mr_BorderWatch ?ty_BorderWatch ?ic_BorderWatch ?ss_BorderWatch ?xL_BadName ?sa_BadName ?kc_BadName ?iC_BadName ?tI_BadName ?no_BadName_0 ?rv_BadName ?xL_BadNumber ?sa_BadNumber ?kc_BadNumber ?iC_BadNumber ?tI_BadNumber ?no_BadNumber_0 ?rv_BadNumber ?xL_BadCount ?sa_BadCount ?kc_BadCount ?iC_BadCount ?tI_BadCount ?no_BadCount_0 ?no_BadCount_1 ?rv_BadCount ?xL_Repeated ?sa_Repeated ?kc_Repeated ?iC_Repeated ?tI_Repeated ?no_Repeated_0 ?rv_Repeated ?xL_UnknownFolk ?sa_UnknownFolk ?kc_UnknownFolk ?iC_UnknownFolk ?tI_UnknownFolk ?no_UnknownFolk_0 ?rv_UnknownFolk ?xL_SelfWatch ?sa_SelfWatch ?kc_SelfWatch ?iC_SelfWatch ?tI_SelfWatch ?no_SelfWatch_0 ?rv_SelfWatch ?xL_BadText ?sa_BadText ?kc_BadText ?iC_BadText ?tI_BadText ?no_BadText_0 ?rv_BadText ?xL_BorderWatch ?sa_BorderWatch ?kc_BorderWatch ?iC_BorderWatch ?tI_BorderWatch ?no_BorderWatch_0 ?no_BorderWatch_1 ?rv_BorderWatch ?sub_BadName_DrowseError ?sub_BadName_BadText ?sub_BadName_BadCount ?sub_BadName_BadNumber ?sub_BadName_Repeated ?sub_BadName_UnknownFolk ?sub_BadNumber_DrowseError ?sub_BadNumber_BadText ?sub_BadNumber_BadCount ?sub_BadNumber_BadName ?sub_BadNumber_Repeated ?sub_BadNumber_UnknownFolk ?sub_BadCount_DrowseError ?sub_BadCount_BadText ?sub_BadCount_BadName ?sub_BadCount_BadNumber ?sub_BadCount_Repeated ?sub_BadCount_UnknownFolk ?sub_Repeated_DrowseError ?sub_Repeated_BadText ?sub_Repeated_BadCount ?sub_Repeated_BadName ?sub_Repeated_BadNumber ?sub_Repeated_UnknownFolk ?sub_UnknownFolk_DrowseError ?sub_UnknownFolk_BadText ?sub_UnknownFolk_BadCount ?sub_UnknownFolk_BadName ?sub_UnknownFolk_BadNumber ?sub_UnknownFolk_Repeated ?sub_SelfWatch_DrowseError ?sub_SelfWatch_BadText ?sub_SelfWatch_BadCount ?sub_SelfWatch_BadName ?sub_SelfWatch_BadNumber ?sub_SelfWatch_Repeated ?sub_SelfWatch_UnknownFolk ?sub_BadText_DrowseError ?sub_BadText_BadCount ?sub_BadText_BadName ?sub_BadText_BadNumber ?sub_BadText_Repeated ?sub_BadText_UnknownFolk ?sub_BorderWatch_DrowseError ?sub_BorderWatch_BadText ?sub_BorderWatch_BadCount ?sub_BorderWatch_BadName ?sub_BorderWatch_BadNumber ?sub_BorderWatch_Repeated ?sub_BorderWatch_UnknownFolk ?a0 ?l0 ?c0 ?k0 ?l1 ?c1 ?k1 ?l2 ?c2 ?k2 ?l3 ?c3 ?k3 ?l4 ?c4 ?k4 ?l5 ?c5 ?k5 ?l6 ?c6 ?k6 ?l7 ?c7 ?k7 ?l8 ?c8 ?k8 ?a9 ?l9 ?c9 ?k9 ?a10 ?l10 ?c10 ?k10 ?a11 ?l11 ?c11 ?k11 ?a12 ?l12 ?c12 ?k12 ?a13 ?l13 ?c13 ?k13 ?a14 ?l14 ?c14 ?k14 ?a15 ?l15 ?c15 ?k15 ?a16 ?l16 ?c16 ?k16 ?a17 ?l17 ?c17 ?k17 ?a18 ?n18 ?l18 ?c18 ?k18 ?lT18 ?ld18 ?a19 ?g19 ?t19 ?r19 ?l19 ?c19 ?k19 ?a20 ?g20 ?t20 ?r20 ?l20 ?c20 ?k20 ?a21 ?l21 ?c21 ?k21 ?a22 ?l22 ?c22 ?k22 ?a23 ?l23 ?c23 ?k23 ?a24 ?l24 ?c24 ?k24 ?a25 ?l25 ?c25 ?k25 ?a26 ?l26 ?c26 ?k26 ?a27 ?l27 ?c27 ?k27 ?a28 ?l28 ?c28 ?k28 ?a29 ?l29 ?c29 ?k29 ?a30 ?l30 ?c30 ?k30 ?a31 ?l31 ?c31 ?k31 ?a32 ?l32 ?c32 ?k32 ?a33 ?l33 ?c33 ?k33 ?a34 ?l34 ?c34 ?k34 ?a35 ?l35 ?c35 ?k35 ?a36 ?l36 ?c36 ?k36 ?a37 ?l37 ?c37 ?k37 ?a38 ?l38 ?c38 ?k38 ?a39 ?l39 ?c39 ?k39 ?a40 ?l40 ?c40 ?k40 ?a41 ?l41 ?c41 ?k41 ?a42 ?l42 ?c42 ?tq42 ?k42 ?a43 ?l43 ?c43 ?k43 ?a44 ?l44 ?c44 ?k44 ?a45 ?l45 ?c45 ?k45 ?a46 ?l46 ?c46 ?k46 ?a47 ?l47 ?c47 ?k47 ?a48 ?l48 ?c48 ?k48 ?a49 ?l49 ?c49 ?k49 ?a50 ?l50 ?c50 ?k50 ?a51 ?l51 ?c51 ?k51 ?a52 ?l52 ?c52 ?k52 ?a53 ?l53 ?c53 ?k53 ?a54 ?l54 ?c54 ?k54 ?a55 ?l55 ?c55 ?k55 ?a56 ?l56 ?c56 ?k56 ?z_all ?z_bool ?z_enumerate ?z_int ?z_isinstance ?z_iter ?z_len ?z_list ?z_max ?z_range ?z_sorted ?z_str ?z_sum ?z_tuple ?y_MOST_FOLK ?y_MOST_NUMBER ?y_MOST_WATCHES ?y_LETTERS ?y_LETTERS_AND_DIGITS ?y_LONGEST_NAME ?y_MOST_DIGITS ?tk
    (case a_Web => k_is); (case pg_Web => k_is); (case hd_Web => k_is); (case po_Web => k_is); (case sa_Web => k_is); (case mk_Web => k_is)
    (case kc_Web => k_is); (case no_Web_0 => k_is); (case no_Web_1 => k_is); (case no_Web_2 => k_is); (case no_Web_3 => k_is); (case ex_gc => k_is)
    (case ex_tc => k_is); (case a_DrowseError => k_is); (case ga_DrowseError => k_is); (case gg_DrowseError => k_is); (case sb_DrowseError => k_is); (case hd_DrowseError => k_is)
    (case cl_DrowseError => k_is); (case mr_DrowseError => k_is); (case ty_DrowseError => k_is); (case ic_DrowseError => k_is); (case ss_DrowseError => k_is); (case a_BadName => k_is)
    (case ga_BadName => k_is); (case gg_BadName => k_is); (case sb_BadName => k_is); (case hd_BadName => k_is); (case cl_BadName => k_is); (case mr_BadName => k_is)
    (case ty_BadName => k_is); (case ic_BadName => k_is); (case ss_BadName => k_is); (case a_BadNumber => k_is); (case ga_BadNumber => k_is); (case gg_BadNumber => k_is)
    (case sb_BadNumber => k_is); (case hd_BadNumber => k_is); (case cl_BadNumber => k_is); (case mr_BadNumber => k_is); (case ty_BadNumber => k_is); (case ic_BadNumber => k_is)
    (case ss_BadNumber => k_is); (case a_BadCount => k_is); (case ga_BadCount => k_is); (case gg_BadCount => k_is); (case sb_BadCount => k_is); (case hd_BadCount => k_is)
    (case cl_BadCount => k_is); (case mr_BadCount => k_is); (case ty_BadCount => k_is); (case ic_BadCount => k_is); (case ss_BadCount => k_is); (case a_Repeated => k_is)
    (case ga_Repeated => k_is); (case gg_Repeated => k_is); (case sb_Repeated => k_is); (case hd_Repeated => k_is); (case cl_Repeated => k_is); (case mr_Repeated => k_is)
    (case ty_Repeated => k_is); (case ic_Repeated => k_is); (case ss_Repeated => k_is); (case a_UnknownFolk => k_is); (case ga_UnknownFolk => k_is); (case gg_UnknownFolk => k_is)
    (case sb_UnknownFolk => k_is); (case hd_UnknownFolk => k_is); (case cl_UnknownFolk => k_is); (case mr_UnknownFolk => k_is); (case ty_UnknownFolk => k_is); (case ic_UnknownFolk => k_is)
    (case ss_UnknownFolk => k_is); (case a_SelfWatch => k_is); (case ga_SelfWatch => k_is); (case gg_SelfWatch => k_is); (case sb_SelfWatch => k_is); (case hd_SelfWatch => k_is)
    (case cl_SelfWatch => k_is); (case mr_SelfWatch => k_is); (case ty_SelfWatch => k_is); (case ic_SelfWatch => k_is); (case ss_SelfWatch => k_is); (case a_BadText => k_is)
    (case ga_BadText => k_is); (case gg_BadText => k_is); (case sb_BadText => k_is); (case hd_BadText => k_is); (case cl_BadText => k_is); (case mr_BadText => k_is)
    (case ty_BadText => k_is); (case ic_BadText => k_is); (case ss_BadText => k_is); (case a_BorderWatch => k_is); (case ga_BorderWatch => k_is); (case gg_BorderWatch => k_is)
    (case sb_BorderWatch => k_is); (case hd_BorderWatch => k_is); (case cl_BorderWatch => k_is); (case mr_BorderWatch => k_is); (case ty_BorderWatch => k_is); (case ic_BorderWatch => k_is)
    (case ss_BorderWatch => k_is); (case xL_BadName => k_is); (case sa_BadName => k_is); (case kc_BadName => k_is); (case iC_BadName => k_is); (case tI_BadName => k_is)
    (case no_BadName_0 => k_is); (case rv_BadName => first | rfl | decide +kernel); (case xL_BadNumber => k_is); (case sa_BadNumber => k_is); (case kc_BadNumber => k_is); (case iC_BadNumber => k_is)
    (case tI_BadNumber => k_is); (case no_BadNumber_0 => k_is); (case rv_BadNumber => first | rfl | decide +kernel); (case xL_BadCount => k_is); (case sa_BadCount => k_is); (case kc_BadCount => k_is)
    (case iC_BadCount => k_is); (case tI_BadCount => k_is); (case no_BadCount_0 => k_is); (case no_BadCount_1 => k_is); (case rv_BadCount => first | rfl | decide +kernel); (case xL_Repeated => k_is)
    (case sa_Repeated => k_is); (case kc_Repeated => k_is); (case iC_Repeated => k_is); (case tI_Repeated => k_is); (case no_Repeated_0 => k_is); (case rv_Repeated => first | rfl | decide +kernel)
    (case xL_UnknownFolk => k_is); (case sa_UnknownFolk => k_is); (case kc_UnknownFolk => k_is); (case iC_UnknownFolk => k_is); (case tI_UnknownFolk => k_is); (case no_UnknownFolk_0 => k_is)
    (case rv_UnknownFolk => first | rfl | decide +kernel); (case xL_SelfWatch => k_is); (case sa_SelfWatch => k_is); (case kc_SelfWatch => k_is); (case iC_SelfWatch => k_is); (case tI_SelfWatch => k_is)
    (case no_SelfWatch_0 => k_is); (case rv_SelfWatch => first | rfl | decide +kernel); (case xL_BadText => k_is); (case sa_BadText => k_is); (case kc_BadText => k_is); (case iC_BadText => k_is)
    (case tI_BadText => k_is); (case no_BadText_0 => k_is); (case rv_BadText => first | rfl | decide +kernel); (case xL_BorderWatch => k_is); (case sa_BorderWatch => k_is); (case kc_BorderWatch => k_is)
    (case iC_BorderWatch => k_is); (case tI_BorderWatch => k_is); (case no_BorderWatch_0 => k_is); (case no_BorderWatch_1 => k_is); (case rv_BorderWatch => first | rfl | decide +kernel); (case sub_BadName_DrowseError => k_is)
    (case sub_BadName_BadText => k_is); (case sub_BadName_BadCount => k_is); (case sub_BadName_BadNumber => k_is); (case sub_BadName_Repeated => k_is); (case sub_BadName_UnknownFolk => k_is); (case sub_BadNumber_DrowseError => k_is)
    (case sub_BadNumber_BadText => k_is); (case sub_BadNumber_BadCount => k_is); (case sub_BadNumber_BadName => k_is); (case sub_BadNumber_Repeated => k_is); (case sub_BadNumber_UnknownFolk => k_is); (case sub_BadCount_DrowseError => k_is)
    (case sub_BadCount_BadText => k_is); (case sub_BadCount_BadName => k_is); (case sub_BadCount_BadNumber => k_is); (case sub_BadCount_Repeated => k_is); (case sub_BadCount_UnknownFolk => k_is); (case sub_Repeated_DrowseError => k_is)
    (case sub_Repeated_BadText => k_is); (case sub_Repeated_BadCount => k_is); (case sub_Repeated_BadName => k_is); (case sub_Repeated_BadNumber => k_is); (case sub_Repeated_UnknownFolk => k_is); (case sub_UnknownFolk_DrowseError => k_is)
    (case sub_UnknownFolk_BadText => k_is); (case sub_UnknownFolk_BadCount => k_is); (case sub_UnknownFolk_BadName => k_is); (case sub_UnknownFolk_BadNumber => k_is); (case sub_UnknownFolk_Repeated => k_is); (case sub_SelfWatch_DrowseError => k_is)
    (case sub_SelfWatch_BadText => k_is); (case sub_SelfWatch_BadCount => k_is); (case sub_SelfWatch_BadName => k_is); (case sub_SelfWatch_BadNumber => k_is); (case sub_SelfWatch_Repeated => k_is); (case sub_SelfWatch_UnknownFolk => k_is)
    (case sub_BadText_DrowseError => k_is); (case sub_BadText_BadCount => k_is); (case sub_BadText_BadName => k_is); (case sub_BadText_BadNumber => k_is); (case sub_BadText_Repeated => k_is); (case sub_BadText_UnknownFolk => k_is)
    (case sub_BorderWatch_DrowseError => k_is); (case sub_BorderWatch_BadText => k_is); (case sub_BorderWatch_BadCount => k_is); (case sub_BorderWatch_BadName => k_is); (case sub_BorderWatch_BadNumber => k_is); (case sub_BorderWatch_Repeated => k_is)
    (case sub_BorderWatch_UnknownFolk => k_is); (case a0 => k_is); (case l0 => k_is); (case c0 => k_is); (case k0 => k_is); (case l1 => k_is)
    (case c1 => k_is); (case k1 => k_is); (case l2 => k_is); (case c2 => k_is); (case k2 => k_is); (case l3 => k_is)
    (case c3 => k_is); (case k3 => k_is); (case l4 => k_is); (case c4 => k_is); (case k4 => k_is); (case l5 => k_is)
    (case c5 => k_is); (case k5 => k_is); (case l6 => k_is); (case c6 => k_is); (case k6 => k_is); (case l7 => k_is)
    (case c7 => k_is); (case k7 => k_is); (case l8 => k_is); (case c8 => k_is); (case k8 => k_is); (case a9 => k_is)
    (case l9 => k_is); (case c9 => k_is); (case k9 => k_is); (case a10 => k_is); (case l10 => k_is); (case c10 => k_is)
    (case k10 => k_is); (case a11 => k_is); (case l11 => k_is); (case c11 => k_is); (case k11 => k_is); (case a12 => k_is)
    (case l12 => k_is); (case c12 => k_is); (case k12 => k_is); (case a13 => k_is); (case l13 => k_is); (case c13 => k_is)
    (case k13 => k_is); (case a14 => k_is); (case l14 => k_is); (case c14 => k_is); (case k14 => k_is); (case a15 => k_is)
    (case l15 => k_is); (case c15 => k_is); (case k15 => k_is); (case a16 => k_is); (case l16 => k_is); (case c16 => k_is)
    (case k16 => k_is); (case a17 => k_is); (case l17 => k_is); (case c17 => k_is); (case k17 => k_is); (case a18 => k_is)
    (case n18 => k_is); (case l18 => k_is); (case c18 => k_is); (case k18 => k_is); (case lT18 => k_is); (case ld18 => k_is)
    (case a19 => k_is); (case g19 => k_is); (case t19 => k_is); (case r19 => k_is); (case l19 => k_is); (case c19 => k_is)
    (case k19 => k_is); (case a20 => k_is); (case g20 => k_is); (case t20 => k_is); (case r20 => k_is); (case l20 => k_is)
    (case c20 => k_is); (case k20 => k_is); (case a21 => k_is); (case l21 => k_is); (case c21 => k_is); (case k21 => k_is)
    (case a22 => k_is); (case l22 => k_is); (case c22 => k_is); (case k22 => k_is); (case a23 => k_is); (case l23 => k_is)
    (case c23 => k_is); (case k23 => k_is); (case a24 => k_is); (case l24 => k_is); (case c24 => k_is); (case k24 => k_is)
    (case a25 => k_is); (case l25 => k_is); (case c25 => k_is); (case k25 => k_is); (case a26 => k_is); (case l26 => k_is)
    (case c26 => k_is); (case k26 => k_is); (case a27 => k_is); (case l27 => k_is); (case c27 => k_is); (case k27 => k_is)
    (case a28 => k_is); (case l28 => k_is); (case c28 => k_is); (case k28 => k_is); (case a29 => k_is); (case l29 => k_is)
    (case c29 => k_is); (case k29 => k_is); (case a30 => k_is); (case l30 => k_is); (case c30 => k_is); (case k30 => k_is)
    (case a31 => k_is); (case l31 => k_is); (case c31 => k_is); (case k31 => k_is); (case a32 => k_is); (case l32 => k_is)
    (case c32 => k_is); (case k32 => k_is); (case a33 => k_is); (case l33 => k_is); (case c33 => k_is); (case k33 => k_is)
    (case a34 => k_is); (case l34 => k_is); (case c34 => k_is); (case k34 => k_is); (case a35 => k_is); (case l35 => k_is)
    (case c35 => k_is); (case k35 => k_is); (case a36 => k_is); (case l36 => k_is); (case c36 => k_is); (case k36 => k_is)
    (case a37 => k_is); (case l37 => k_is); (case c37 => k_is); (case k37 => k_is); (case a38 => k_is); (case l38 => k_is)
    (case c38 => k_is); (case k38 => k_is); (case a39 => k_is); (case l39 => k_is); (case c39 => k_is); (case k39 => k_is)
    (case a40 => k_is); (case l40 => k_is); (case c40 => k_is); (case k40 => k_is); (case a41 => k_is); (case l41 => k_is)
    (case c41 => k_is); (case k41 => k_is); (case a42 => k_is); (case l42 => k_is); (case c42 => k_is); (case tq42 => first | kernel_rfl | decide +kernel)
    (case k42 => k_is); (case a43 => k_is); (case l43 => k_is); (case c43 => k_is); (case k43 => k_is); (case a44 => k_is)
    (case l44 => k_is); (case c44 => k_is); (case k44 => k_is); (case a45 => k_is); (case l45 => k_is); (case c45 => k_is)
    (case k45 => k_is); (case a46 => k_is); (case l46 => k_is); (case c46 => k_is); (case k46 => k_is); (case a47 => k_is)
    (case l47 => k_is); (case c47 => k_is); (case k47 => k_is); (case a48 => k_is); (case l48 => k_is); (case c48 => k_is)
    (case k48 => k_is); (case a49 => k_is); (case l49 => k_is); (case c49 => k_is); (case k49 => k_is); (case a50 => k_is)
    (case l50 => k_is); (case c50 => k_is); (case k50 => k_is); (case a51 => k_is); (case l51 => k_is); (case c51 => k_is)
    (case k51 => k_is); (case a52 => k_is); (case l52 => k_is); (case c52 => k_is); (case k52 => k_is); (case a53 => k_is)
    (case l53 => k_is); (case c53 => k_is); (case k53 => k_is); (case a54 => k_is); (case l54 => k_is); (case c54 => k_is)
    (case k54 => k_is); (case a55 => k_is); (case l55 => k_is); (case c55 => k_is); (case k55 => k_is); (case a56 => k_is)
    (case l56 => k_is); (case c56 => k_is); (case k56 => k_is); (case z_all => k_is); (case z_bool => k_is); (case z_enumerate => k_is)
    (case z_int => k_is); (case z_isinstance => k_is); (case z_iter => k_is); (case z_len => k_is); (case z_list => k_is); (case z_max => k_is)
    (case z_range => k_is); (case z_sorted => k_is); (case z_str => k_is); (case z_sum => k_is); (case z_tuple => k_is); (case y_MOST_FOLK => k_is)
    (case y_MOST_NUMBER => k_is); (case y_MOST_WATCHES => k_is); (case y_LETTERS => k_is); (case y_LETTERS_AND_DIGITS => k_is); (case y_LONGEST_NAME => k_is); (case y_MOST_DIGITS => k_is)
    (case tk => first | kernel_rfl | decide +kernel)
