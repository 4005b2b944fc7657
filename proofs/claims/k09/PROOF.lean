import PyProof.Rows.All
import Wide.All
import OpenK.AllK
import Wide.FinOn
import PyProof.StrOps2
import HandS.ForMost
import HandS.IsInst
import HandS.Style
import HandS.Wide
import HandS.Evl
import HandS.Flt
import HandS.RaiseMore
import HandS.Deep
import HandS.ExcInit
import HandS.ExcField
import HandS.ExcIs
import HandS.WordsExc
import HandS.Property
import HandS.Dict
import HandS.DictTup
import HandS.Iter
import HandS.SortRule
import HandS.OwnIter
import HandS.Strs
import HandS.TryOnly
import HandS.Walk
import HandS.Conv
import PyProof.CollectIter
import PyProof.WalksMore
import HandS.IterNext
import HandS.TupAny
import HandS.CallSlots
import HandS.WideBits
import KE.OsArith
import KE.IntBitsLaws
import HandS.Defaults
import HandS.ExcOwn
import HandS.HotCalls
import HandS.More
import PyProof.EqAt
import PyProof.NeKinds
import PyProof.EnumMake
import KE.GoesMore
import KE.GoesEnumKw
import KE.SortData
import KE.SortKeyHeap
import KE.DataCmp
import HandS.SortKw
import HandS.SortInts
import HandS.Lambda
import HandS.EndTab
import KE.KNestM
import HandS.DeepEq
import HandS.OwnEq
import HandS.FStr
import HandS.Text
import HandS.ReplaceLit
import PySem.Challenge.RW_drowsefolk_k09_text_of_a_world_reads_bac
set_option Elab.async false
set_option linter.all false
set_option maxRecDepth 100000
set_option maxHeartbeats 4000000
namespace My
open PySem PySem.Spec PyProof.Rows L2
/-- what is left of a reading behind one step, found by its head -/
class Nx (P : Prop) (R : outParam Prop) : Prop where
  go : R → P
end My
namespace My
open PySem PySem.Spec PyProof.Rows L2
section
variable {K : PySem.W.Frag} {σ : L2.St} {H : Hp} {Q : VK} {ta tb tc te : TE} {v x y : V} {t u : TS} {r : R2} {nx bk ct : L2.St → Hp → Prop} {rt : VK} {tq : Bool → Hp → Prop} {cc : TT}
theorem i_var {i : Nat} (h : σ[i]? = some (some v)) (q : Q v H) : tVar i σ H Q := ⟨v, h, q⟩
theorem i_c (q : Q v H) : tC v σ H Q := q
instance : Nx (tC v σ H Q) (Q v H) := ⟨i_c⟩
theorem i_op (q : ta σ H fun x H1 => tb σ H1 fun y H2 => r x y H2 Q) : tOp r ta tb σ H Q := q
instance : Nx (tOp r ta tb σ H Q) (ta σ H fun x H1 => tb σ H1 fun y H2 => r x y H2 Q) := ⟨i_op⟩
theorem i_un {r : V → Hp → VK → Prop} (q : ta σ H fun x H1 => r x H1 Q) : tUn r ta σ H Q := q
instance {r : V → Hp → VK → Prop} : Nx (tUn r ta σ H Q) (ta σ H fun x H1 => r x H1 Q) := ⟨i_un⟩
theorem i_I0 {g : Int → Int → V} {i j : Int} (q : Q (g i j) H) : rI0 g (.int i) (.int j) H Q := ⟨i, j, rfl, rfl, q⟩
theorem i_I {C : Int → Int → Prop} {g : Int → Int → V} {i j : Int} (c : C i j) (q : Q (g i j) H) : rI C g (.int i) (.int j) H Q := ⟨i, j, rfl, rfl, c, q⟩
theorem i_U {g : Int → V} {i : Int} (q : Q (g i) H) : rU g (.int i) H Q := ⟨i, rfl, q⟩
theorem i_eq (h : scal x y = true) (q : Q (.bl (decide (x = y))) H) : rEq x y H Q := ⟨h, q⟩
theorem i_ne (h : scal x y = true) (q : Q (.bl (!decide (x = y))) H) : rNe x y H Q := ⟨h, q⟩
theorem i_test (q : te σ H fun x H' => ∃ k, x = .bl k ∧ tq k H') : tTest te σ H tq := q
instance : Nx (tTest te σ H tq) (te σ H fun x H' => ∃ k, x = .bl k ∧ tq k H') := ⟨i_test⟩
theorem i_B (q : te σ H fun x H' => ∃ k, x = .bl k ∧ tq k H') : tB te σ H tq := q
instance : Nx (tB te σ H tq) (te σ H fun x H' => ∃ k, x = .bl k ∧ tq k H') := ⟨i_B⟩
theorem i_bl {P : Bool → Prop} {b : Bool} (q : P b) : ∃ k, V.bl b = .bl k ∧ P k := ⟨b, rfl, q⟩
instance {P : Bool → Prop} {b : Bool} : Nx (∃ k, V.bl b = .bl k ∧ P k) (P b) := ⟨i_bl⟩
theorem i_and {t u : TT} (q : t σ H fun c H1 => if c = true then u σ H1 tq else tq false H1) : tAnd t u σ H tq := q
instance {t u : TT} : Nx (tAnd t u σ H tq) (t σ H fun c H1 => if c = true then u σ H1 tq else tq false H1) := ⟨i_and⟩
theorem i_or {t u : TT} (q : t σ H fun c H1 => if c = true then tq true H1 else u σ H1 tq) : tOr t u σ H tq := q
instance {t u : TT} : Nx (tOr t u σ H tq) (t σ H fun c H1 => if c = true then tq true H1 else u σ H1 tq) := ⟨i_or⟩
theorem i_not (q : cc σ H fun c H1 => tq (!c) H1) : tNot cc σ H tq := q
instance : Nx (tNot cc σ H tq) (cc σ H fun c H1 => tq (!c) H1) := ⟨i_not⟩
theorem i_andV (q : ta σ H fun x H1 => ∃ c, x = .bl c ∧ if c = true then tb σ H1 Q else Q (.bl false) H1) : tAndV ta tb σ H Q := q
instance : Nx (tAndV ta tb σ H Q) (ta σ H fun x H1 => ∃ c, x = .bl c ∧ if c = true then tb σ H1 Q else Q (.bl false) H1) := ⟨i_andV⟩
theorem i_orV (q : ta σ H fun x H1 => ∃ c, x = .bl c ∧ if c = true then Q (.bl true) H1 else tb σ H1 Q) : tOrV ta tb σ H Q := q
instance : Nx (tOrV ta tb σ H Q) (ta σ H fun x H1 => ∃ c, x = .bl c ∧ if c = true then Q (.bl true) H1 else tb σ H1 Q) := ⟨i_orV⟩
theorem i_notV (q : ta σ H fun x H1 => ∃ c, x = .bl c ∧ Q (.bl (!c)) H1) : tNotV ta σ H Q := q
instance : Nx (tNotV ta σ H Q) (ta σ H fun x H1 => ∃ c, x = .bl c ∧ Q (.bl (!c)) H1) := ⟨i_notV⟩
theorem i_ifE (q : cc σ H fun c H1 => if c = true then ta σ H1 Q else tb σ H1 Q) : tIf cc ta tb σ H Q := q
instance : Nx (tIf cc ta tb σ H Q) (cc σ H fun c H1 => if c = true then ta σ H1 Q else tb σ H1 Q) := ⟨i_ifE⟩
theorem i_chain {r r' : R2} (q : ta σ H fun x H1 => tb σ H1 fun y H2 => r x y H2 fun z H3 => ∃ k, z = .bl k ∧ (if k = true then tc σ H3 fun w' H4 => r' y w' H4 Q else Q (.bl false) H3)) : tChain r r' ta tb tc σ H Q := q
instance {r r' : R2} : Nx (tChain r r' ta tb tc σ H Q) (ta σ H fun x H1 => tb σ H1 fun y H2 => r x y H2 fun z H3 => ∃ k, z = .bl k ∧ (if k = true then tc σ H3 fun w' H4 => r' y w' H4 Q else Q (.bl false) H3)) := ⟨i_chain⟩
theorem i_seq (q : t ⟨u ⟨nx, rt, bk, ct⟩, rt, bk, ct⟩ σ H) : tSeq t u ⟨nx, rt, bk, ct⟩ σ H := q
instance : Nx (tSeq t u ⟨nx, rt, bk, ct⟩ σ H) (t ⟨u ⟨nx, rt, bk, ct⟩, rt, bk, ct⟩ σ H) := ⟨i_seq⟩
theorem i_asg {g : TG} (q : te σ H fun x H1 => g x σ H1 nx) : tAsg te g ⟨nx, rt, bk, ct⟩ σ H := q
instance {g : TG} : Nx (tAsg te g ⟨nx, rt, bk, ct⟩ σ H) (te σ H fun x H1 => g x σ H1 nx) := ⟨i_asg⟩
theorem i_gname {i : Nat} {R : L2.St → Hp → Prop} (q : R (σ.set i (some v)) H) : gName i v σ H R := q
instance {i : Nat} {R : L2.St → Hp → Prop} : Nx (gName i v σ H R) (R (σ.set i (some v)) H) := ⟨i_gname⟩
theorem i_drop (q : te σ H fun _ H1 => nx σ H1) : tDrop te ⟨nx, rt, bk, ct⟩ σ H := q
instance : Nx (tDrop te ⟨nx, rt, bk, ct⟩ σ H) (te σ H fun _ H1 => nx σ H1) := ⟨i_drop⟩
theorem i_ret (q : te σ H rt) : tRet te ⟨nx, rt, bk, ct⟩ σ H := q
instance : Nx (tRet te ⟨nx, rt, bk, ct⟩ σ H) (te σ H rt) := ⟨i_ret⟩
theorem i_if (q : cc σ H fun b H1 => if b = true then t ⟨nx, rt, bk, ct⟩ σ H1 else u ⟨nx, rt, bk, ct⟩ σ H1) : tIfS cc t u ⟨nx, rt, bk, ct⟩ σ H := q
instance : Nx (tIfS cc t u ⟨nx, rt, bk, ct⟩ σ H) (cc σ H fun b H1 => if b = true then t ⟨nx, rt, bk, ct⟩ σ H1 else u ⟨nx, rt, bk, ct⟩ σ H1) := ⟨i_if⟩
theorem i_next (q : nx σ H) : tNext ⟨nx, rt, bk, ct⟩ σ H := q
instance : Nx (tNext ⟨nx, rt, bk, ct⟩ σ H) (nx σ H) := ⟨i_next⟩
theorem i_break (q : bk σ H) : tBreak ⟨nx, rt, bk, ct⟩ σ H := q
instance : Nx (tBreak ⟨nx, rt, bk, ct⟩ σ H) (bk σ H) := ⟨i_break⟩
theorem i_cont (q : ct σ H) : tCont ⟨nx, rt, bk, ct⟩ σ H := q
instance : Nx (tCont ⟨nx, rt, bk, ct⟩ σ H) (ct σ H) := ⟨i_cont⟩
theorem i_retN (q : rt .non H) : tRetN ⟨nx, rt, bk, ct⟩ σ H := q
instance : Nx (tRetN ⟨nx, rt, bk, ct⟩ σ H) (rt .non H) := ⟨i_retN⟩
theorem i_call {sp : Sp} {dvs : List V} {E : XK} {ta : TA} (q : ta σ H fun vs H1 => sp (vs ++ dvs) H1 Q E) : tCall sp dvs E ta σ H Q := q
instance {sp : Sp} {dvs : List V} {E : XK} {ta : TA} : Nx (tCall sp dvs E ta σ H Q) (ta σ H fun vs H1 => sp (vs ++ dvs) H1 Q E) := ⟨i_call⟩
theorem i_cons {tr : TA} {R : List V → Hp → Prop} (q : ta σ H fun x H1 => tr σ H1 fun xs H2 => R (x :: xs) H2) : tCons ta tr σ H R := q
instance {tr : TA} {R : List V → Hp → Prop} : Nx (tCons ta tr σ H R) (ta σ H fun x H1 => tr σ H1 fun xs H2 => R (x :: xs) H2) := ⟨i_cons⟩
theorem i_nil {R : List V → Hp → Prop} (q : R [] H) : tNil σ H R := q
instance {R : List V → Hp → Prop} : Nx (tNil σ H R) (R [] H) := ⟨i_nil⟩
theorem i_CB {r : List V → Hp → VK → Prop} {ta : TA} (q : ta σ H fun vs H1 => r vs H1 Q) : tCB r ta σ H Q := q
instance {r : List V → Hp → VK → Prop} {ta : TA} : Nx (tCB r ta σ H Q) (ta σ H fun vs H1 => r vs H1 Q) := ⟨i_CB⟩
def LstEnd (Q : VK) (xs : List V) (H1 : Hp) : Prop := xs.length ≤ sizeLine ∧ ∀ p, H1 p = none → Q (.ref p) (upd H1 p (.lst xs))
def TupEnd (Q : VK) (xs : List V) (H1 : Hp) : Prop := xs.length ≤ sizeLine ∧ ∀ p, H1 p = none → Q (.ref p) (upd H1 p (.tup xs))
theorem i_lst {ta : TA} (q : ta σ H fun xs H1 => LstEnd Q xs H1) : tLst ta σ H Q := q
instance {ta : TA} : Nx (tLst ta σ H Q) (ta σ H fun xs H1 => LstEnd Q xs H1) := ⟨i_lst⟩
theorem i_tup {ta : TA} (q : ta σ H fun xs H1 => TupEnd Q xs H1) : tTup ta σ H Q := q
instance {ta : TA} : Nx (tTup ta σ H Q) (ta σ H fun xs H1 => TupEnd Q xs H1) := ⟨i_tup⟩
theorem i_gsub {w : TSet} {R : L2.St → Hp → Prop} (q : ta σ H fun o H1 => tb σ H1 fun i H2 => w o i v H2 fun H3 => R σ H3) : gSub ta tb w v σ H R := q
instance {w : TSet} {R : L2.St → Hp → Prop} : Nx (gSub ta tb w v σ H R) (ta σ H fun o H1 => tb σ H1 fun i H2 => w o i v H2 fun H3 => R σ H3) := ⟨i_gsub⟩
theorem i_setL {p : Addr} {xs : List V} {k : Int} {j : Nat} {R : Hp → Prop} (h : H p = some (.lst xs)) (hk : ixN xs.length k = some j) (q : R (upd H p (.lst (xs.set j v)))) : rSetL (.ref p) (.int k) v H R := ⟨p, xs, k, j, rfl, rfl, h, hk, q⟩
theorem i_ixL {p : Addr} {xs : List V} {i : Int} (h : SqL K H p xs) (ha : atI xs i = some v) (q : Q v H) : rIxL K (.ref p) (.int i) H Q := ⟨p, xs, i, v, rfl, rfl, h, ha, q⟩
theorem i_ixT {p : Addr} {xs : List V} {i : Int} (h : SqT K H p xs) (ha : atI xs i = some v) (q : Q v H) : rIxT K (.ref p) (.int i) H Q := ⟨p, xs, i, v, rfl, rfl, h, ha, q⟩
theorem i_ixS {z : Str} {i : Int} {c : Nat} (h : z.length ≤ sizeLine) (ha : atI z.cps.toList i = some c) (q : Q (.str ⟨#[c]⟩) H) : rIxS (.str z) (.int i) H Q := ⟨z, i, c, rfl, rfl, h, ha, q⟩
theorem i_sl {r : V → Option Int → Option Int → Hp → VK → Prop} {tl th : TO} (q : te σ H fun x H1 => tl σ H1 fun l H2 => th σ H2 fun u H3 => r x l u H3 Q) : tSl r te tl th σ H Q := q
instance {r : V → Option Int → Option Int → Hp → VK → Prop} {tl th : TO} : Nx (tSl r te tl th σ H Q) (te σ H fun x H1 => tl σ H1 fun l H2 => th σ H2 fun u H3 => r x l u H3 Q) := ⟨i_sl⟩
theorem sqL {p : Addr} {xs : List V} (h : H p = some (.lst xs)) : SqL K H p xs := .inl (.inl h)
theorem sqT {p : Addr} {xs : List V} (h : H p = some (.tup xs)) : SqT K H p xs := .inl (.inl h)
theorem i_ite {b : Bool} {A B : Prop} (h1 : b = true → A) (h2 : b = false → B) : if b = true then A else B := by
  cases b with
  | true => exact h1 rfl
  | false => exact h2 rfl
/-- the rest of a for over range(n), once its argument is known -/
def FR1 (j : Nat) (tb : TS) (nx : L2.St → Hp → Prop) (rt : VK) (σ : L2.St) : List V → Hp → Prop := fun vs H1 => tFor (iRng1 fun _ H R => R vs H) (gName j) tb ⟨nx, rt, fun _ _ => False, fun _ _ => False⟩ σ H1
theorem i_forR {ta : TA} {j : Nat} {tb : TS} (q : ta σ H fun vs H1 => FR1 j tb nx rt σ vs H1) : tFor (iRng1 ta) (gName j) tb ⟨nx, rt, bk, ct⟩ σ H := q
instance {ta : TA} {j : Nat} {tb : TS} : Nx (tFor (iRng1 ta) (gName j) tb ⟨nx, rt, bk, ct⟩ σ H) (ta σ H fun vs H1 => FR1 j tb nx rt σ vs H1) := ⟨i_forR⟩
theorem fr1 {j : Nat} {tb : TS} {n : Int} (h1 : -(2 ^ 62) ≤ n) (h2 : n < 2 ^ 62) (Pv : Nat → L2.St → Hp → Prop) (p0 : Pv 0 σ H)
    (ps : ∀ i σ' H', i < n.toNat → Pv i σ' H' → tb ⟨Pv (i + 1), rt, nx, Pv (i + 1)⟩ (σ'.set j (some (.int (i : Int)))) H') (pd : ∀ σ' H', Pv n.toNat σ' H' → nx σ' H') : FR1 j tb nx rt σ [.int n] H := by
  refine ⟨n, rfl, h1, h2, for_range (D := ⟨nx, rt, fun _ _ => False, fun _ _ => False⟩) (lo := 0) (n := n.toNat) Pv p0 (fun i σ' H' hi p => ?_) pd⟩
  show tb _ (σ'.set j (some (.int ((0 : Int) + (i : Int))))) H'
  rw [Int.zero_add]
  exact ps i σ' H' hi p
/-- .. of a for over a list -/
def FL (K : PySem.W.Frag) (g : TG) (tb : TS) (nx : L2.St → Hp → Prop) (rt : VK) (σ : L2.St) : V → Hp → Prop := fun x H1 => tFor (iList K fun _ H R => R x H) g tb ⟨nx, rt, fun _ _ => False, fun _ _ => False⟩ σ H1
theorem i_forL {g : TG} {tb : TS} (q : te σ H fun x H1 => FL K g tb nx rt σ x H1) : tFor (iList K te) g tb ⟨nx, rt, bk, ct⟩ σ H := q
instance {g : TG} {tb : TS} : Nx (tFor (iList K te) g tb ⟨nx, rt, bk, ct⟩ σ H) (te σ H fun x H1 => FL K g tb nx rt σ x H1) := ⟨i_forL⟩
theorem fl {g : TG} {tb : TS} {a : Addr} {xs : List V} (h : SqL K H a xs) (Pv : Nat → L2.St → Hp → Prop) (p0 : Pv 0 σ H) (hl : ∀ i σ' H', i ≤ xs.length → Pv i σ' H' → SqL K H' a xs)
    (ps : ∀ i x σ' H', xs[i]? = some x → Pv i σ' H' → g x σ' H' fun σ2 H2 => tb ⟨Pv (i + 1), rt, nx, Pv (i + 1)⟩ σ2 H2) (pd : ∀ σ' H', Pv xs.length σ' H' → nx σ' H') : FL K g tb nx rt σ (.ref a) H :=
  ⟨a, rfl, ⟨xs, h⟩, for_list (D := ⟨nx, rt, fun _ _ => False, fun _ _ => False⟩) (xs := xs) Pv p0 hl ps pd⟩
def LT (j : Nat) (tt : TT) (te : TE) (vs : List Nat) (σ : L2.St) (Dl : Addr) (Nx : Hp → Prop) (x : V) (H : Hp) : Prop :=
  wipe ((wipe σ vs).set j (some x)) vs = wipe σ vs ∧ tt ((wipe σ vs).set j (some x)) H fun b H3 => if b = true then te ((wipe σ vs).set j (some x)) H3 fun y H4 => ∃ acc, H4 Dl = some (.lst acc) ∧ acc.length < sizeLine ∧ Nx (upd H4 Dl (.lst (acc ++ [y]))) else Nx H3
def CR1 (j : Nat) (tt : TT) (te : TE) (vs : List Nat) (σ : L2.St) (Q : VK) : List V → Hp → Prop := fun us H1 => tLc (iRng1 fun _ H R => R us H) (gName j) tt te vs σ H1 Q
theorem i_lcR {ta : TA} {j : Nat} {tt : TT} {vs : List Nat} (q : ta σ H fun us H1 => CR1 j tt te vs σ Q us H1) : tLc (iRng1 ta) (gName j) tt te vs σ H Q := q
instance {ta : TA} {j : Nat} {tt : TT} {vs : List Nat} : Nx (tLc (iRng1 ta) (gName j) tt te vs σ H Q) (ta σ H fun us H1 => CR1 j tt te vs σ Q us H1) := ⟨i_lcR⟩
theorem cr1 {j : Nat} {tt : TT} {vs : List Nat} {n : Int} (h1 : -(2 ^ 62) ≤ n) (h2 : n < 2 ^ 62) (Pv : Addr → Nat → Hp → Prop) (p0 : ∀ D, H D = none → Pv D 0 (upd H D (.lst [])))
    (ps : ∀ D i H', H D = none → i < n.toNat → Pv D i H' → LT j tt te vs σ D (Pv D (i + 1)) (.int (i : Int)) H') (pd : ∀ D H', H D = none → Pv D n.toNat H' → Q (.ref D) H') : CR1 j tt te vs σ Q [.int n] H := by
  refine ⟨n, rfl, h1, h2, fun D hD => lc_range (lo := 0) (n := n.toNat) (Pv D) (p0 D hD) (fun i H' hi p => ?_) fun H' p => pd D H' hD p⟩
  have e0 : (0 : Int) + (i : Int) = (i : Int) := Int.zero_add _
  rw [e0]
  exact ps D i H' hD hi p
def CL (K : PySem.W.Frag) (g : TG) (tt : TT) (te : TE) (vs : List Nat) (σ : L2.St) (Q : VK) : V → Hp → Prop := fun x H1 => tLc (iList K fun _ H R => R x H) g tt te vs σ H1 Q
theorem i_lcL {g : TG} {tt : TT} {vs : List Nat} (q : ta σ H fun x H1 => CL K g tt te vs σ Q x H1) : tLc (iList K ta) g tt te vs σ H Q := q
instance {g : TG} {tt : TT} {vs : List Nat} : Nx (tLc (iList K ta) g tt te vs σ H Q) (ta σ H fun x H1 => CL K g tt te vs σ Q x H1) := ⟨i_lcL⟩
theorem cl {j : Nat} {tt : TT} {vs : List Nat} {a : Addr} {xs : List V} (h : SqL K H a xs) (Pv : Addr → Nat → Hp → Prop) (p0 : ∀ D, H D = none → Pv D 0 (upd H D (.lst []))) (hl : ∀ D i H', H D = none → i ≤ xs.length → Pv D i H' → SqL K H' a xs)
    (ps : ∀ D i x H', H D = none → xs[i]? = some x → Pv D i H' → LT j tt te vs σ D (Pv D (i + 1)) x H') (pd : ∀ D H', H D = none → Pv D xs.length H' → Q (.ref D) H') : CL K (gName j) tt te vs σ Q (.ref a) H :=
  ⟨a, rfl, ⟨xs, h⟩, fun D hD => lc_list (xs := xs) (Pv D) (p0 D hD) (fun i H' hi p => hl D i H' hD hi p) (fun i x H' hx p => ps D i x H' hD hx p) fun H' p => pd D H' hD p⟩
/-- .. over a text -/
def CS (g : TG) (tt : TT) (te : TE) (vs : List Nat) (σ : L2.St) (Q : VK) : V → Hp → Prop := fun x H1 => tLc (iStr fun _ H R => R x H) g tt te vs σ H1 Q
theorem i_lcS {g : TG} {tt : TT} {vs : List Nat} (q : ta σ H fun x H1 => CS g tt te vs σ Q x H1) : tLc (iStr ta) g tt te vs σ H Q := q
instance {g : TG} {tt : TT} {vs : List Nat} : Nx (tLc (iStr ta) g tt te vs σ H Q) (ta σ H fun x H1 => CS g tt te vs σ Q x H1) := ⟨i_lcS⟩
theorem cs {j : Nat} {tt : TT} {vs : List Nat} {z : Str} (Pv : Addr → Nat → Hp → Prop) (p0 : ∀ D, H D = none → Pv D 0 (upd H D (.lst [])))
    (ps : ∀ D i c H', H D = none → z.cps[i]? = some c → Pv D i H' → LT j tt te vs σ D (Pv D (i + 1)) (.str ⟨#[c]⟩) H') (pd : ∀ D H', H D = none → Pv D z.cps.size H' → Q (.ref D) H') : CS (gName j) tt te vs σ Q (.str z) H := by
  refine ⟨z, rfl, fun D hD => ⟨fun i m H' => m = z.cps.size - i ∧ i ≤ z.cps.size ∧ Pv D i H', ⟨z.cps.size, by simp, Nat.zero_le _, p0 D hD⟩, ?_⟩⟩
  rintro i m H' ⟨rfl, hi, p⟩
  by_cases hlt : i < z.cps.size
  · refine .inr ⟨hlt, Pv D (i + 1), fun H2 p' => ⟨z.cps.size - (i + 1), by omega, rfl, hlt, p'⟩, fun x H2 y => ?_⟩
    obtain ⟨e, c, hc, ex⟩ := y
    subst e ex
    exact ps D i c _ hD hc p
  · have e : i = z.cps.size := by omega
    subst e
    exact .inl ⟨Nat.le_refl _, pd D H' hD p⟩
end
section
variable {X : Cx} {a b c d : Expr} {ta tb tc td : TE} {pos : Pos}
def tChain3 (r r' r'' : R2) (ta tb tc td : TE) : TE := fun σ H Q => ta σ H fun x H1 => tb σ H1 fun y H2 => r x y H2 fun z H3 => ∃ k, z = .bl k ∧
  (if k = true then tc σ H3 fun w H4 => r' y w H4 fun z2 H5 => ∃ k2, z2 = .bl k2 ∧ (if k2 = true then td σ H5 fun w2 H6 => r'' w w2 H6 Q else Q (.bl false) H5) else Q (.bl false) H3)
theorem i_chain3 {r r' r'' : R2} {σ : L2.St} {H : Hp} {Q : VK} (q : ta σ H fun x H1 => tb σ H1 fun y H2 => r x y H2 fun z H3 => ∃ k, z = .bl k ∧
  (if k = true then tc σ H3 fun w H4 => r' y w H4 fun z2 H5 => ∃ k2, z2 = .bl k2 ∧ (if k2 = true then td σ H5 fun w2 H6 => r'' w w2 H6 Q else Q (.bl false) H5) else Q (.bl false) H3)) : tChain3 r r' r'' ta tb tc td σ H Q := q
/-- x * n, both small -/
def rMulS : R2 := fun x y H Q => ∃ (z : Str) (n : Int), x = .str z ∧ y = .int n ∧ 1 ≤ n ∧ n ≤ 1000 ∧ 1 ≤ z.length ∧ z.length ≤ 1000 ∧ Q (.str ⟨(List.replicate n.toNat z.cps).foldl (· ++ ·) #[]⟩) H
theorem op_mul_str : OpR X (binaryOp .Mult) rMulS := by
  intro pins s σ H x y v u Q I rx ry h
  obtain ⟨z, n, rfl, rfl, h2, h3, h1, h4, q⟩ := h
  obtain ⟨t, rfl⟩ := rx
  obtain ⟨t', rfl⟩ := ry
  have hl : ((List.replicate n.toNat z.cps).foldl (· ++ ·) #[]).size = n.toNat * z.cps.size := by
    have key : ∀ (m : Nat) (acc : Array Nat), ((List.replicate m z.cps).foldl (· ++ ·) acc).size = acc.size + m * z.cps.size := by
      intro m
      induction m with
      | zero => intro acc; simp
      | succ m ih =>
        intro acc
        rw [List.replicate_succ, List.foldl_cons, ih, Array.size_append, Nat.succ_mul]
        omega
    rw [key]
    simp
  have hz : z.cps.size = z.length := rfl
  have hb : n.toNat * z.length ≤ 1000000 := Nat.mul_le_mul (by omega : n.toNat ≤ 1000) h4
  refine PySem.P.mul_str ?_ ?_ ?_ ?_
  · rw [decide_eq_false (by omega), decide_eq_false (by omega)] <;> rfl
  · intro _ _
    have : (2 ^ 63 - 1 : Int) / n ≥ 1000 := by
      have := Int.le_ediv_of_mul_le (a := 1000) (b := 2 ^ 63 - 1) (c := n) (by omega) (by omega)
      omega
    omega
  · intro _ _
    unfold Builtin.Str.tooLong
    rw [Nat.mul_comm]
    exact decide_eq_false (by rw [sizeLine_eq]; omega)
  · rw [if_neg (by omega)]
    by_cases e : n = 1
    · have e1 : (n == 1 || z.length == 0) = true := by simp [e]
      rw [e1, if_pos rfl]
      refine ⟨.str _, H, I, ⟨t, ?_⟩, q⟩
      subst e
      have : (List.replicate (1 : Int).toNat z.cps).foldl (· ++ ·) #[] = z.cps := by
        show (#[] ++ z.cps) = z.cps
        simp
      rw [this]
    have e1 : (n == 1 || z.length == 0) = false := by
      have : ¬ z.length = 0 := by omega
      simp [*]
    rw [e1, if_neg (by decide)]
    refine ⟨?_, ⟨.str _, H, I.tok _, ⟨_, rfl⟩, q⟩⟩
    show ((List.replicate n.toNat z.cps).foldl (· ++ ·) #[]).size ≤ sizeLine
    rw [hl, hz, sizeLine_eq]
    omega
end
end My
namespace My
open PySem PySem.Spec PyProof.Rows L2
/-- all that was tracked stands, but what stands at s: there the first item alone -/
structure Fr (s : Addr) (H H' : Hp) : Prop where
  keep : ∀ b o, H b = some o → b ≠ s → H' b = some o
  top : ∀ (q : Addr) (r : List V), H s = some (.lst (.ref q :: r)) → ∃ r', H' s = some (.lst (.ref q :: r'))
section
variable {s p : Addr} {H H1 H2 : Hp} {o : HO}
theorem Fr.refl : Fr s H H := ⟨fun _ _ h _ => h, fun _ r h => ⟨r, h⟩⟩
theorem Fr.trans (a : Fr s H H1) (b : Fr s H1 H2) : Fr s H H2 := ⟨fun c o h n => b.1 c o (a.1 c o h n) n, fun q r h => by
  obtain ⟨r1, h1⟩ := a.2 q r h
  exact b.2 q r1 h1⟩
theorem Fr.new (a : Fr s H H1) (h : H1 p = none) : Fr s H (upd H1 p o) := ⟨fun c u e n => by
  rw [upd_ne (ne_of_none (a.1 c u e n) h)]
  exact a.1 c u e n, fun q r e => by
  obtain ⟨r1, h1⟩ := a.2 q r e
  exact ⟨r1, by rw [upd_ne (ne_of_none h1 h)]; exact h1⟩⟩
theorem Fr.set {q : Addr} {r r2 : List V} (a : Fr s H H1) (h : H1 s = some (.lst (.ref q :: r))) : Fr s H (upd H1 s (.lst (.ref q :: r2))) := ⟨fun c u e n => by
  rw [upd_ne n]
  exact a.1 c u e n, fun q' r' e => by
  obtain ⟨r1, h1⟩ := a.2 q' r' e
  rw [h] at h1
  cases h1
  exact ⟨r2, upd_same⟩⟩
/-- an object that H did not know is written -/
theorem Fr.mut (a : Fr s H H1) (h : H p = none) : Fr s H (upd H1 p o) := ⟨fun c u e n => by
  rw [upd_ne (ne_of_none e h)]
  exact a.1 c u e n, fun q r e => by
  obtain ⟨r1, h1⟩ := a.2 q r e
  exact ⟨r1, by rw [upd_ne (ne_of_none e h)]; exact h1⟩⟩
theorem Fr.same (a : Same H H1) : Fr s H H1 := ⟨fun c u e _ => a c u e, fun q r e => ⟨r, a _ _ e⟩⟩
theorem Fr.free (a : Fr s H H1) (h : H1 p = none) (n : p ≠ s) : H p = none := by
  cases e : H p with
  | none => rfl
  | some u =>
    rw [a.1 p u e n] at h
    cases h
theorem same_new (h : H p = none) : Same H (upd H p o) := fun c u e => by
  rw [upd_ne (ne_of_none e h)]
  exact e
theorem same_mut (a : Same H H1) (h : H p = none) : Same H (upd H1 p o) := fun c u e => by
  rw [upd_ne (ne_of_none e h)]
  exact a c u e
theorem ne_none {H : Hp} {a b : Addr} {o : HO} (h : H a = some o) (h' : H b = none) : b ≠ a := (ne_of_none h h').symm
end
/-- the store of draws stands at s -/
def StOk (H : Hp) (s : Addr) : Prop := ∃ (q : Addr) (ns : List Int) (i1 n2 i3 i4 i5 i6 : Int), H s = some (.lst [.ref q, .int i1, .int n2, .int i3, .int i4, .int i5, .int i6]) ∧ H q = some (.lst (ns.map V.int)) ∧ q ≠ s ∧ 0 ≤ i1
theorem StOk.some {H : Hp} {s : Addr} (h : StOk H s) : ∃ o, H s = Option.some o := by
  obtain ⟨_, _, _, _, _, _, _, _, h, _⟩ := h
  exact ⟨_, h⟩
theorem StOk.ne {H : Hp} {s p : Addr} (h : StOk H s) (n : H p = none) : p ≠ s := by
  obtain ⟨o, e⟩ := h.some
  exact ne_none e n
theorem StOk.keep {H H' : Hp} {s : Addr} (h : StOk H s) (k : ∀ b o, H b = Option.some o → H' b = Option.some o) : StOk H' s := by
  obtain ⟨q, ns, i1, n2, i3, i4, i5, i6, h1, h2, h3, h4⟩ := h
  exact ⟨q, ns, i1, n2, i3, i4, i5, i6, k _ _ h1, k _ _ h2, h3, h4⟩
theorem StOk.same {H H' : Hp} {s : Addr} (h : StOk H s) (k : Same H H') : StOk H' s := h.keep k
theorem StOk.new {H : Hp} {s p : Addr} {o : HO} (h : StOk H s) (n : H p = none) : StOk (upd H p o) s := h.keep (same_new n)
/-- an object written that the store's first heap did not know -/
theorem StOk.mut {H H1 : Hp} {s p : Addr} {o : HO} (h0 : StOk H s) (f : Fr s H H1) (h : StOk H1 s) (n : H p = none) : StOk (upd H1 p o) s := by
  obtain ⟨q0, ns0, a1, a2, a3, a4, a5, a6, g1, g2, g3, g4⟩ := h0
  obtain ⟨q, ns, i1, n2, i3, i4, i5, i6, h1, h2, h3, h4⟩ := h
  obtain ⟨r, e⟩ := f.top _ _ g1
  rw [h1] at e
  cases e
  exact ⟨q0, ns, i1, n2, i3, i4, i5, i6, by rw [upd_ne (ne_of_none g1 n)]; exact h1, by rw [upd_ne (ne_of_none g2 n)]; exact h2, h3, h4⟩
/-- a def of the text as it stands behind the top -/
structure Dn (K : PySem.W.Frag) (mg : Str → Option Value) (x : Str) (st : Stmt) (ps : List Str) (f : Addr) (fd : FuncData) : Prop where
  F : Fun K x x st f fd
  b : Binds K fd ps []
  m : mg x = some (.ref f)
end My
namespace My
open PySem PySem.Spec PyProof.Rows L2
theorem pe_globE {X : Cx} {x : Str} {v : V} {pos : Pos} (hg : Gl X x) (hm : ∃ u, X.mg x = some u ∧ RelV v u) (hd : (x == ("__debug__" : Str)) = false := by decide) : PE X (.Name x pos) (tC v) := by
  obtain ⟨u, h, r⟩ := hm
  exact pe_glob hg h r hd
end My
namespace My
open PySem PySem.Spec PyProof.Rows L2
def rLenQ (K : PySem.W.Frag) : List V → Hp → VK → Prop := fun xs H Q => ∃ p ys, xs = [.ref p] ∧ (SqL K H p ys ∨ SqT K H p ys) ∧ Q (.int ys.length) H
def rLenZ : List V → Hp → VK → Prop := fun xs H Q => ∃ z, xs = [.str z] ∧ z.length ≤ sizeLine ∧ Q (.int z.length) H
def rInt1 : List V → Hp → VK → Prop := fun xs H Q => (∃ i, xs = [.int i] ∧ Q (.int i) H) ∨ ∃ k, xs = [.bl k] ∧ Q (.int (if k then 1 else 0)) H
def rListOf (K : PySem.W.Frag) : List V → Hp → VK → Prop := fun xs H Q => ∃ p ys, xs = [.ref p] ∧ (SqL K H p ys ∨ SqT K H p ys) ∧ ∀ l, H l = none → Q (.ref l) (upd H l (.lst ys))
def rTupOf (K : PySem.W.Frag) : List V → Hp → VK → Prop := fun xs H Q => ∃ p ys, xs = [.ref p] ∧ ((SqL K H p ys ∧ ∀ l, H l = none → Q (.ref l) (upd H l (.tup ys))) ∨ (SqT K H p ys ∧ Q (.ref p) H))
def rMx2 : List V → Hp → VK → Prop := fun xs H Q => ∃ i j, xs = [.int i, .int j] ∧ Q (.int (if j > i then j else i)) H
def rMn2 : List V → Hp → VK → Prop := fun xs H Q => ∃ i j, xs = [.int i, .int j] ∧ Q (.int (if j < i then j else i)) H
def rAddZ : R2 := fun x y H Q => ∃ i j, x = .str i ∧ y = .str j ∧ i.length + j.length ≤ sizeLine ∧ Q (.str (i ++ j)) H
def rInG : R2 := fun x y H Q => ∃ (c : Nat) (z : Str), x = .str ⟨#[c]⟩ ∧ y = .str z ∧ Q (.bl (decide (c ∈ z.cps.toList))) H
def rIsNn : R2 := fun x y H Q => y = .non ∧ Q (.bl (decide (x = .non))) H
def rNotNn : R2 := fun x y H Q => y = .non ∧ Q (.bl (!decide (x = .non))) H
def rUp : V → List V → Hp → VK → Prop := fun x xs H Q => ∃ a, x = .str a ∧ xs = [] ∧ a.length ≤ 5592405 ∧ Q (.str (Txt.upper a)) H
section
variable {X : Cx}
theorem n_lenQ : CallR X (.builtin "len") (rLenQ X.K) := call_len_seq
theorem n_lenZ : CallR X (.builtin "len") rLenZ := call_len_str
theorem n_int : CallR X (.type "int") rInt1 := call_int1
theorem n_list : CallR X (.type "list") (rListOf X.K) := call_list_of
theorem n_tuple : CallR X (.type "tuple") (rTupOf X.K) := call_tuple_of
theorem n_addZ : OpR X (binaryOp .Add) rAddZ := op_add_str
theorem n_inG : OpR X (compareOp .In) rInG := op_in_sign
theorem n_isN : OpR X (compareOp .Is) rIsNn := op_isN
theorem n_upper : MtR X "str.upper" rUp := mt_upper
end
section
variable {K : PySem.W.Frag} {σ : L2.St} {H : Hp} {Q : VK} {x : V} {te : TE} {tq : Bool → Hp → Prop} {R : Option Int → Hp → Prop}
theorem i_lenL {p : Addr} {ys : List V} (h : SqL K H p ys) (q : Q (.int ys.length) H) : rLenQ K [.ref p] H Q := ⟨p, ys, rfl, .inl h, q⟩
theorem i_lenT {p : Addr} {ys : List V} (h : SqT K H p ys) (q : Q (.int ys.length) H) : rLenQ K [.ref p] H Q := ⟨p, ys, rfl, .inr h, q⟩
theorem i_lenZ {z : Str} (h : z.length ≤ 100000) (q : Q (.int z.length) H) : rLenZ [.str z] H Q := ⟨z, rfl, Nat.le_trans h (by decide), q⟩
theorem i_int {i : Int} (q : Q (.int i) H) : rInt1 [.int i] H Q := .inl ⟨i, rfl, q⟩
instance {i : Int} : Nx (rInt1 [.int i] H Q) (Q (.int i) H) := ⟨i_int⟩
theorem i_listL {p : Addr} {ys : List V} (h : SqL K H p ys) (q : ∀ l, H l = none → Q (.ref l) (upd H l (.lst ys))) : rListOf K [.ref p] H Q := ⟨p, ys, rfl, .inl h, q⟩
theorem i_tupL {p : Addr} {ys : List V} (h : SqL K H p ys) (q : ∀ l, H l = none → Q (.ref l) (upd H l (.tup ys))) : rTupOf K [.ref p] H Q := ⟨p, ys, rfl, .inl ⟨h, q⟩⟩
theorem i_max {i j : Int} (q : Q (.int (if j > i then j else i)) H) : rMx2 [.int i, .int j] H Q := ⟨i, j, rfl, q⟩
instance {i j : Int} : Nx (rMx2 [.int i, .int j] H Q) (Q (.int (if j > i then j else i)) H) := ⟨i_max⟩
theorem i_min {i j : Int} (q : Q (.int (if j < i then j else i)) H) : rMn2 [.int i, .int j] H Q := ⟨i, j, rfl, q⟩
instance {i j : Int} : Nx (rMn2 [.int i, .int j] H Q) (Q (.int (if j < i then j else i)) H) := ⟨i_min⟩
theorem i_addZ {i j : Str} (h : i.length + j.length ≤ 100000) (q : Q (.str (i ++ j)) H) : rAddZ (.str i) (.str j) H Q := ⟨i, j, rfl, rfl, Nat.le_trans h (by decide), q⟩
theorem i_inG {c : Nat} {z : Str} (q : Q (.bl (decide (c ∈ z.cps.toList))) H) : rInG (.str ⟨#[c]⟩) (.str z) H Q := ⟨c, z, rfl, rfl, q⟩
instance {c : Nat} {z : Str} : Nx (rInG (.str ⟨#[c]⟩) (.str z) H Q) (Q (.bl (decide (c ∈ z.cps.toList))) H) := ⟨i_inG⟩
theorem i_up {a : Str} (h : a.length ≤ 100000) (q : Q (.str (Txt.upper a)) H) : rUp (.str a) [] H Q := ⟨a, rfl, rfl, Nat.le_trans h (by decide), q⟩
theorem i_BM0 {T : String} {r : V → List V → Hp → VK → Prop} (q : te σ H fun x H1 => tyV K T x H1 ∧ r x [] H1 Q) : tBM0 K T r te σ H Q := q
instance {T : String} {r : V → List V → Hp → VK → Prop} : Nx (tBM0 K T r te σ H Q) (te σ H fun x H1 => tyV K T x H1 ∧ r x [] H1 Q) := ⟨i_BM0⟩
theorem i_BM {T : String} {r : V → List V → Hp → VK → Prop} {ta : TA} (q : te σ H fun x H1 => tyV K T x H1 ∧ ta σ H1 fun xs H2 => r x xs H2 Q) : tBM K T r te ta σ H Q := q
instance {T : String} {r : V → List V → Hp → VK → Prop} {ta : TA} : Nx (tBM K T r te ta σ H Q) (te σ H fun x H1 => tyV K T x H1 ∧ ta σ H1 fun xs H2 => r x xs H2 Q) := ⟨i_BM⟩
theorem i_noPart (q : R none H) : tNoPart σ H R := q
instance : Nx (tNoPart σ H R) (R none H) := ⟨i_noPart⟩
theorem i_part (q : te σ H fun x H1 => ∃ i, x = .int i ∧ R (some i) H1) : tPart te σ H R := q
instance : Nx (tPart te σ H R) (te σ H fun x H1 => ∃ i, x = .int i ∧ R (some i) H1) := ⟨i_part⟩
theorem i_exint {P : Int → Prop} {i : Int} (q : P i) : ∃ k, V.int i = .int k ∧ P k := ⟨i, rfl, q⟩
instance {P : Int → Prop} {i : Int} : Nx (∃ k, V.int i = .int k ∧ P k) (P i) := ⟨i_exint⟩
theorem i_slS {z : Str} {lo hi : Option Int} (h : z.length ≤ 100000) (q : Q (.str (cutS z lo hi)) H) : rSlS (.str z) lo hi H Q := ⟨z, rfl, Nat.le_trans h (by decide), q⟩
theorem i_slL {p : Addr} {xs : List V} {lo hi : Option Int} (h : SqL K H p xs) (q : ∀ l, H l = none → Q (.ref l) (upd H l (.lst (cutV xs lo hi)))) : rSlL K (.ref p) lo hi H Q := ⟨p, xs, rfl, h, q⟩
def RevEnd (K : PySem.W.Frag) (Q : VK) (x : V) (H1 : Hp) : Prop := ∃ a xs, x = .ref a ∧ SqL K H1 a xs ∧ ∀ p, H1 p = none → Q (.ref p) (upd H1 p (.lst xs.reverse))
theorem i_revL (q : te σ H fun x H1 => RevEnd K Q x H1) : tRevL K te σ H Q := q
instance : Nx (tRevL K te σ H Q) (te σ H fun x H1 => RevEnd K Q x H1) := ⟨i_revL⟩
theorem i_yes (q : tq true H) : tYes σ H tq := q
instance : Nx (tYes σ H tq) (tq true H) := ⟨i_yes⟩
theorem i_all {p : Addr} {bs : List Bool} (h : SqL K H p (bs.map V.bl)) (q : Q (.bl (bs.all id)) H) : rAll K [.ref p] H Q := ⟨p, bs, rfl, h, q⟩
theorem i_mulS {z : Str} {n : Int} (h1 : 1 ≤ n ∧ n ≤ 1000) (h2 : 1 ≤ z.length ∧ z.length ≤ 1000) (q : Q (.str ⟨(List.replicate n.toNat z.cps).foldl (· ++ ·) #[]⟩) H) : rMulS (.str z) (.int n) H Q := ⟨z, n, rfl, rfl, h1.1, h1.2, h2.1, h2.2, q⟩
end
theorem len_app (i j : Str) : (i ++ j).length = i.length + j.length := by
  show (i.cps ++ j.cps).size = _
  rw [Array.size_append] <;> rfl
theorem len_one (c : Nat) : (⟨#[c]⟩ : Str).length = 1 := rfl
end My
namespace My
open PySem PySem.Spec PyProof.Rows L2
theorem i_cut {σ : L2.St} {H : Hp} {t u : TS} {nx bk ct : L2.St → Hp → Prop} {rt : VK} (Mid : L2.St → Hp → Prop) (a : t ⟨Mid, rt, bk, ct⟩ σ H) (b : ∀ σ' H', Mid σ' H' → u ⟨nx, rt, bk, ct⟩ σ' H') : Evl.tCut t u ⟨nx, rt, bk, ct⟩ σ H := ⟨Mid, a, b⟩
end My
namespace My
open PySem PySem.Spec PyProof.Rows L2
theorem i_isi1 {K : PySem.W.Frag} {H : Hp} {Q : VK} {x : V} {c tn : String} {b : Bool} (ty : TyX K H x (.type tn)) (e : kitB tn c = some b) (q : Q (.bl b) H) : rIsi K [x, .ty c] H Q := ⟨x, _, _, _, b, rfl, .ty c, ty, kit_ty e, q⟩
theorem i_isi2 {K : PySem.W.Frag} {H : Hp} {Q : VK} {x : V} {c d tn : String} {b b2 : Bool} {p : Addr} (hT : H p = some (.tup [.ty c, .ty d])) (ty : TyX K H x (.type tn)) (e : kitB tn c = some b) (e2 : kitB tn d = some b2) (q : Q (.bl (b || b2)) H) : rIsiT K [x, .ref p] H Q := by
  refine ⟨x, p, _, _, [.type c, .type d], b || b2, rfl, hT, .cons (.ty c) (.cons (.ty d) .nil), ty, ?_, q⟩
  refine kitAny_cons (kit_ty e) (fun h => ?_) (fun h => by rw [h]; rfl)
  refine kitAny_cons (kit_ty e2) (fun h2 => ?_) (fun h2 => by rw [h, h2]; rfl)
  rw [h, h2]
  exact kitAny_nil
end My
namespace My
open PySem PySem.Spec PyProof.Rows L2
theorem i_isi2' {K : PySem.W.Frag} {H : Hp} {Q : VK} {x : V} {c d tn : String} {p : Addr} (b b2 r : Bool) (hT : H p = some (.tup [.ty c, .ty d])) (ty : TyX K H x (.type tn)) (e : kitB tn c = some b) (e2 : kitB tn d = some b2) (er : (b || b2) = r) (q : Q (.bl r) H) : rIsiT K [x, .ref p] H Q := by
  subst er
  exact i_isi2 hT ty e e2 q
theorem i_nF {A B : Prop} (h : A) : if (!false) = true then A else B := h
theorem i_nT {A B : Prop} (h : B) : if (!true) = true then A else B := h
end My
namespace My
open PySem PySem.Spec PyProof.Rows L2
section
variable {H : Hp} {Q : VK}
theorem i_isN_int {i : Int} (q : Q (.bl false) H) : rIsNn (.int i) .non H Q := ⟨rfl, by simpa using q⟩
instance {i : Int} : Nx (rIsNn (.int i) .non H Q) (Q (.bl false) H) := ⟨i_isN_int⟩
theorem i_isN_str {i : Str} (q : Q (.bl false) H) : rIsNn (.str i) .non H Q := ⟨rfl, by simpa using q⟩
instance {i : Str} : Nx (rIsNn (.str i) .non H Q) (Q (.bl false) H) := ⟨i_isN_str⟩
theorem i_isN_bl {i : Bool} (q : Q (.bl false) H) : rIsNn (.bl i) .non H Q := ⟨rfl, by simpa using q⟩
instance {i : Bool} : Nx (rIsNn (.bl i) .non H Q) (Q (.bl false) H) := ⟨i_isN_bl⟩
theorem i_isN_ref {i : Addr} (q : Q (.bl false) H) : rIsNn (.ref i) .non H Q := ⟨rfl, by simpa using q⟩
instance {i : Addr} : Nx (rIsNn (.ref i) .non H Q) (Q (.bl false) H) := ⟨i_isN_ref⟩
theorem i_isN_non (q : Q (.bl true) H) : rIsNn .non .non H Q := ⟨rfl, by simpa using q⟩
instance : Nx (rIsNn .non .non H Q) (Q (.bl true) H) := ⟨i_isN_non⟩
theorem i_notN_int {i : Int} (q : Q (.bl true) H) : rNotNn (.int i) .non H Q := ⟨rfl, by simpa using q⟩
instance {i : Int} : Nx (rNotNn (.int i) .non H Q) (Q (.bl true) H) := ⟨i_notN_int⟩
theorem i_notN_str {i : Str} (q : Q (.bl true) H) : rNotNn (.str i) .non H Q := ⟨rfl, by simpa using q⟩
instance {i : Str} : Nx (rNotNn (.str i) .non H Q) (Q (.bl true) H) := ⟨i_notN_str⟩
theorem i_notN_bl {i : Bool} (q : Q (.bl true) H) : rNotNn (.bl i) .non H Q := ⟨rfl, by simpa using q⟩
instance {i : Bool} : Nx (rNotNn (.bl i) .non H Q) (Q (.bl true) H) := ⟨i_notN_bl⟩
theorem i_notN_ref {i : Addr} (q : Q (.bl true) H) : rNotNn (.ref i) .non H Q := ⟨rfl, by simpa using q⟩
instance {i : Addr} : Nx (rNotNn (.ref i) .non H Q) (Q (.bl true) H) := ⟨i_notN_ref⟩
theorem i_notN_non (q : Q (.bl false) H) : rNotNn .non .non H Q := ⟨rfl, by simpa using q⟩
instance : Nx (rNotNn .non .non H Q) (Q (.bl false) H) := ⟨i_notN_non⟩
end
end My
namespace My
open PySem PySem.Spec PyProof.Rows L2
theorem nbT {b : Bool} (h : (!b) = true) : b = false := by cases b <;> first | rfl | cases h
theorem nbF {b : Bool} (h : (!b) = false) : b = true := by cases b <;> first | rfl | cases h
theorem of_arr {z : Str} {i c : Nat} (h : z.cps[i]? = some c) : z.cps.toList[i]? = some c := by rw [Array.getElem?_toList]; exact h
theorem take_map {α β : Type} {l : List α} {i : Nat} {c : α} (f : α → β) (h : l[i]? = some c) : (l.take (i + 1)).map f = (l.take i).map f ++ [f c] := by
  rw [List.take_add_one, h, List.map_append]
  rfl
theorem take_filter {α : Type} {l : List α} {i : Nat} {c : α} (p : α → Bool) (h : l[i]? = some c) : (l.take (i + 1)).filter p = (l.take i).filter p ++ (if p c = true then [c] else []) := by
  rw [List.take_add_one, h, List.filter_append]
  show _ ++ List.filter p [c] = _
  rw [List.filter_cons]
  split <;> rfl
theorem take_all {α : Type} {l : List α} : l.take l.length = l := List.take_length
end My
namespace My
open PySem PySem.Spec PyProof.Rows L2
/-- a new object, the heap behind it by a name of its own -/
theorem laid {H : Hp} {p : Addr} {o : HO} {G : Hp → Prop} (hp : H p = none) (k : ∀ H1, Same H H1 → H1 p = some o → G H1) : G (upd H p o) := k _ (same_new hp) upd_same
theorem len_cut (z : Str) (lo hi : Option Int) : (cutS z lo hi).length ≤ z.length := cutS_length z lo hi
end My
namespace My
open PySem PySem.Spec PyProof.Rows L2
def rLenV (K : PySem.W.Frag) : List V → Hp → VK → Prop := fun xs H Q => ∃ x n, xs = [x] ∧ LenV K x H n ∧ Q (.int n) H
theorem n_lenV {X : Cx} : CallR X (.builtin "len") (rLenV X.K) := fun pins s σ H xs us Q I r h => call_len pins s σ H xs us Q I r (by
  obtain ⟨x, n, e, l, q⟩ := h
  exact ⟨x, n, e, l, q⟩)
section
variable {K : PySem.W.Frag} {H : Hp} {Q : VK} {A : Prop}
theorem i_lenVL {p : Addr} {ys : List V} (h : SqL K H p ys) (q : Q (.int ys.length) H) : rLenV K [.ref p] H Q := ⟨_, _, rfl, .inl ⟨ys, h, rfl⟩, q⟩
theorem i_lenVT {p : Addr} {ys : List V} (h : SqT K H p ys) (q : Q (.int ys.length) H) : rLenV K [.ref p] H Q := ⟨_, _, rfl, .inr ⟨ys, h, rfl⟩, q⟩
theorem i_lenVS {z : Str} (h : z.length ≤ 100000) (q : Q (.int z.length) H) : rLenV K [.str z] H Q := ⟨_, _, rfl, ⟨Nat.le_trans h (by decide), rfl⟩, q⟩
theorem i_ixAL {p : Addr} {xs : List V} {i : Int} {v : V} (h : SqL K H p xs) (ha : atI xs i = some v) (q : Q v H) : rIx K (.ref p) (.int i) H Q := .inl ⟨p, xs, i, v, rfl, rfl, h, ha, q⟩
theorem i_ixAT {p : Addr} {xs : List V} {i : Int} {v : V} (h : SqT K H p xs) (ha : atI xs i = some v) (q : Q v H) : rIx K (.ref p) (.int i) H Q := .inr (.inl ⟨p, xs, i, v, rfl, rfl, h, ha, q⟩)
theorem i_ixAS {z : Str} {i : Int} {c : Nat} (h : z.length ≤ 100000) (ha : atI z.cps.toList i = some c) (q : Q (.str ⟨#[c]⟩) H) : rIx K (.str z) (.int i) H Q := .inr (.inr ⟨z, i, c, rfl, rfl, Nat.le_trans h (by decide), ha, q⟩)
theorem i_tyS {z : Str} (q : A) : tyV K "str" (.str z) H ∧ A := ⟨rfl, q⟩
instance {z : Str} : Nx (tyV K "str" (.str z) H ∧ A) (A) := ⟨i_tyS⟩
theorem i_tyL {p : Addr} {xs : List V} (h : SqL K H p xs) (q : A) : tyV K "list" (.ref p) H ∧ A := ⟨.inl ⟨rfl, xs, h⟩, q⟩
theorem a_add {i j : Str} (h : i.length + j.length ≤ 100000) (q : ∀ w : Str, w.length = i.length + j.length → Q (.str w) H) : rAddZ (.str i) (.str j) H Q := i_addZ h (q _ (len_app i j))
theorem a_sl {z : Str} {lo hi : Option Int} (h : z.length ≤ 100000) (q : ∀ w : Str, w.length ≤ z.length → Q (.str w) H) : rSlS (.str z) lo hi H Q := i_slS h (q _ (len_cut _ _ _))
theorem a_up {a : Str} (h : a.length ≤ 100000) (q : ∀ w : Str, w.length ≤ 3 * a.length → Q (.str w) H) : rUp (.str a) [] H Q := i_up h (q _ (PyProof.Rows.len_upper a))
theorem a_mul {z : Str} {n : Int} (h1 : 1 ≤ n ∧ n ≤ 1000) (h2 : 1 ≤ z.length ∧ z.length ≤ 1000) (q : ∀ w : Str, w.length = n.toNat * z.length → Q (.str w) H) : rMulS (.str z) (.int n) H Q := i_mulS h1 h2 (q _ (by
  have key : ∀ (m : Nat) (acc : Array Nat), ((List.replicate m z.cps).foldl (· ++ ·) acc).size = acc.size + m * z.cps.size := by
    intro m
    induction m with
    | zero => intro acc; simp
    | succ m ih =>
      intro acc
      rw [List.replicate_succ, List.foldl_cons, ih, Array.size_append, Nat.succ_mul]
      omega
  show ((List.replicate n.toNat z.cps).foldl (· ++ ·) #[]).size = _
  rw [key]
  simp
  rfl))
end
theorem at_str {z : Str} {i : Int} (h0 : 0 ≤ i) (h1 : i < z.length) : ∃ c, atI z.cps.toList i = some c ∧ c ∈ z.cps.toList := by
  have hl : i.toNat < z.cps.toList.length := by
    rw [Array.length_toList]
    show i.toNat < z.length
    omega
  refine ⟨z.cps.toList[i.toNat], ?_, List.getElem_mem hl⟩
  have e : i = ((i.toNat : Nat) : Int) := by omega
  have h := atI_nat (List.getElem?_eq_getElem hl)
  rw [← e] at h
  exact h
end My
namespace My
open PySem PySem.Spec PyProof.Rows L2
section
variable {K : PySem.W.Frag} {H : Hp} {Q : VK} {xs zs : List V}
theorem lst_end (h : xs.length ≤ 100000) (k : ∀ p H1, H p = none → Same H H1 → H1 p = some (.lst xs) → Q (.ref p) H1) : LstEnd Q xs H := ⟨Nat.le_trans h (by decide), fun p hp => k p _ hp (same_new hp) upd_same⟩
theorem tup_end (h : xs.length ≤ 100000) (k : ∀ p H1, H p = none → Same H H1 → H1 p = some (.tup xs) → Q (.ref p) H1) : TupEnd Q xs H := ⟨Nat.le_trans h (by decide), fun p hp => k p _ hp (same_new hp) upd_same⟩
theorem cat_end {a b : Addr} (h1 : H a = some (.lst xs)) (h2 : H b = some (.lst zs)) (h : xs.length + zs.length ≤ 100000) (k : ∀ p H1, H p = none → Same H H1 → H1 p = some (.lst (xs ++ zs)) → Q (.ref p) H1) : rCat (.ref a) (.ref b) H Q :=
  ⟨a, b, xs, zs, rfl, rfl, h1, h2, Nat.le_trans h (by decide), fun p hp => k p _ hp (same_new hp) upd_same⟩
/-- a list of texts, each short -/
def Short (n : Nat) (vs : List V) : Prop := ∀ v ∈ vs, ∃ z : Str, v = .str z ∧ z.length ≤ n
theorem Short.nil {n : Nat} : Short n [] := fun _ h => nomatch h
theorem Short.cons {n : Nat} {z : Str} {vs : List V} (h : z.length ≤ n) (t : Short n vs) : Short n (.str z :: vs) := by
  intro v hv
  rcases List.mem_cons.mp hv with rfl | hv
  · exact ⟨z, rfl, h⟩
  · exact t v hv
theorem Short.app {n : Nat} {xs ys : List V} (a : Short n xs) (b : Short n ys) : Short n (xs ++ ys) := fun v hv => (List.mem_append.mp hv).elim (a v) (b v)
theorem lst_short {n m : Nat} (hs : Short n xs) (hm : xs.length = m) (h : m ≤ 100000) (k : ∀ p ys H1, H p = none → Same H H1 → H1 p = some (.lst ys) → ys.length = m → Short n ys → Q (.ref p) H1) : LstEnd Q xs H :=
  lst_end (by omega) fun p H1 a b c => k p xs H1 a b c hm hs
end
end My
namespace My
open PySem PySem.Spec PyProof.Rows L2
theorem lst_p {H : Hp} {Q : VK} {xs : List V} (R : List V → Prop) (hR : R xs) (h : xs.length ≤ 100000) (k : ∀ p ys H1, H p = none → Same H H1 → H1 p = some (.lst ys) → R ys → Q (.ref p) H1) : LstEnd Q xs H :=
  lst_end h fun p H1 a b c => k p xs H1 a b c hR
end My
namespace My
open PySem PySem.Spec PyProof.Rows L2
theorem i_append {H : Hp} {Q : VK} {p : Addr} {xs : List V} {v : V} (h : H p = some (.lst xs)) (hl : xs.length < 100000) (q : Q .non (upd H p (.lst (xs ++ [v])))) : rAppend (.ref p) [v] H Q :=
  ⟨p, xs, v, rfl, rfl, h, Nat.lt_of_lt_of_le hl (by decide), q⟩
end My
namespace My
open PySem PySem.Spec PyProof.Rows L2
theorem rev_end {K : PySem.W.Frag} {H : Hp} {Q : VK} {p : Addr} {xs : List V} (h : SqL K H p xs) (k : ∀ r H1, H r = none → Same H H1 → H1 r = some (.lst xs.reverse) → Q (.ref r) H1) : RevEnd K Q (.ref p) H :=
  ⟨p, xs, rfl, h, fun r hr => k r _ hr (same_new hr) upd_same⟩
end My
namespace My
open PySem PySem.Spec PyProof.Rows L2
def AZ : List Nat := ("abcdefghijklmnopqrstuvwxyz" : Str).cps.toList
def AZ9 : List Nat := ("abcdefghijklmnopqrstuvwxyz0123456789" : Str).cps.toList
def firstB (l : List Nat) : Bool := match l[0]? with
  | some c => decide (c ∈ AZ)
  | none => false
/-- what a name is -/
def nameB (z : Str) : Bool := decide (1 ≤ z.length) && (decide (z.length ≤ 8) && (firstB z.cps.toList && z.cps.toList.all fun c => decide (c ∈ AZ9)))
theorem nameB_0 {z : Str} (h : ¬ 1 ≤ z.length) : nameB z = false := by simp [nameB, h]
theorem nameB_9 {z : Str} (h : ¬ z.length ≤ 8) : nameB z = false := by simp [nameB, h]
theorem nameB_f {z : Str} (h : firstB z.cps.toList = false) : nameB z = false := by simp [nameB, h]
theorem nameB_ok {z : Str} (h0 : 1 ≤ z.length) (h1 : z.length ≤ 8) (h2 : firstB z.cps.toList = true) : nameB z = z.cps.toList.all fun c => decide (c ∈ AZ9) := by simp [nameB, h0, h1, h2]
theorem first_of {z : Str} (h : 1 ≤ z.length) : ∃ c, z.cps.toList[0]? = some c ∧ firstB z.cps.toList = decide (c ∈ AZ) := by
  have hl : 0 < z.cps.toList.length := by
    rw [Array.length_toList]
    exact h
  refine ⟨z.cps.toList[0], List.getElem?_eq_getElem hl, ?_⟩
  unfold firstB
  rw [List.getElem?_eq_getElem hl]
def cz (z : Str) : List Nat := z.cps.toList
theorem cz_len (z : Str) : (cz z).length = z.length := Array.length_toList
theorem cz_app (i j : Str) : cz (i ++ j) = cz i ++ cz j := by
  show (i.cps ++ j.cps).toList = _
  rw [Array.toList_append] <;> rfl
theorem cz_one (c : Nat) : cz ⟨#[c]⟩ = [c] := rfl
theorem cz_to (z : Str) (n : Nat) : cz (cutS z none (some (n : Int))) = (cz z).take n := by
  show ((z.cps.toList.drop (HT.sIx z.length 0 none)).take (HT.sIx z.length z.length (some (n : Int)) - HT.sIx z.length 0 none)).toArray.toList = _
  rw [HT.sIx_nat, HT.sIx_none]
  show (z.cps.toList.drop 0).take (min n z.length - 0) = z.cps.toList.take n
  rw [List.drop_zero, Nat.sub_zero]
  have hl : z.cps.toList.length = z.length := Array.length_toList
  rcases Nat.le_total n z.length with h | h
  · rw [Nat.min_eq_left h]
  · rw [Nat.min_eq_right h, List.take_of_length_le (by omega), List.take_of_length_le (by omega)]
theorem cz_from (z : Str) (n : Nat) : cz (cutS z (some (n : Int)) none) = (cz z).drop n := by
  show ((z.cps.toList.drop (HT.sIx z.length 0 (some (n : Int)))).take (HT.sIx z.length z.length none - HT.sIx z.length 0 (some (n : Int)))).toArray.toList = _
  rw [HT.sIx_nat, HT.sIx_none]
  show (z.cps.toList.drop (min n z.length)).take (z.length - min n z.length) = z.cps.toList.drop n
  have hl : z.cps.toList.length = z.length := Array.length_toList
  rcases Nat.le_total n z.length with h | h
  · rw [Nat.min_eq_left h, List.take_of_length_le (by rw [List.length_drop]; omega)]
  · rw [Nat.min_eq_right h, List.drop_of_length_le (by omega), List.drop_of_length_le (by omega), List.take_nil]
/-- a name by its signs -/
structure NameL (l : List Nat) : Prop where
  lo : 1 ≤ l.length
  hi : l.length ≤ 8
  first : ∀ c, l[0]? = some c → c ∈ AZ
  all : ∀ c ∈ l, c ∈ AZ9
theorem nameB_of {z : Str} (h : NameL (cz z)) : nameB z = true := by
  have h1 := h.lo
  have h2 := h.hi
  rw [cz_len] at h1 h2
  obtain ⟨c, hc, hf⟩ := first_of h1
  have h3 : firstB z.cps.toList = true := by
    rw [hf]
    exact decide_eq_true (h.first c hc)
  rw [nameB_ok h1 h2 h3, List.all_eq_true]
  exact fun c hc => decide_eq_true (h.all c hc)
theorem nameL_of {z : Str} (h : nameB z = true) : NameL (cz z) := by
  have a : 1 ≤ z.length := by
    by_cases a : 1 ≤ z.length
    · exact a
    · rw [nameB_0 a] at h
      cases h
  have b : z.length ≤ 8 := by
    by_cases a : z.length ≤ 8
    · exact a
    · rw [nameB_9 a] at h
      cases h
  have d : firstB z.cps.toList = true := by
    cases d : firstB z.cps.toList with
    | true => rfl
    | false =>
      rw [nameB_f d] at h
      cases h
  refine ⟨by rw [cz_len]; exact a, by rw [cz_len]; exact b, fun c hc => ?_, fun c hc => ?_⟩
  · unfold firstB at d
    rw [show z.cps.toList[0]? = some c from hc] at d
    exact of_decide_eq_true d
  · rw [nameB_ok a b d, List.all_eq_true] at h
    exact of_decide_eq_true (h c hc)
theorem nameB_len {z : Str} (h : nameB z = true) : 1 ≤ z.length ∧ z.length ≤ 8 := by
  have a := nameL_of h
  have h1 := a.lo
  have h2 := a.hi
  rw [cz_len] at h1 h2
  exact ⟨h1, h2⟩
theorem az_sub : ∀ c ∈ AZ, c ∈ AZ9 := by decide +kernel
/-- one more sign of a name behind -/
theorem NameL.push {l : List Nat} {c : Nat} (h : NameL l) (hc : c ∈ AZ9) (hl : l.length ≤ 7) : NameL (l ++ [c]) := by
  have := h.lo
  refine ⟨by rw [List.length_append]; omega, by rw [List.length_append]; show l.length + 1 ≤ 8; omega, fun d hd => ?_, fun d hd => ?_⟩
  · rw [List.getElem?_append_left (by omega)] at hd
    exact h.first d hd
  · rcases List.mem_append.mp hd with e | e
    · exact h.all d e
    · rw [List.mem_singleton.mp e]
      exact hc
theorem NameL.one {c : Nat} (h : c ∈ AZ) : NameL [c] := ⟨by show 1 ≤ 1; decide, by show 1 ≤ 8; decide, fun d hd => by cases hd; exact h, fun d hd => by rw [List.mem_singleton.mp hd]; exact az_sub c h⟩
theorem NameL.take {l : List Nat} {n : Nat} (h : NameL l) (hn : 1 ≤ n) : NameL (l.take n) := by
  have := h.lo
  have := h.hi
  refine ⟨by rw [List.length_take]; omega, by rw [List.length_take]; omega, fun d hd => ?_, fun d hd => h.all d (List.mem_of_mem_take hd)⟩
  rw [List.getElem?_take] at hd
  split at hd
  · exact h.first d hd
  · cases hd
/-- names among values -/
def okName : V → Bool
  | .str z => nameB z
  | _ => false
theorem okName_of {v : V} (h : okName v = true) : ∃ z : Str, v = .str z ∧ nameB z = true := by
  cases v with
  | str z => exact ⟨z, rfl, h⟩
  | _ => cases h
/-- a sign of the letters, of letters and digits, by its place -/
theorem at_az9 {i : Int} (h0 : 0 ≤ i) (h1 : i < 36) : ∃ c, atI ("abcdefghijklmnopqrstuvwxyz0123456789" : Str).cps.toList i = some c ∧ c ∈ AZ9 ∧ (i < 26 → c ∈ AZ) := by
  have hl : i.toNat < AZ9.length := by
    have : AZ9.length = 36 := by decide +kernel
    omega
  have e : i = ((i.toNat : Nat) : Int) := by omega
  have h := atI_nat (List.getElem?_eq_getElem hl)
  rw [← e] at h
  refine ⟨AZ9[i.toNat], h, List.getElem_mem hl, fun h26 => ?_⟩
  have key : ∀ n : Fin 26, ∃ c, AZ9[n.val]? = some c ∧ c ∈ AZ := by decide +kernel
  obtain ⟨c, hc, hm⟩ := key ⟨i.toNat, by omega⟩
  rw [List.getElem?_eq_getElem hl] at hc
  cases hc
  exact hm
end My
namespace My
open PySem PySem.Spec PyProof.Rows L2
theorem i_popAt {H : Hp} {Q : VK} {l : Addr} {xs : List V} {i : Int} (h : H l = some (.lst xs)) (h0 : 0 ≤ i) (h1 : i < xs.length) (hz : xs.length ≤ 100000) (q : ∀ y, xs[i.toNat]? = some y → Q y (upd H l (.lst (xs.eraseIdx i.toNat)))) : rPopAt (.ref l) [.int i] H Q := by
  have hl : i.toNat < xs.length := by omega
  refine ⟨l, xs, i, i.toNat, xs[i.toNat], rfl, rfl, h, by omega, by omega, ?_, List.getElem?_eq_getElem hl, q _ (List.getElem?_eq_getElem hl)⟩
  have e := ixN_seq (n := xs.length) (i := i) (j := i.toNat) (by unfold ixN; rw [if_pos h0, if_pos h1])
  exact e.1
theorem inV_str (z : Str) (ns : List Str) : inV (.str z) (ns.map V.str) = decide (z ∈ ns) := by
  unfold inV
  induction ns with
  | nil => simp
  | cons a r ih =>
    rw [List.map_cons, List.any_cons, ih]
    have : eqV (.str a) (.str z) = decide (a = z) := rfl
    rw [this]
    by_cases h : a = z
    · subst h; simp
    · have h2 : ¬ z = a := fun e => h e.symm
      simp [h, h2]
theorem flat_strs (ns : List Str) : (ns.map V.str).all flatV = true := by
  rw [List.all_map, List.all_eq_true]
  intro x _
  rfl
theorem i_inStr {K : PySem.W.Frag} {H : Hp} {Q : VK} {p : Addr} {z : Str} {ns : List Str} (h : SqL K H p (ns.map V.str)) (q : Q (.bl (decide (z ∈ ns))) H) : rIn K false (.str z) (.ref p) H Q :=
  ⟨p, _, rfl, .inl h, rfl, flat_strs ns, by rw [if_neg (by decide), inV_str]; exact q⟩
theorem i_notInStr {K : PySem.W.Frag} {H : Hp} {Q : VK} {p : Addr} {z : Str} {ns : List Str} (h : SqL K H p (ns.map V.str)) (q : Q (.bl (!decide (z ∈ ns))) H) : rIn K true (.str z) (.ref p) H Q :=
  ⟨p, _, rfl, .inl h, rfl, flat_strs ns, by rw [if_pos rfl, inV_str]; exact q⟩
theorem i_inStrT {K : PySem.W.Frag} {H : Hp} {Q : VK} {p : Addr} {z : Str} {ns : List Str} (h : SqT K H p (ns.map V.str)) (q : Q (.bl (decide (z ∈ ns))) H) : rIn K false (.str z) (.ref p) H Q :=
  ⟨p, _, rfl, .inr h, rfl, flat_strs ns, by rw [if_neg (by decide), inV_str]; exact q⟩
theorem i_notInStrT {K : PySem.W.Frag} {H : Hp} {Q : VK} {p : Addr} {z : Str} {ns : List Str} (h : SqT K H p (ns.map V.str)) (q : Q (.bl (!decide (z ∈ ns))) H) : rIn K true (.str z) (.ref p) H Q :=
  ⟨p, _, rfl, .inr h, rfl, flat_strs ns, by rw [if_pos rfl, inV_str]; exact q⟩
theorem perm_pop : ∀ {xs : List V} {i : Nat} {y : V}, xs[i]? = some y → (y :: xs.eraseIdx i).Perm xs
  | [], _, _, h => by simp at h
  | a :: r, 0, y, h => by
    have e : a = y := Option.some.inj h
    subst e
    exact List.Perm.refl _
  | a :: r, i + 1, y, h => by
    have ih := perm_pop (xs := r) (i := i) (y := y) h
    show (y :: a :: r.eraseIdx i).Perm (a :: r)
    exact (List.Perm.swap a y _).trans (ih.cons a)
theorem list_end {K : PySem.W.Frag} {H : Hp} {Q : VK} {p : Addr} {ys : List V} (h : SqL K H p ys) (k : ∀ l H1, H l = none → Same H H1 → H1 l = some (.lst ys) → Q (.ref l) H1) : rListOf K [.ref p] H Q := i_listL h fun l hl => k l _ hl (same_new hl) upd_same
theorem tuple_end {K : PySem.W.Frag} {H : Hp} {Q : VK} {p : Addr} {ys : List V} (h : SqL K H p ys) (k : ∀ l H1, H l = none → Same H H1 → H1 l = some (.tup ys) → Q (.ref l) H1) : rTupOf K [.ref p] H Q := i_tupL h fun l hl => k l _ hl (same_new hl) upd_same
theorem sl_end {K : PySem.W.Frag} {H : Hp} {Q : VK} {p : Addr} {xs : List V} {lo hi : Option Int} (h : SqL K H p xs) (k : ∀ l H1, H l = none → Same H H1 → H1 l = some (.lst (cutV xs lo hi)) → Q (.ref l) H1) : rSlL K (.ref p) lo hi H Q := i_slL h fun l hl => k l _ hl (same_new hl) upd_same
/-- a list of the draws written: what stands, the store -/
theorem mut_all {s l : Addr} {H H1 : Hp} {ys : List V} (h0 : StOk H s) (f : Fr s H H1) (h : StOk H1 s) (n : H l = none) : StOk (upd H1 l (.lst ys)) s ∧ Fr s H (upd H1 l (.lst ys)) ∧ (upd H1 l (.lst ys)) l = some (.lst ys) ∧ ∀ b o, b ≠ l → H1 b = some o → (upd H1 l (.lst ys)) b = some o :=
  ⟨h0.mut f h n, f.mut n, upd_same, fun b o hb e => by rw [upd_ne hb]; exact e⟩
end My
namespace My
open PySem PySem.Spec PyProof.Rows L2
theorem NameL.takeApp {a b : List Nat} {n : Nat} (h : NameL a) (hb : ∀ c ∈ b, c ∈ AZ9) (h1 : 1 ≤ n) (h8 : n ≤ 8) : NameL ((a ++ b).take n) := by
  have := h.lo
  refine ⟨by rw [List.length_take, List.length_append]; omega, by rw [List.length_take]; omega, fun d hd => ?_, fun d hd => ?_⟩
  · rw [List.getElem?_take, if_pos (by omega), List.getElem?_append_left (by omega)] at hd
    exact h.first d hd
  · rcases List.mem_append.mp (List.mem_of_mem_take hd) with e | e
    · exact h.all d e
    · exact hb d e
/-- one sign exchanged, not the first -/
theorem NameL.swap {l : List Nat} {p c : Nat} (h : NameL l) (hp : 0 < p) (hl : p < l.length) (hc : c ∈ AZ9) : NameL (l.take p ++ [c] ++ l.drop (p + 1)) := by
  have := h.hi
  have e : (l.take p ++ [c] ++ l.drop (p + 1)).length = l.length := by
    rw [List.length_append, List.length_append, List.length_take, List.length_drop]
    show min p l.length + 1 + (l.length - (p + 1)) = l.length
    omega
  refine ⟨by omega, by omega, fun d hd => ?_, fun d hd => ?_⟩
  · rw [List.append_assoc, List.getElem?_append_left (by rw [List.length_take]; omega), List.getElem?_take, if_pos hp] at hd
    exact h.first d hd
  · rcases List.mem_append.mp hd with e | e
    · rcases List.mem_append.mp e with e | e
      · exact h.all d (List.mem_of_mem_take e)
      · rw [List.mem_singleton.mp e]
        exact hc
    · exact h.all d (List.mem_of_mem_drop e)
theorem NameL.head {l : List Nat} {c : Nat} (h : NameL l) (hc : c ∈ AZ) : NameL ([c] ++ l.drop 1) := by
  have h1 := h.lo
  have h2 := h.hi
  refine ⟨by show 1 ≤ (l.drop 1).length + 1; omega, by show (l.drop 1).length + 1 ≤ 8; rw [List.length_drop]; omega, fun d hd => by cases hd; exact hc, fun d hd => ?_⟩
  rcases List.mem_append.mp hd with e | e
  · rw [List.mem_singleton.mp e]
    exact az_sub c hc
  · exact h.all d (List.mem_of_mem_drop e)
theorem cz_mul (c : Nat) (n : Nat) : cz ⟨(List.replicate n (⟨#[c]⟩ : Str).cps).foldl (· ++ ·) #[]⟩ = List.replicate n c := by
  have key : ∀ (m : Nat) (acc : Array Nat), ((List.replicate m #[c]).foldl (· ++ ·) acc).toList = acc.toList ++ List.replicate m c := by
    intro m
    induction m with
    | zero => intro acc; simp
    | succ m ih =>
      intro acc
      rw [List.replicate_succ, List.foldl_cons, ih, Array.toList_append, List.append_assoc]
      rfl
  show ((List.replicate n #[c]).foldl (· ++ ·) #[]).toList = _
  rw [key]
  rfl
theorem NameL.rep {c n : Nat} (hc : c ∈ AZ) (h1 : 1 ≤ n) (h8 : n ≤ 8) : NameL (List.replicate n c) := by
  refine ⟨by rw [List.length_replicate]; exact h1, by rw [List.length_replicate]; exact h8, fun d hd => ?_, fun d hd => ?_⟩
  · rw [List.getElem?_replicate] at hd
    split at hd
    · cases hd; exact hc
    · cases hd
  · rw [(List.mem_replicate.mp hd).2]
    exact az_sub c hc
end My
namespace My
open PySem PySem.Spec PyProof.Rows L2
theorem i_orP {t u : TT} {σ : L2.St} {H : Hp} {tq : Bool → Hp → Prop} (a b : Bool) (ha : ∀ tq : Bool → Hp → Prop, tq a H → t σ H tq) (hb : ∀ tq : Bool → Hp → Prop, tq b H → u σ H tq) (q : tq (a || b) H) : tOr t u σ H tq := by
  refine ha _ ?_
  cases a with
  | true => exact iteT q
  | false => exact iteF (hb _ q)
theorem i_andP {t u : TT} {σ : L2.St} {H : Hp} {tq : Bool → Hp → Prop} (a b : Bool) (ha : ∀ tq : Bool → Hp → Prop, tq a H → t σ H tq) (hb : a = true → ∀ tq : Bool → Hp → Prop, tq b H → u σ H tq) (q : tq (a && b) H) : tAnd t u σ H tq := by
  refine ha _ ?_
  cases a with
  | true => exact iteT (hb rfl _ q)
  | false => exact iteF q
theorem dec_int2 {i j : Int} : decide (V.int i = V.int j) = decide (i = j) := by
  by_cases h : i = j
  · simp [h]
  · have : ¬ V.int i = V.int j := fun e => h (by injection e)
    rw [decide_eq_false h, decide_eq_false this]
theorem or_dec {p q : Prop} [Decidable p] [Decidable q] (h : (decide p || decide q) = true) : p ∨ q := by
  rw [Bool.or_eq_true, decide_eq_true_eq, decide_eq_true_eq] at h
  exact h
theorem or_decF {p q : Prop} [Decidable p] [Decidable q] (h : (decide p || decide q) = false) : ¬ p ∧ ¬ q := by
  rw [Bool.or_eq_false_iff, decide_eq_false_iff_not, decide_eq_false_iff_not] at h
  exact h
theorem and_split {a b : Bool} (h : (a && b) = true) : a = true ∧ b = true := by
  rw [Bool.and_eq_true] at h
  exact h
end My
namespace My
open PySem PySem.Spec PyProof.Rows L2
def tupOf : HO → Option (List V)
  | .tup d => some d
  | _ => none
def dec (H : Hp) : V → Option (List V)
  | .ref t => (H t).bind tupOf
  | _ => none
theorem dec_of {H : Hp} {t : Addr} {d : List V} (h : H t = some (.tup d)) : dec H (.ref t) = some d := by
  show (H t).bind tupOf = some d
  rw [h]
  rfl
theorem dec_some {H : Hp} {v : V} {d : List V} (h : dec H v = some d) : ∃ t, v = .ref t ∧ H t = some (.tup d) := by
  cases v with
  | ref t =>
    have h : (H t).bind tupOf = some d := h
    cases e : H t with
    | none => rw [e] at h; cases h
    | some o =>
      rw [e] at h
      have h : tupOf o = some d := h
      cases o <;> first | (cases h; done) | skip
      cases h
      exact ⟨t, rfl, e⟩
  | _ => cases h
def Rows (H : Hp) (xs : List V) (ds : List (List V)) : Prop := xs.map (dec H) = ds.map some
/-- tuples stand -/
def Tk (H H' : Hp) : Prop := ∀ t d, H t = some (.tup d) → H' t = some (.tup d)
theorem Tk.refl {H : Hp} : Tk H H := fun _ _ h => h
theorem Tk.trans {H H1 H2 : Hp} (a : Tk H H1) (b : Tk H1 H2) : Tk H H2 := fun t d h => b t d (a t d h)
theorem Tk.same {H H1 : Hp} (s : Same H H1) : Tk H H1 := fun t d h => s t _ h
theorem Tk.new {H : Hp} {p : Addr} {o : HO} (h : H p = none) : Tk H (upd H p o) := Tk.same (same_new h)
theorem Tk.lst {H : Hp} {p : Addr} {xs ys : List V} (h : H p = some (.lst xs)) : Tk H (upd H p (.lst ys)) := fun t d e => by
  rw [upd_ne fun z => by rw [z, h] at e; cases e]
  exact e
theorem StOk.tup {H : Hp} {s : Addr} (h : StOk H s) {t : Addr} {d : List V} (e : H t = Option.some (HO.tup d)) : t ≠ s := fun z => by
  obtain ⟨q, ns, i1, n2, i3, i4, i5, i6, h1, _⟩ := h
  rw [z, h1] at e
  cases e
theorem Fr.tk {H H1 : Hp} {s : Addr} (f : Fr s H H1) (h : StOk H s) : Tk H H1 := fun t d e => f.1 t _ e (h.tup e)
theorem Rows.nil {H : Hp} : Rows H [] [] := rfl
theorem Rows.keep {H H' : Hp} {xs : List V} {ds : List (List V)} (k : Tk H H') (h : Rows H xs ds) : Rows H' xs ds := by
  unfold Rows at h ⊢
  rw [← h]
  refine List.map_congr_left fun v hv => ?_
  have : dec H v ∈ ds.map some := by
    rw [← h]
    exact List.mem_map_of_mem hv
  obtain ⟨d, _, e⟩ := List.mem_map.mp this
  obtain ⟨t, rfl, ht⟩ := dec_some e.symm
  rw [dec_of ht, dec_of (k _ _ ht)]
theorem Rows.len {H : Hp} {xs : List V} {ds : List (List V)} (h : Rows H xs ds) : xs.length = ds.length := by
  have := congrArg List.length h
  rwa [List.length_map, List.length_map] at this
theorem Rows.app {H : Hp} {xs ys : List V} {ds es : List (List V)} (a : Rows H xs ds) (b : Rows H ys es) : Rows H (xs ++ ys) (ds ++ es) := by
  unfold Rows at *
  rw [List.map_append, List.map_append, a, b]
theorem Rows.one {H : Hp} {t : Addr} {d : List V} (h : H t = some (.tup d)) : Rows H [.ref t] [d] := by
  unfold Rows
  rw [List.map_cons, dec_of h]
  rfl
theorem Rows.get {H : Hp} {xs : List V} {ds : List (List V)} (h : Rows H xs ds) {i : Nat} {x : V} (e : xs[i]? = some x) : ∃ t d, x = .ref t ∧ ds[i]? = some d ∧ H t = some (.tup d) := by
  have q := congrArg (fun l : List (Option (List V)) => l[i]?) h
  simp only [List.getElem?_map, e, Option.map_some] at q
  cases hd : ds[i]? with
  | none => rw [hd] at q; cases q
  | some d =>
    rw [hd] at q
    obtain ⟨t, ex, ht⟩ := dec_some (Option.some.inj q)
    exact ⟨t, d, ex, rfl, ht⟩
theorem filterMap_some {α : Type} (l : List α) : (l.map some).filterMap id = l := by
  induction l with
  | nil => rfl
  | cons a r ih => simp [ih]
theorem map_some_of {α : Type} {l : List (Option α)} (h : ∀ x ∈ l, ∃ a, x = some a) : l = (l.filterMap id).map some := by
  induction l with
  | nil => rfl
  | cons a r ih =>
    obtain ⟨b, rfl⟩ := h a List.mem_cons_self
    have ih := ih fun x hx => h x (List.mem_cons_of_mem _ hx)
    rw [List.filterMap_cons]
    show some b :: r = some b :: (r.filterMap id).map some
    rw [← ih]
theorem Rows.perm {H : Hp} {xs ys : List V} {ds : List (List V)} (h : Rows H xs ds) (p : ys.Perm xs) : ∃ es, es.Perm ds ∧ Rows H ys es := by
  have q : (ys.map (dec H)).Perm (ds.map some) := by
    rw [← h]
    exact p.map _
  refine ⟨(ys.map (dec H)).filterMap id, ?_, map_some_of fun x hx => ?_⟩
  · have := q.filterMap id
    rwa [filterMap_some] at this
  · obtain ⟨d, _, e⟩ := List.mem_map.mp (q.mem_iff.mp hx)
    exact ⟨d, e.symm⟩
def trow (t : Str × Str × Int) : List V := [.str t.1, .str t.2.1, .int t.2.2]
def frow (f : Str × Int) : List V := [.str f.1, .int f.2]
theorem perm_map_inv {α β : Type} (f : α → β) {es : List β} {ps : List α} (h : es.Perm (ps.map f)) : ∃ qs : List α, qs.Perm ps ∧ es = qs.map f := by
  generalize e : ps.map f = l at h
  induction h generalizing ps with
  | nil => exact ⟨[], by rw [List.map_eq_nil_iff.mp e], rfl⟩
  | cons x _ ih =>
    cases ps with
    | nil => cases e
    | cons p r =>
      rw [List.map_cons] at e
      injection e with e1 e2
      obtain ⟨qs, h1, h2⟩ := ih e2
      exact ⟨p :: qs, h1.cons p, by rw [h2, ← e1]; rfl⟩
  | swap x y l =>
    match ps, e with
    | p :: q :: r, e =>
      rw [List.map_cons, List.map_cons] at e
      injection e with e1 e2
      injection e2 with e2 e3
      exact ⟨q :: p :: r, List.Perm.swap _ _ _, by rw [← e1, ← e2, ← e3]; rfl⟩
  | trans _ _ ih1 ih2 =>
    obtain ⟨qs, h1, h2⟩ := ih2 e
    obtain ⟨rs, h3, h4⟩ := ih1 h2.symm
    exact ⟨rs, h3.trans h1, h4⟩
end My
namespace My
open PySem PySem.Spec PyProof.Rows L2
section
variable {X : Cx} {K : PySem.W.Frag}
theorem ix_listK (h : X.K = K) : IxR X (rIxL K) := h ▸ ix_list
theorem ix_tupK (h : X.K = K) : IxR X (rIxT K) := h ▸ ix_tup
theorem ix_seqK (h : X.K = K) : IxR X (rIx K) := h ▸ ix_seq
theorem n_lenQK (h : X.K = K) : CallR X (.builtin "len") (rLenQ K) := h ▸ n_lenQ
theorem n_lenVK (h : X.K = K) : CallR X (.builtin "len") (rLenV K) := h ▸ n_lenV
theorem n_listK (h : X.K = K) : CallR X (.type "list") (rListOf K) := h ▸ n_list
theorem n_tupleK (h : X.K = K) : CallR X (.type "tuple") (rTupOf K) := h ▸ n_tuple
theorem cr_allK (h : X.K = K) (hc : X.calm = true) : CallR X (.builtin "all") (rAll K) := h ▸ cr_all hc
theorem sl_listK (h : X.K = K) : SlR X (rSlL K) := h ▸ sl_list
theorem op_in_seqK (h : X.K = K) : OpR X (compareOp .In) (rIn K false) := h ▸ op_in_seq
theorem op_notIn_seqK (h : X.K = K) : OpR X (compareOp .NotIn) (rIn K true) := h ▸ op_notIn_seq
theorem call_isiK (h : X.K = K) : CallR X (.builtin "isinstance") (rIsi K) := h ▸ call_isi
theorem call_isiTK (h : X.K = K) : CallR X (.builtin "isinstance") (rIsiT K) := h ▸ call_isiT
end
end My
namespace My
open PySem PySem.Spec PyProof.Rows L2
theorem cutV_to (xs : List V) (n : Nat) : cutV xs none (some (n : Int)) = xs.take n := by
  show (xs.drop (HT.sIx xs.length 0 none)).take (HT.sIx xs.length xs.length (some (n : Int)) - HT.sIx xs.length 0 none) = _
  rw [HT.sIx_nat, HT.sIx_none]
  show (xs.drop 0).take (min n xs.length - 0) = xs.take n
  rw [List.drop_zero, Nat.sub_zero]
  rcases Nat.le_total n xs.length with h | h
  · rw [Nat.min_eq_left h]
  · rw [Nat.min_eq_right h, List.take_of_length_le (by omega), List.take_of_length_le (by omega)]
theorem map_erase {α β : Type} (f : α → β) : ∀ (l : List α) (i : Nat), (l.eraseIdx i).map f = (l.map f).eraseIdx i
  | [], _ => rfl
  | _ :: _, 0 => rfl
  | a :: r, i + 1 => by
    show f a :: (r.eraseIdx i).map f = f a :: (r.map f).eraseIdx i
    rw [map_erase f r i]
theorem Rows.erase {H : Hp} {xs : List V} {ds : List (List V)} (h : Rows H xs ds) (i : Nat) : Rows H (xs.eraseIdx i) (ds.eraseIdx i) := by
  unfold Rows at *
  rw [map_erase, h, ← map_erase]
theorem Rows.take {H : Hp} {xs : List V} {ds : List (List V)} (h : Rows H xs ds) (i : Nat) : Rows H (xs.take i) (ds.take i) := by
  unfold Rows at *
  rw [List.map_take, h, List.map_take]
/-- the i-th name -/
def nth (ns : List Str) (i : Nat) : Str := (ns[i]?).getD ⟨#[]⟩
theorem nth_get {ns : List Str} {i : Nat} (h : i < ns.length) : ns[i]? = some (nth ns i) := by
  unfold nth
  rw [List.getElem?_eq_getElem h]
  rfl
theorem nth_mem {ns : List Str} {i : Nat} (h : i < ns.length) : nth ns i ∈ ns := List.mem_of_getElem? (nth_get h)
theorem nth_inj {ns : List Str} (nd : ns.Nodup) {i j : Nat} (hi : i < ns.length) (hj : j < ns.length) (e : nth ns i = nth ns j) : i = j := by
  have a := nth_get hi
  have b := nth_get hj
  rw [← e] at b
  exact nd_ix nd a b
theorem at_nth {ns : List Str} {i : Nat} (h : i < ns.length) : atI (ns.map V.str) (i : Int) = some (.str (nth ns i)) := at_of rfl (by rw [List.getElem?_map, nth_get h]; rfl)
end My
namespace My
open PySem PySem.Spec PyProof.Rows L2
def iAny (K : PySem.W.Frag) (te : TE) : TI := fun σ H R => iList K te σ H R ∨ iTup K te σ H R
theorem pi_any {X : Cx} {K : PySem.W.Frag} {tg l : Expr} {te : TE} (h : X.K = K) (hl : PE X l te) : PI X tg l (iAny K te) := by
  subst h
  refine ⟨fun pins s σ H R I q => ?_⟩
  rcases q with q | q
  · exact (pi_list hl).run pins s σ H R I q
  · exact (pi_tup hl).run pins s σ H R I q
section
variable {K : PySem.W.Frag} {σ : L2.St} {H : Hp} {Q : VK} {ta te : TE} {nx bk ct : L2.St → Hp → Prop} {rt : VK}
theorem i_lcAL {g : TG} {tt : TT} {vs : List Nat} (q : tLc (iList K ta) g tt te vs σ H Q) : tLc (iAny K ta) g tt te vs σ H Q := .inl q
theorem i_lcAT {g : TG} {tt : TT} {vs : List Nat} (q : tLc (iTup K ta) g tt te vs σ H Q) : tLc (iAny K ta) g tt te vs σ H Q := .inr q
theorem i_forAL {g : TG} {tb : TS} (q : tFor (iList K te) g tb ⟨nx, rt, bk, ct⟩ σ H) : tFor (iAny K te) g tb ⟨nx, rt, bk, ct⟩ σ H := .inl q
theorem i_forAT {g : TG} {tb : TS} (q : tFor (iTup K te) g tb ⟨nx, rt, bk, ct⟩ σ H) : tFor (iAny K te) g tb ⟨nx, rt, bk, ct⟩ σ H := .inr q
def CT (K : PySem.W.Frag) (g : TG) (tt : TT) (te : TE) (vs : List Nat) (σ : L2.St) (Q : VK) : V → Hp → Prop := fun x H1 => tLc (iTup K fun _ H R => R x H) g tt te vs σ H1 Q
theorem i_lcT {g : TG} {tt : TT} {vs : List Nat} (q : ta σ H fun x H1 => CT K g tt te vs σ Q x H1) : tLc (iTup K ta) g tt te vs σ H Q := q
instance {g : TG} {tt : TT} {vs : List Nat} : Nx (tLc (iTup K ta) g tt te vs σ H Q) (ta σ H fun x H1 => CT K g tt te vs σ Q x H1) := ⟨i_lcT⟩
theorem ct_ {j : Nat} {tt : TT} {vs : List Nat} {a : Addr} {xs : List V} (h : SqT K H a xs) (Pv : Addr → Nat → Hp → Prop) (p0 : ∀ D, H D = none → Pv D 0 (upd H D (.lst []))) (hl : ∀ D i H', H D = none → i ≤ xs.length → Pv D i H' → SqT K H' a xs)
    (ps : ∀ D i x H', H D = none → xs[i]? = some x → Pv D i H' → LT j tt te vs σ D (Pv D (i + 1)) x H') (pd : ∀ D H', H D = none → Pv D xs.length H' → Q (.ref D) H') : CT K (gName j) tt te vs σ Q (.ref a) H :=
  ⟨a, rfl, ⟨xs, h⟩, fun D hD => lc_tup (xs := xs) (Pv D) (p0 D hD) (fun i H' hi p => hl D i H' hD hi p) (fun i x H' hx p => ps D i x H' hD hx p) fun H' p => pd D H' hD p⟩
/-- over a tuple with a target of names -/
theorem ct_g {g : TG} {tt : TT} {vs : List Nat} {a : Addr} {xs : List V} (h : SqT K H a xs) (Pv : Addr → Nat → Hp → Prop) (p0 : ∀ D, H D = none → Pv D 0 (upd H D (.lst []))) (hl : ∀ D i H', H D = none → i ≤ xs.length → Pv D i H' → SqT K H' a xs)
    (ps : ∀ D i x H', H D = none → xs[i]? = some x → Pv D i H' → g x (wipe σ vs) H' fun σ2 H2 => wipe σ2 vs = wipe σ vs ∧ tt σ2 H2 fun b H3 => if b = true then te σ2 H3 fun y H4 => ∃ acc, H4 D = some (.lst acc) ∧ acc.length < sizeLine ∧ Pv D (i + 1) (upd H4 D (.lst (acc ++ [y]))) else Pv D (i + 1) H3) (pd : ∀ D H', H D = none → Pv D xs.length H' → Q (.ref D) H') : CT K g tt te vs σ Q (.ref a) H :=
  ⟨a, rfl, ⟨xs, h⟩, fun D hD => lc_tup (xs := xs) (Pv D) (p0 D hD) (fun i H' hi p => hl D i H' hD hi p) (fun i x H' hx p => ps D i x H' hD hx p) fun H' p => pd D H' hD p⟩
def FT (K : PySem.W.Frag) (g : TG) (tb : TS) (nx : L2.St → Hp → Prop) (rt : VK) (σ : L2.St) : V → Hp → Prop := fun x H1 => tFor (iTup K fun _ H R => R x H) g tb ⟨nx, rt, fun _ _ => False, fun _ _ => False⟩ σ H1
theorem i_forT {g : TG} {tb : TS} (q : te σ H fun x H1 => FT K g tb nx rt σ x H1) : tFor (iTup K te) g tb ⟨nx, rt, bk, ct⟩ σ H := q
instance {g : TG} {tb : TS} : Nx (tFor (iTup K te) g tb ⟨nx, rt, bk, ct⟩ σ H) (te σ H fun x H1 => FT K g tb nx rt σ x H1) := ⟨i_forT⟩
theorem ft {g : TG} {tb : TS} {a : Addr} {xs : List V} (h : SqT K H a xs) (Pv : Nat → L2.St → Hp → Prop) (p0 : Pv 0 σ H) (hl : ∀ i σ' H', i ≤ xs.length → Pv i σ' H' → SqT K H' a xs)
    (ps : ∀ i x σ' H', xs[i]? = some x → Pv i σ' H' → g x σ' H' fun σ2 H2 => tb ⟨Pv (i + 1), rt, nx, Pv (i + 1)⟩ σ2 H2) (pd : ∀ σ' H', Pv xs.length σ' H' → nx σ' H') : FT K g tb nx rt σ (.ref a) H :=
  ⟨a, rfl, ⟨xs, h⟩, for_tup (D := ⟨nx, rt, fun _ _ => False, fun _ _ => False⟩) (xs := xs) Pv p0 hl ps pd⟩
end
inductive Dt where
  | str (z : Str) | int (i : Int) | bl (b : Bool) | seq (ds : List Dt)
inductive Rp (P : Addr → Prop) (H : Hp) : Nat → Dt → V → Prop
  | str (n : Nat) (z : Str) : Rp P H n (.str z) (.str z)
  | int (n : Nat) (i : Int) : Rp P H n (.int i) (.int i)
  | bl (n : Nat) (b : Bool) : Rp P H n (.bl b) (.bl b)
  | lst {n : Nat} {ds : List Dt} {vs : List V} {a : Addr} (ha : H a = some (.lst vs)) (pa : P a) (hl : vs.length = ds.length) (hz : vs.length ≤ 1000) (h : ∀ (i : Nat) (d : Dt) (v : V), ds[i]? = some d → vs[i]? = some v → Rp P H n d v) : Rp P H (n + 1) (.seq ds) (.ref a)
  | tup {n : Nat} {ds : List Dt} {vs : List V} {a : Addr} (ha : H a = some (.tup vs)) (hl : vs.length = ds.length) (hz : vs.length ≤ 1000) (h : ∀ (i : Nat) (d : Dt) (v : V), ds[i]? = some d → vs[i]? = some v → Rp P H n d v) : Rp P H (n + 1) (.seq ds) (.ref a)
theorem Rp.keep {P P' : Addr → Prop} {H H' : Hp} (hp : ∀ a, P a → P' a) (kl : ∀ a xs, P a → H a = some (.lst xs) → H' a = some (.lst xs)) (kt : Tk H H') : ∀ {n : Nat} {d : Dt} {v : V}, Rp P H n d v → Rp P' H' n d v := by
  intro n d v h
  induction h with
  | str n z => exact .str n z
  | int n i => exact .int n i
  | bl n b => exact .bl n b
  | lst ha pa hl hz _ ih => exact .lst (kl _ _ pa ha) (hp _ pa) hl hz ih
  | tup ha hl hz _ ih => exact .tup (kt _ _ ha) hl hz ih
theorem Rp.same {P : Addr → Prop} {H H' : Hp} (k : Same H H') {n : Nat} {d : Dt} {v : V} (h : Rp P H n d v) : Rp P H' n d v := h.keep (fun _ p => p) (fun a xs _ e => k _ _ e) (Tk.same k)
/-- what the clearing of lists leaves -/
inductive Sh (P : Addr → Prop) (H : Hp) : Nat → V → Prop
  | str (n : Nat) (z : Str) : Sh P H n (.str z)
  | int (n : Nat) (i : Int) : Sh P H n (.int i)
  | bl (n : Nat) (b : Bool) : Sh P H n (.bl b)
  | lst {n : Nat} {vs : List V} {a : Addr} (ha : H a = some (.lst vs)) (pa : P a) (h : ∀ v ∈ vs, Sh P H n v) : Sh P H (n + 1) (.ref a)
  | tup {n : Nat} {vs : List V} {a : Addr} (ha : H a = some (.tup vs)) (h : ∀ v ∈ vs, Sh P H n v) : Sh P H (n + 1) (.ref a)
/-- lists at P may have been cleared, all else stands -/
structure Cl (P : Addr → Prop) (H H' : Hp) : Prop where
  keep : ∀ b o, H b = some o → ¬ P b → H' b = some o
  tk : Tk H H'
  lst : ∀ b xs, P b → H b = some (.lst xs) → H' b = some (.lst xs) ∨ H' b = some (.lst [])
theorem Cl.refl {P : Addr → Prop} {H : Hp} : Cl P H H := ⟨fun _ _ h _ => h, Tk.refl, fun _ _ _ h => .inl h⟩
theorem Cl.trans {P : Addr → Prop} {H H1 H2 : Hp} (a : Cl P H H1) (b : Cl P H1 H2) : Cl P H H2 := ⟨fun c o h n => b.keep c o (a.keep c o h n) n, a.tk.trans b.tk, fun c xs p h => by
  rcases a.lst c xs p h with e | e
  · exact b.lst c xs p e
  · rcases b.lst c [] p e with e | e
    · exact .inr e
    · exact .inr e⟩
theorem Cl.same {P : Addr → Prop} {H H1 : Hp} (s : Same H H1) : Cl P H H1 := ⟨fun _ _ h _ => s _ _ h, Tk.same s, fun _ _ _ h => .inl (s _ _ h)⟩
theorem Sh.keep {P : Addr → Prop} {H H' : Hp} (c : Cl P H H') {n : Nat} {v : V} (h : Sh P H n v) : Sh P H' n v := by
  induction h with
  | str n z => exact .str n z
  | int n i => exact .int n i
  | bl n b => exact .bl n b
  | lst ha pa _ ih =>
    rcases c.lst _ _ pa ha with e | e
    · exact .lst e pa ih
    · exact .lst e pa fun v hv => nomatch hv
  | tup ha _ ih => exact .tup (c.tk _ _ ha) ih
theorem rd_same {H H' : Hp} {a : Addr} {u : HO} (k : Same H H') (h : Rd H a u) : Rd H' a u := by
  rcases h with h | ⟨o, h⟩
  · exact .inl (k _ _ h)
  · exact .inr ⟨o, k _ _ h⟩
theorem sqR {K : PySem.W.Frag} {H : Hp} {a : Addr} {xs : List V} (h : Rd H a (.tup xs)) : SqT K H a xs := .inl h
theorem ty_rd {K : PySem.W.Frag} {H : Hp} {a : Addr} {xs : List V} (h : Rd H a (.tup xs)) : TyX K H (.ref a) (.type "tuple") := by
  rcases h with h | ⟨o, h⟩
  · exact .base (.tup h)
  · exact .fTuple h
inductive Sm (H : Hp) : Nat → V → V → Prop
  | bl (n : Nat) (b : Bool) : Sm H n (.bl b) (.bl b)
  | int (n : Nat) (i : Int) : Sm H n (.int i) (.int i)
  | str (n : Nat) (z : Str) : Sm H n (.str z) (.str z)
  | non (n : Nat) : Sm H n .non .non
  | lst {n : Nat} {a b : Addr} {xs ys : List V} (ha : H a = some (.lst xs)) (hb : H b = some (.lst ys)) (hl : ys.length = xs.length) (hz : xs.length ≤ 100000) (h : ∀ (i : Nat) (x y : V), xs[i]? = some x → ys[i]? = some y → Sm H n x y) : Sm H (n + 1) (.ref a) (.ref b)
  | tup {n : Nat} {a b : Addr} {xs ys : List V} (ha : Rd H a (.tup xs)) (hb : Rd H b (.tup ys)) (hl : ys.length = xs.length) (hz : xs.length ≤ 100000) (h : ∀ (i : Nat) (x y : V), xs[i]? = some x → ys[i]? = some y → Sm H n x y) : Sm H (n + 1) (.ref a) (.ref b)
theorem Sm.keep {H H' : Hp} (k : Same H H') : ∀ {n : Nat} {x y : V}, Sm H n x y → Sm H' n x y := by
  intro n x y h
  induction h with
  | bl n b => exact .bl n b
  | int n i => exact .int n i
  | str n i => exact .str n i
  | non n => exact .non n
  | lst ha hb hl hz _ ih => exact .lst (k _ _ ha) (k _ _ hb) hl hz ih
  | tup ha hb hl hz _ ih => exact .tup (rd_same k ha) (rd_same k hb) hl hz ih
end My
namespace My
open PySem PySem.Spec PyProof.Rows L2
theorem list_endT {K : PySem.W.Frag} {H : Hp} {Q : VK} {p : Addr} {ys : List V} (h : SqT K H p ys) (k : ∀ l H1, H l = none → Same H H1 → H1 l = some (.lst ys) → Q (.ref l) H1) : rListOf K [.ref p] H Q := ⟨p, ys, rfl, .inr h, fun l hl => k l _ hl (same_new hl) upd_same⟩
end My
namespace My
open PySem PySem.Spec PyProof.Rows L2
/-- the address that a name of the top has in the written part -/
def gad (K : PySem.W.Frag) (x : Str) : Addr := match PySem.W.nsIn K mainGlobals x with
  | some (some (.ref a)) => a
  | _ => 0
theorem gad_of {K : PySem.W.Frag} {x : Str} {a : Addr} (h : PySem.W.nsIn K mainGlobals x = some (some (.ref a))) : gad K x = a := by
  unfold gad
  rw [h]
/-- a def of a class -/
structure Dm (K : PySem.W.Frag) (x qual : Str) (st : Stmt) (ps : List Str) (f : Addr) (fd : FuncData) : Prop where
  F : Fun K x qual st f fd
  b : Binds K fd ps []
/-- an own error class with its own __init__ -/
structure Dx (K : PySem.W.Frag) (mg : Str → Option Value) (x : Str) (C fI : Addr) (fs : List Str) : Prop where
  g : mg x = some (.ref C)
  oex : OexC K C
  iC : PySem.W.findIn K (.ref C) "__init__" = some (some (.ref fI))
  tI : PySem.W.typeIn K (.ref fI) = some (.type "function")
  no : ∀ f ∈ fs, PySem.W.findIn K (.ref C) f = some none
def atomB : V → Bool
  | .str _ => true
  | .int _ => true
  | .bl _ => true
  | _ => false
/-- what plain takes, and what it gives -/
def Pl (H : Hp) (v : V) : Prop := atomB v = true ∨ ∃ (p : Addr) (xs : List V), v = .ref p ∧ (H p = some (.lst xs) ∨ H p = some (.tup xs)) ∧ xs.length ≤ 1000 ∧ ∀ x ∈ xs, atomB x = true
def PlT (H : Hp) (v : V) (H' : Hp) (v' : V) : Prop := (atomB v = true ∧ v' = v) ∨ ∃ (p : Addr) (xs : List V) (q : Addr), v = .ref p ∧ (H p = some (.lst xs) ∨ H p = some (.tup xs)) ∧ v' = .ref q ∧ H' q = some (.tup xs)
theorem Pl.same {H H' : Hp} {v : V} (h : Pl H v) (s : Same H H') : Pl H' v := by
  rcases h with h | ⟨p, xs, e, hp, hl, hx⟩
  · exact .inl h
  · exact .inr ⟨p, xs, e, hp.imp (s _ _) (s _ _), hl, hx⟩
theorem PlT.str {H H' : Hp} {a : Str} {v' : V} (h : PlT H (.str a) H' v') : v' = .str a := by
  rcases h with ⟨_, h⟩ | ⟨_, _, _, h, _⟩
  · exact h
  · cases h
theorem PlT.int {H H' : Hp} {a : Int} {v' : V} (h : PlT H (.int a) H' v') : v' = .int a := by
  rcases h with ⟨_, h⟩ | ⟨_, _, _, h, _⟩
  · exact h
  · cases h
def OstEnd (K : PySem.W.Frag) (f : Str) (y : V) (nx : L2.St → Hp → Prop) (σ : L2.St) (x : V) (H2 : Hp) : Prop := ∃ a C : Addr, x = .ref a ∧ OexC K C ∧ PySem.W.findIn K (.ref C) f = some none ∧
  ((H2 a = some (exo a C none) ∧ ∀ dx, H2 dx = none → dx ≠ a → nx σ (upd (upd H2 dx (exd dx [(f, y)])) a (exo a C (some dx)))) ∨
    ∃ (dx : Addr) (fs : List (Str × V)), H2 a = some (exo a C (some dx)) ∧ H2 dx = some (exd dx fs) ∧ fs.length ≤ 900 ∧ nx σ (upd H2 dx (exd dx ((f, y) :: fs))))
section
variable {K : PySem.W.Frag} {σ : L2.St} {H : Hp} {Q : VK} {to te : TE} {f : Str} {nx bk ct : L2.St → Hp → Prop} {rt : VK}
theorem ps_ostK {X : Cx} {o e : Expr} {p' pos : Pos} (hK : X.K = K) (ho : PE X o to) (he : PE X e te) (hs : swapsWith e (some (.Attribute o f p')) pos.line X.env = pure false := by rfl) : PS X (.Assign [.Attribute o f p'] e pos) (tOst K f to te) := hK ▸ ps_ost ho he hs
theorem i_ost (q : te σ H fun y H1 => to σ H1 fun x H2 => OstEnd K f y nx σ x H2) : tOst K f to te ⟨nx, rt, bk, ct⟩ σ H := q
theorem ost_first {a C : Addr} {y : V} (hC : OexC K C) (hno : PySem.W.findIn K (.ref C) f = some none) (e : H a = some (exo a C none)) (q : ∀ dx, H dx = none → dx ≠ a → nx σ (upd (upd H dx (exd dx [(f, y)])) a (exo a C (some dx)))) : OstEnd K f y nx σ (.ref a) H := ⟨a, C, rfl, hC, hno, .inl ⟨e, q⟩⟩
theorem ost_next {a C dx : Addr} {fs : List (Str × V)} {y : V} (hC : OexC K C) (hno : PySem.W.findIn K (.ref C) f = some none) (e : H a = some (exo a C (some dx))) (ed : H dx = some (exd dx fs)) (hl : fs.length ≤ 900) (q : nx σ (upd H dx (exd dx ((f, y) :: fs)))) : OstEnd K f y nx σ (.ref a) H := ⟨a, C, rfl, hC, hno, .inr ⟨dx, fs, e, ed, hl, q⟩⟩
end
/-- an __init__ that writes one field -/
def spInit1 (f : Str) (K : PySem.W.Frag) : Sp := fun vs H Q _ => ∃ (a C : Addr) (v : V), vs = [.ref a, v] ∧ OexC K C ∧ PySem.W.findIn K (.ref C) f = some none ∧ H a = some (exo a C none) ∧ Pl H v ∧
  ∀ v' dx H', H dx = none → H' a = some (exo a C (some dx)) → H' dx = some (exd dx [(f, v')]) → PlT H v H' v' → (∀ b o, b ≠ a → H b = some o → H' b = some o) → Q .non H'
/-- an __init__ that writes two fields -/
def spInit2 (f g : Str) (K : PySem.W.Frag) : Sp := fun vs H Q _ => ∃ (a C : Addr) (v u : V), vs = [.ref a, v, u] ∧ OexC K C ∧ PySem.W.findIn K (.ref C) f = some none ∧ PySem.W.findIn K (.ref C) g = some none ∧ H a = some (exo a C none) ∧ atomB v = true ∧ atomB u = true ∧
  ∀ dx H', H dx = none → H' a = some (exo a C (some dx)) → H' dx = some (exd dx [(g, u), (f, v)]) → (∀ b o, b ≠ a → H b = some o → H' b = some o) → Q .non H'
def MkEnd (C : Addr) (sp : Sp) (dvs : List V) (Q : XK) (vs : List V) (H1 : Hp) : Prop := vs.length ≤ 1000 ∧ ∀ a, H1 a = none → sp (.ref a :: (vs ++ dvs)) (upd H1 a (exo a C none))
  (fun v H2 => v = .non ∧ ∃ (d : Addr) (fs : List (Str × V)), H2 a = some (exo a C (some d)) ∧ H2 d = some (exd d fs) ∧ H1 d = none ∧ Q (.ref C) (some d) (upd (del H2 a) d (.xd fs))) (fun _ _ _ => False)
theorem mk1 {K : PySem.W.Frag} {C : Addr} {f : Str} {v : V} {H : Hp} {Q : XK} (hC : OexC K C) (hno : PySem.W.findIn K (.ref C) f = some none) (hv : Pl H v)
    (k : ∀ v' d H', H d = none → H' d = some (.xd [(f, v')]) → PlT H v H' v' → Same H H' → Q (.ref C) (some d) H') : MkEnd C (spInit1 f K) [] Q [v] H := by
  refine ⟨(by show 1 ≤ 1000; decide), fun a ha => ⟨a, C, v, rfl, hC, hno, upd_same, hv.same (same_new ha), fun v' dx H' hd ea ed pt keep => ⟨rfl, dx, _, ea, ed, ?_, ?_⟩⟩⟩
  · by_cases e : dx = a
    · rw [e, upd_same] at hd
      cases hd
    · rw [upd_ne e] at hd
      exact hd
  · have na : dx ≠ a := fun e => by
      rw [e, upd_same] at hd
      cases hd
    have hd' : H dx = none := by
      rw [upd_ne na] at hd
      exact hd
    refine k v' dx _ hd' upd_same ?_ fun b o hb => ?_
    · rcases pt with pt | ⟨p, xs, q, e, hp, e', hq⟩
      · exact .inl pt
      · have pa : p ≠ a := fun z => by
          rw [z, upd_same] at hp
          rcases hp with hp | hp
          · have z' : exo a C none = HO.lst xs := Option.some.inj hp
            cases z'
          · exact exo_tup (Option.some.inj hp)
        rw [upd_ne pa] at hp
        refine .inr ⟨p, xs, q, e, hp, e', ?_⟩
        rw [upd_ne (at_ne ed hq exd_tup), del_ne (at_ne ea hq exo_tup)]
        exact hq
    · have nb : b ≠ a := fun z => by
        rw [z, ha] at hb
        cases hb
      rw [upd_ne (ne_of_none hb hd'), del_ne nb]
      exact keep b o nb (by rw [upd_ne nb]; exact hb)
theorem mk2 {K : PySem.W.Frag} {C : Addr} {f g : Str} {v u : V} {H : Hp} {Q : XK} (hC : OexC K C) (hf : PySem.W.findIn K (.ref C) f = some none) (hg : PySem.W.findIn K (.ref C) g = some none) (hv : atomB v = true) (hu : atomB u = true)
    (k : ∀ d H', H d = none → H' d = some (.xd [(g, u), (f, v)]) → Same H H' → Q (.ref C) (some d) H') : MkEnd C (spInit2 f g K) [] Q [v, u] H := by
  refine ⟨(by show 2 ≤ 1000; decide), fun a ha => ⟨a, C, v, u, rfl, hC, hf, hg, upd_same, hv, hu, fun dx H' hd ea ed keep => ⟨rfl, dx, _, ea, ed, ?_, ?_⟩⟩⟩
  · by_cases e : dx = a
    · rw [e, upd_same] at hd
      cases hd
    · rw [upd_ne e] at hd
      exact hd
  · have na : dx ≠ a := fun e => by
      rw [e, upd_same] at hd
      cases hd
    have hd' : H dx = none := by
      rw [upd_ne na] at hd
      exact hd
    refine k dx _ hd' upd_same fun b o hb => ?_
    have nb : b ≠ a := fun z => by
      rw [z, ha] at hb
      cases hb
    rw [upd_ne (ne_of_none hb hd'), del_ne nb]
    exact keep b o nb (by rw [upd_ne nb]; exact hb)
end My
namespace My
open PySem PySem.Spec PyProof.Rows L2
def plc (ns : List Str) (z : Str) : Nat := ns.findIdx fun x => decide (x = z)
theorem plc_lt {ns : List Str} {z : Str} (h : z ∈ ns) : plc ns z < ns.length := List.findIdx_lt_length_of_exists ⟨z, h, decide_eq_true rfl⟩
theorem plc_at {ns : List Str} {z : Str} (h : z ∈ ns) : ns[plc ns z]? = some z := by
  have hl := plc_lt h
  have e := List.findIdx_getElem (p := fun x : Str => decide (x = z)) (xs := ns) (w := hl)
  rw [List.getElem?_eq_getElem hl]
  exact congrArg some (of_decide_eq_true e)
theorem plc_no {ns : List Str} {z : Str} {m : Nat} (h : m < plc ns z) : ns[m]? ≠ some z := fun e => by
  have hn := List.not_of_lt_findIdx (p := fun x : Str => decide (x = z)) (xs := ns) h
  obtain ⟨hl, e⟩ := List.getElem?_eq_some_iff.mp e
  exact of_decide_eq_false hn e
def rTupIdx (K : PySem.W.Frag) : V → List V → Hp → VK → Prop := fun x xs H Q => ∃ p, ∃ ys : List Str, ∃ z j, x = .ref p ∧ xs = [.str z] ∧ SqT K H p (ys.map V.str) ∧ ys[j]? = some z ∧ (∀ m, m < j → ys[m]? ≠ some z) ∧ Q (.int (j : Nat)) H
theorem mt_tupIdxK {X : Cx} {K : PySem.W.Frag} (h : X.K = K) : MtR X "tuple.index" (rTupIdx K) := h ▸ mt_tup_index
theorem i_tupIdx {K : PySem.W.Frag} {H : Hp} {Q : VK} {p : Addr} {ns : List Str} {z : Str} (hs : SqT K H p (ns.map V.str)) (hz : z ∈ ns) (q : Q (.int (plc ns z : Nat)) H) : rTupIdx K (.ref p) [.str z] H Q :=
  ⟨p, ns, z, plc ns z, rfl, rfl, hs, plc_at hz, fun _ h => plc_no h, q⟩
def rTupF (K : PySem.W.Frag) : List V → Hp → VK → Prop := fun xs H Q => ∃ p ys, xs = [.ref p] ∧ SqL K H p ys ∧ ∀ (l : Addr) (o : Obj), H l = none → o.dict = none → Q (.ref l) (upd H l (.frz o (.tup ys)))
theorem n_tupF {X : Cx} {K : PySem.W.Frag} (h : X.K = K) : CallR X (.type "tuple") (rTupF K) := by
  subst h
  intro pins s σ H xs us Q I r h
  obtain ⟨p, ys, rfl, hq, q⟩ := h
  obtain ⟨u, rfl, rx⟩ := vals1 r
  cases rx
  obtain ⟨its, r', pl, hz⟩ := I.list hq
  have hlen := r'.length
  refine call_tuple_list pl.isList (fun h' kp => ?_) (by simp only [List.size_toArray] <;> omega)
  have I1 : Inv X pins σ H { s with heap := h' } := I.kept (t' := s.toks) kp
  have I2 := I1.laid (t' := s.toks) (a := h'.objs.size) (o := .frz { cls := .type "tuple", data := .seq its.toArray } (.tup ys)) (h' := h'.push { cls := .type "tuple", data := .seq its.toArray }) (fun b o e => Heap.get?_push_of_some _ e) (Nat.le_refl _)
    ⟨Heap.get?_push_size _ rfl, show ObjOk X.prog X.w _ _ _ (.tup ys) from ⟨hz, its, r', IsTup.new _ _⟩⟩
  exact ⟨.ref h'.objs.size, _, I2, rfl, q _ _ (I1.hok.fresh (Nat.le_refl _)) rfl⟩
theorem tupF_end {K : PySem.W.Frag} {H : Hp} {Q : VK} {p : Addr} {ys : List V} (h : SqL K H p ys) (k : ∀ (l : Addr) (o : Obj) H1, H l = none → o.dict = none → Same H H1 → H1 l = some (.frz o (.tup ys)) → Q (.ref l) H1) : rTupF K [.ref p] H Q := ⟨p, ys, rfl, h, fun l o hl ho => k l o _ hl ho (same_new hl) upd_same⟩
/-- a tuple of texts that can be asked for places -/
def Nt (H : Hp) (p : Addr) (ns : List Str) : Prop := ∃ o : Obj, H p = some (.frz o (.tup (ns.map V.str))) ∧ o.dict = none
theorem Nt.same {H H' : Hp} {p : Addr} {ns : List Str} (h : Nt H p ns) (s : Same H H') : Nt H' p ns := by
  obtain ⟨o, h1, h2⟩ := h
  exact ⟨o, s _ _ h1, h2⟩
theorem Nt.rd {H : Hp} {p : Addr} {ns : List Str} (h : Nt H p ns) : Rd H p (.tup (ns.map V.str)) := by
  obtain ⟨o, h1, h2⟩ := h
  exact .inr ⟨o, h1⟩
theorem Nt.sq {K : PySem.W.Frag} {H : Hp} {p : Addr} {ns : List Str} (h : Nt H p ns) : SqT K H p (ns.map V.str) := .inl h.rd
def tBMF (r : V → List V → Hp → VK → Prop) (to : TE) (t : TA) : TE := fun σ H Q => to σ H fun x H1 => (∃ (p : Addr) (o : Obj) (ys : List V), x = .ref p ∧ H1 p = some (.frz o (.tup ys)) ∧ o.dict = none) ∧ t σ H1 fun xs H2 => r x xs H2 Q
section
variable {X : Cx} {o e : Expr} {es : List Expr} {to : TE} {t : TA} {name : Str} {apos cpos : Pos} {id : String} {r : V → List V → Hp → VK → Prop}
theorem pe_bmF (pa : PlainAttrs "tuple") (slot : Slot "tuple" name id) (hty : typeOf (.builtin id) = pure (.type "method_descriptor")) (hm : MtR X id r) (ho : PE X o to) (ha : PA X (e :: es) t)
    (hbase : attributeBase o name X.env (eval o X.env) = eval o X.env := by rfl)
    (hfew : ((backTo cpos (starEach (e :: es) X.env)).all (fun x => !x.1) && (backToKw cpos (keywordEach [] X.env)).all (fun x => x.1.isSome)
      && decide ((e :: es).length + ([] : List Keyword).length + (if ([] : List Keyword).isEmpty then 0 else 1) < 30)) = true := by rfl)
    (hline : (apos.endLine == cpos.line) = true := by rfl) (hs : starEach (e :: es) X.env = (false, eval e X.env) :: starEach es X.env := by rfl) (hplain : (backTo cpos (starEach es X.env)).any (·.1) = false := by rfl) :
    PE X (.Call (.Attribute o name apos) (e :: es) [] cpos) (tBMF r to t) := by
  refine ⟨fun pins s σ H Q I h => ?_⟩
  refine wpAny_Call_method_late hbase hfew hline rfl (thn (ho.run pins s σ H _ I h) fun v s1 ⟨x, H1, I1, r1, ty, q1⟩ => ?_)
  obtain ⟨p, ob, ys, rfl, hp, hd⟩ := ty
  cases r1
  have z : ObjOk X.prog X.w H1 s1.heap p (.frz ob (.tup ys)) := I1.hok p _ hp
  obtain ⟨z1, _, its, _, o2, e2, c2, _⟩ := z
  have eo : o2 = ob := Option.some.inj (e2.symm.trans z1)
  subst eo
  refine ⟨"tuple", id, pa, slot, hty, ⟨o2, e2, c2⟩, fun a ea => by cases ea; exact ⟨o2, e2, hd⟩, ?_⟩
  have hA := ha.run cpos pins s1 σ H1 _ I1 q1
  rw [hs] at hA ⊢
  refine Calls.callWith_builtin (by show (false || (backTo cpos (starEach es X.env)).any (·.1)) = false; rw [hplain] <;> rfl) (Calls.evalArgs_plain ?_)
  exact thn hA fun us s2 ⟨vs, H2, I2, r2, q2⟩ => hm pins s2 σ H2 (.ref p) vs (.ref p) us Q I2 rfl r2 q2
theorem i_bmF {σ : L2.St} {H : Hp} {Q : VK} (q : to σ H fun x H1 => (∃ (p : Addr) (o : Obj) (ys : List V), x = .ref p ∧ H1 p = some (.frz o (.tup ys)) ∧ o.dict = none) ∧ t σ H1 fun xs H2 => r x xs H2 Q) : tBMF r to t σ H Q := q
end
theorem Nt.bm {H : Hp} {p : Addr} {ns : List Str} {A : Prop} (h : Nt H p ns) (q : A) : (∃ (p' : Addr) (o : Obj) (ys : List V), V.ref p = .ref p' ∧ H p' = some (.frz o (.tup ys)) ∧ o.dict = none) ∧ A := by
  obtain ⟨o, h1, h2⟩ := h
  exact ⟨⟨p, o, _, rfl, h1, h2⟩, q⟩
theorem i_mk {C : Addr} {sp : Sp} {dvs : List V} {ta : TA} {σ : L2.St} {H : Hp} {Q : XK} (q : ta σ H fun vs H1 => MkEnd C sp dvs Q vs H1) : tMkO C sp dvs ta σ H Q := q
instance {C : Addr} {sp : Sp} {dvs : List V} {ta : TA} {σ : L2.St} {H : Hp} {Q : XK} : Nx (tMkO C sp dvs ta σ H Q) (ta σ H fun vs H1 => MkEnd C sp dvs Q vs H1) := ⟨i_mk⟩
theorem mkA {K : PySem.W.Frag} {C : Addr} {f : Str} {v : V} {H : Hp} {Q : XK} (hC : OexC K C) (hno : PySem.W.findIn K (.ref C) f = some none) (hv : atomB v = true)
    (k : ∀ d H', H d = none → H' d = some (.xd [(f, v)]) → Same H H' → Q (.ref C) (some d) H') : MkEnd C (spInit1 f K) [] Q [v] H :=
  mk1 hC hno (.inl hv) fun v' d H' hd ed pt s => by
    rcases pt with ⟨_, rfl⟩ | ⟨_, _, _, rfl, _⟩
    · exact k d H' hd ed s
    · exact Bool.noConfusion hv
end My
namespace My
open PySem PySem.Spec PyProof.Rows L2
def gAny (K : PySem.W.Frag) (n : Nat) (t : TGs) : TG := fun v σ H Q => gLst K n t v σ H Q ∨ gTup K n t v σ H Q
theorem pg_any {X : Cx} {pos : Pos} {es : List Expr} {k : Nat} {t : TGs} {n : Nat} (hc : X.calm = true) (h : PGs X es t)
    (hn : (assignEach es X.env).length = n := by rfl) (hst : (assignEach es X.env).findIdx? (·.1) = none := by rfl) : PG X (.Tuple es k pos) (gAny X.K n t) := by
  exact ⟨fun pins s σ H v u Q I r hw => hw.elim (fun hw => (pg_lst hc h hn hst).run pins s σ H v u Q I r hw) fun hw => (pg_tup hc h hn hst).run pins s σ H v u Q I r hw⟩
theorem pg_tupK {X : Cx} {K : PySem.W.Frag} {pos : Pos} {es : List Expr} {k : Nat} {t : TGs} {n : Nat} (hK : X.K = K) (hc : X.calm = true) (h : PGs X es t)
    (hn : (assignEach es X.env).length = n := by rfl) (hst : (assignEach es X.env).findIdx? (·.1) = none := by rfl) : PG X (.Tuple es k pos) (gTup K n t) := hK ▸ pg_tup hc h hn hst
theorem gany2 {K : PySem.W.Frag} {i j : Nat} {p : Addr} {x y : V} {σ : L2.St} {H : Hp} {R : L2.St → Hp → Prop} (h : H p = some (.lst [x, y]) ∨ H p = some (.tup [x, y])) (q : R ((σ.set i (some x)).set j (some y)) H) :
    gAny K 2 (gCons (gName i) (gCons (gName j) gNil)) (.ref p) σ H R :=
  h.imp (fun h => ⟨p, _, rfl, sqL h, rfl, x, _, rfl, y, _, rfl, rfl, q⟩) fun h => ⟨p, _, rfl, sqT h, rfl, x, _, rfl, y, _, rfl, rfl, q⟩
theorem gany3 {K : PySem.W.Frag} {i j l : Nat} {p : Addr} {x y z : V} {σ : L2.St} {H : Hp} {R : L2.St → Hp → Prop} (h : H p = some (.lst [x, y, z]) ∨ H p = some (.tup [x, y, z])) (q : R (((σ.set i (some x)).set j (some y)).set l (some z)) H) :
    gAny K 3 (gCons (gName i) (gCons (gName j) (gCons (gName l) gNil))) (.ref p) σ H R :=
  h.imp (fun h => ⟨p, _, rfl, sqL h, rfl, x, _, rfl, y, _, rfl, z, _, rfl, rfl, q⟩) fun h => ⟨p, _, rfl, sqT h, rfl, x, _, rfl, y, _, rfl, z, _, rfl, rfl, q⟩
section
variable {K : PySem.W.Frag} {σ : L2.St} {H : Hp} {Q : VK} {te ta ti tv : TE} {nx bk ct : L2.St → Hp → Prop} {rt : VK}
theorem fa {g : TG} {tb : TS} {a : Addr} {xs : List V} {j : Nat} (hσ : σ[j]? = some (some (.ref a))) (h : H a = some (.lst xs) ∨ H a = some (.tup xs)) (Pv : Nat → L2.St → Hp → Prop) (p0 : Pv 0 σ H) (hk : ∀ i σ' H' u, Pv i σ' H' → H a = some u → H' a = some u)
    (ps : ∀ i x σ' H', xs[i]? = some x → Pv i σ' H' → g x σ' H' fun σ2 H2 => tb ⟨Pv (i + 1), rt, nx, Pv (i + 1)⟩ σ2 H2) (pd : ∀ σ' H', Pv xs.length σ' H' → nx σ' H') : tFor (iAny K (tVar j)) g tb ⟨nx, rt, bk, ct⟩ σ H := by
  rcases h with h | h
  · exact i_forAL (i_forL (i_var hσ (fl (sqL h) Pv p0 (fun i σ' H' _ p => sqL (hk i σ' H' _ p h)) ps pd)))
  · exact i_forAT (i_forT (i_var hσ (ft (sqT h) Pv p0 (fun i σ' H' _ p => sqT (hk i σ' H' _ p h)) ps pd)))
def DInEnd (y x : V) (H : Hp) (Q : VK) : Prop := ∃ a o, x = .ref a ∧ DGet H a y o ∧ Q (.bl o.isSome) H
theorem i_din (q : ti σ H fun y H1 => te σ H1 fun x H2 => DInEnd y x H2 Q) : tDIn ti te σ H Q := q
instance : Nx (tDIn ti te σ H Q) (ti σ H fun y H1 => te σ H1 fun x H2 => DInEnd y x H2 Q) := ⟨i_din⟩
theorem dinK {a : Addr} {kvs : List (Key × V)} {z : Str} (e : H a = some (.dK kvs)) (q : Q (.bl (valV kvs (Sum.inr z)).isSome) H) : DInEnd (.str z) (.ref a) H Q := ⟨a, _, rfl, .k (k := Sum.inr z) e, q⟩
theorem dinT {a b : Addr} {kvs : List (List Key × V)} {k : List Key} (e : H a = some (.dT kvs)) (eb : H b = some (.tup (k.map kV))) (q : Q (.bl (valV kvs k).isSome) H) : DInEnd (.ref b) (.ref a) H Q := ⟨a, _, rfl, .t e eb, q⟩
def DPutEnd (x y v : V) (H3 : Hp) (R : Hp → Prop) : Prop := ∃ a H4, x = .ref a ∧ DPut H3 a y v H4 ∧ R H4
theorem i_dput (q : tv σ H fun v H1 => te σ H1 fun x H2 => ti σ H2 fun y H3 => DPutEnd x y v H3 fun H4 => nx σ H4) : sDPut te ti tv ⟨nx, rt, bk, ct⟩ σ H := q
instance : Nx (sDPut te ti tv ⟨nx, rt, bk, ct⟩ σ H) (tv σ H fun v H1 => te σ H1 fun x H2 => ti σ H2 fun y H3 => DPutEnd x y v H3 fun H4 => nx σ H4) := ⟨i_dput⟩
theorem dputK {a : Addr} {kvs : List (Key × V)} {z : Str} {v : V} {R : Hp → Prop} (e : H a = some (.dK kvs)) (hl : kvs.length ≤ 1000) (q : R (upd H a (.dK (putK kvs (Sum.inr z) v)))) : DPutEnd (.ref a) (.str z) v H R := ⟨a, _, rfl, .k (k := Sum.inr z) e (Nat.lt_of_le_of_lt hl (by decide)), q⟩
theorem dputT {a b : Addr} {kvs : List (List Key × V)} {k : List Key} {v : V} {R : Hp → Prop} (e : H a = some (.dT kvs)) (eb : H b = some (.tup (k.map kV))) (hl : kvs.length ≤ 1000) (q : R (upd H a (.dT (putK kvs k v)))) : DPutEnd (.ref a) (.ref b) v H R := ⟨a, _, rfl, .t e eb (Nat.lt_of_le_of_lt hl (by decide)), q⟩
def DNewK (H : Hp) (Q : VK) : Prop := ∀ p, H p = none → Q (.ref p) (upd H p (.dK []))
def DNewT (H : Hp) (Q : VK) : Prop := ∀ p, H p = none → Q (.ref p) (upd H p (.dT []))
theorem i_dnewK (q : DNewK H Q) : tDNewK σ H Q := q
instance : Nx (tDNewK σ H Q) (DNewK H Q) := ⟨i_dnewK⟩
theorem i_dnewT (q : DNewT H Q) : tDNewT σ H Q := q
instance : Nx (tDNewT σ H Q) (DNewT H Q) := ⟨i_dnewT⟩
def DGetEnd (x y : V) (H : Hp) (Q : VK) : Prop := ∃ a v, x = .ref a ∧ DGet H a y (some v) ∧ Q v H
theorem i_dget (q : te σ H fun x H1 => ti σ H1 fun y H2 => DGetEnd x y H2 Q) : tDGet te ti σ H Q := q
instance : Nx (tDGet te ti σ H Q) (te σ H fun x H1 => ti σ H1 fun y H2 => DGetEnd x y H2 Q) := ⟨i_dget⟩
theorem dgetT {a b : Addr} {kvs : List (List Key × V)} {k : List Key} {v : V} (e : H a = some (.dT kvs)) (eb : H b = some (.tup (k.map kV))) (hv : valV kvs k = some v) (q : Q v H) : DGetEnd (.ref a) (.ref b) H Q := ⟨a, v, rfl, hv ▸ .t e eb, q⟩
/-- the items of a dict that is locked meanwhile -/
theorem i_lockE {t : TE} {d : Addr} {kvs : List (Key × V)} (h : H d = some (.dK kvs)) (q : ∀ od : Obj, t σ (upd H d (.frz od (.dK kvs))) fun v H' => H' d = some (.frz od (.dK kvs)) ∧ Q v (upd H' d (.dK kvs))) : tLockE t σ H Q :=
  ⟨d, .dK kvs, h, True.intro, q⟩
def CI (g : TG) (tt : TT) (te : TE) (vs : List Nat) (σ : L2.St) (Q : VK) : V → Hp → Prop := fun x H1 => ∃ d o kvs, x = .ref d ∧ H1 d = some (.frz o (.dK kvs)) ∧ ∀ D, H1 D = none → ∃ W : Nat → Nat → Hp → Prop, (∃ m, W 0 m (upd H1 D (.lst []))) ∧ ∀ i m H, W i m H →
  ((Iti d o kvs).stop i H ∧ Q (.ref D) H) ∨ ((Iti d o kvs).go i H ∧ ∃ Nx : Hp → Prop, (∀ H', Nx H' → ∃ m', m' < m ∧ W (i + 1) m' H') ∧ ∀ x H', (Iti d o kvs).yld i H x H' → g x (wipe σ vs) H' fun σ2 H2 => wipe σ2 vs = wipe σ vs ∧ tt σ2 H2 fun b H3 =>
    if b = true then te σ2 H3 fun y H4 => ∃ acc, H4 D = some (.lst acc) ∧ acc.length < sizeLine ∧ Nx (upd H4 D (.lst (acc ++ [y]))) else Nx H3)
theorem i_lcI {g : TG} {tt : TT} {vs : List Nat} (q : ta σ H fun x H1 => CI g tt te vs σ Q x H1) : tLc (iItems ta) g tt te vs σ H Q := q
instance {g : TG} {tt : TT} {vs : List Nat} : Nx (tLc (iItems ta) g tt te vs σ H Q) (ta σ H fun x H1 => CI g tt te vs σ Q x H1) := ⟨i_lcI⟩
theorem ci {g : TG} {tt : TT} {vs : List Nat} {d : Addr} {o : Obj} {kvs : List (Key × V)} (h : H d = some (.frz o (.dK kvs))) (Pv : Addr → Nat → Hp → Prop) (p0 : ∀ D, H D = none → Pv D 0 (upd H D (.lst []))) (hl : ∀ D i H', H D = none → Pv D i H' → H' d = some (.frz o (.dK kvs)))
    (ps : ∀ D i T kv H', H D = none → kvs[i]? = some kv → Pv D i H' → H' T = none → g (.ref T) (wipe σ vs) (upd H' T (.tup [kV kv.1, kv.2])) fun σ2 H2 => wipe σ2 vs = wipe σ vs ∧ tt σ2 H2 fun b H3 => if b = true then te σ2 H3 fun y H4 => ∃ acc, H4 D = some (.lst acc) ∧ acc.length < sizeLine ∧ Pv D (i + 1) (upd H4 D (.lst (acc ++ [y]))) else Pv D (i + 1) H3)
    (pd : ∀ D H', H D = none → Pv D kvs.length H' → Q (.ref D) H') : CI g tt te vs σ Q (.ref d) H :=
  ⟨d, o, kvs, rfl, h, fun D hD => lc_it walk_items (Pv D) (p0 D hD) (fun i H' _ p => hl D i H' hD p) (fun i x H' H2 hi p y => by
    obtain ⟨T, k, v, rfl, hT, rfl, e1, e2⟩ := y
    have hkv : kvs[i]? = some kvs[i] := List.getElem?_eq_getElem hi
    dsimp only at e1 e2
    rw [hkv] at e1 e2
    cases e1
    cases e2
    exact ps D i T kvs[i] H' hD hkv p hT) fun H' p => pd D H' hD p⟩
end
theorem valV_none {κ : Type} [DecidableEq κ] {kvs : List (κ × V)} {k : κ} (h : k ∉ kvs.map (·.1)) : valV kvs k = none := by
  unfold valV
  rw [List.find?_eq_none.mpr fun kv hkv e => h (by rw [← of_decide_eq_true e]; exact List.mem_map_of_mem hkv)]
  rfl
theorem valV_some {κ : Type} [DecidableEq κ] {kvs : List (κ × V)} {k : κ} (h : k ∈ kvs.map (·.1)) : (valV kvs k).isSome = true := by
  unfold valV
  cases e : kvs.find? fun kv => decide (kv.1 = k) with
  | some x => rfl
  | none =>
    obtain ⟨kv, h1, h2⟩ := List.mem_map.mp h
    exact absurd (decide_eq_true h2) (List.find?_eq_none.mp e kv h1)
theorem putK_new {κ : Type} [DecidableEq κ] {kvs : List (κ × V)} {k : κ} {v : V} (h : k ∉ kvs.map (·.1)) : putK kvs k v = kvs ++ [(k, v)] := by
  unfold putK
  rw [if_neg]
  intro e
  obtain ⟨kv, h1, h2⟩ := List.any_eq_true.mp e
  exact h (List.mem_map.mpr ⟨kv, h1, of_decide_eq_true h2⟩)
theorem i_lenVA {K : PySem.W.Frag} {H : Hp} {Q : VK} {p : Addr} {ys : List V} (h : H p = some (.lst ys) ∨ H p = some (.tup ys)) (q : Q (.int ys.length) H) : rLenV K [.ref p] H Q :=
  h.elim (fun h => i_lenVL (sqL h) q) fun h => i_lenVT (sqT h) q
theorem cr_sortedPOK {X : Cx} {K : PySem.W.Frag} (h : X.K = K) : CallR X (.builtin "sorted") (rSortedPO K) := h ▸ cr_sortedPO
def numI : Dt → Int
  | .int i => i
  | _ => 0
def isNum : Dt → Bool
  | .int _ => true
  | .bl _ => true
  | _ => false
def inR (lo hi : Int) : Dt → Bool
  | .int i => decide (lo ≤ i) && decide (i ≤ hi)
  | _ => false
def atV : Dt → V
  | .str z => .str z
  | .int i => .int i
  | .bl b => .bl b
  | .seq _ => .non
def isAt : Dt → Bool
  | .seq _ => false
  | _ => true
theorem rp_at {P : Addr → Prop} {H : Hp} {n : Nat} {d : Dt} {v : V} (h : Rp P H n d v) (a : isAt d = true) : v = atV d := by
  cases h with
  | str n z => rfl
  | int n i => rfl
  | bl n b => rfl
  | lst _ _ _ _ _ => exact Bool.noConfusion a
  | tup _ _ _ _ => exact Bool.noConfusion a
/-- a row of atoms, list or tuple -/
theorem rp_row {P : Addr → Prop} {H : Hp} {n : Nat} {ds : List Dt} {v : V} (h : Rp P H n (.seq ds) v) (a : ∀ d ∈ ds, isAt d = true) : ∃ p, v = .ref p ∧ (H p = some (.lst (ds.map atV)) ∨ H p = some (.tup (ds.map atV))) := by
  have key : ∀ {m : Nat} {vs : List V}, vs.length = ds.length → (∀ (i : Nat) (d : Dt) (v : V), ds[i]? = some d → vs[i]? = some v → Rp P H m d v) → vs = ds.map atV := fun {m vs} hl h => by
    refine List.ext_getElem? fun i => ?_
    rw [List.getElem?_map]
    by_cases hi : i < ds.length
    · rw [List.getElem?_eq_getElem hi, List.getElem?_eq_getElem (show i < vs.length by omega)]
      exact congrArg some (rp_at (h i _ _ (List.getElem?_eq_getElem hi) (List.getElem?_eq_getElem (show i < vs.length by omega))) (a _ (List.getElem_mem hi)))
    · rw [List.getElem?_eq_none (by omega), List.getElem?_eq_none (by omega)]
      rfl
  cases h with
  | lst ha pa hl hz h =>
    rw [key hl h] at ha
    exact ⟨_, rfl, .inl ha⟩
  | tup ha hl hz h =>
    rw [key hl h] at ha
    exact ⟨_, rfl, .inr ha⟩
/-- a list or tuple of data -/
theorem rp_seq {P : Addr → Prop} {H : Hp} {n : Nat} {ds : List Dt} {v : V} (h : Rp P H (n + 1) (.seq ds) v) : ∃ (p : Addr) (vs : List V), v = .ref p ∧ (H p = some (.lst vs) ∨ H p = some (.tup vs)) ∧ vs.length = ds.length ∧ vs.length ≤ 1000 ∧ ∀ (i : Nat) (d : Dt) (v : V), ds[i]? = some d → vs[i]? = some v → Rp P H n d v := by
  cases h with
  | lst ha pa hl hz h => exact ⟨_, _, rfl, .inl ha, hl, hz, h⟩
  | tup ha hl hz h => exact ⟨_, _, rfl, .inr ha, hl, hz, h⟩
end My
namespace My
open PySem PySem.Spec PyProof.Rows L2
/-- an own class whose instances have the attributes fs -/
structure Ci (K : PySem.W.Frag) (mg : Str → Option Value) (x : Str) (fs : List Str) : Prop where
  g : mg x = some (.ref (gad K x))
  cl : Cls K (gad K x)
  no : ∀ f ∈ fs, NoAttr K (gad K x) f
section
variable {K : PySem.W.Frag} {σ : L2.St} {H : Hp} {Q : VK} {te ta ti tv : TE} {nx bk ct : L2.St → Hp → Prop} {rt : VK} {f : Str}
def FldEnd (K : PySem.W.Frag) (f : Str) (x : V) (H1 : Hp) (Q : VK) : Prop := ∃ a C dx fs v, x = .ref a ∧ H1 a = some (.ins C dx fs) ∧ Cls K C ∧ NoAttr K C f ∧ fs.lookup f = some v ∧ Q v H1
theorem pe_fldK {X : Cx} {e : Expr} {pos : Pos} (hK : X.K = K) (he : PE X e ta) (hb : attributeBase e f X.env (eval e X.env) = eval e X.env) : PE X (.Attribute e f pos) (tFld K ta f) := hK ▸ pe_fld he hb
theorem i_fld (q : ta σ H fun x H1 => FldEnd K f x H1 Q) : tFld K ta f σ H Q := q
instance : Nx (tFld K ta f σ H Q) (ta σ H fun x H1 => FldEnd K f x H1 Q) := ⟨i_fld⟩
theorem fld_end {a C dx : Addr} {fs : List (Str × V)} {v : V} (h : H a = some (.ins C dx fs)) (c : Cls K C) (n : NoAttr K C f) (l : fs.lookup f = some v) (q : Q v H) : FldEnd K f (.ref a) H Q := ⟨a, C, dx, fs, v, rfl, h, c, n, l, q⟩
def SFldEnd (K : PySem.W.Frag) (f : Str) (y x : V) (H2 : Hp) (R : Hp → Prop) : Prop := ∃ a C dx fs, x = .ref a ∧ H2 a = some (.ins C dx fs) ∧ Cls K C ∧ NoAttr K C f ∧ fs.length < 1000 ∧ R (upd H2 a (.ins C dx (putF f y fs)))
theorem ps_fldK {X : Cx} {o value : Expr} {pos pos' : Pos} (hK : X.K = K) (ha : PE X o ta) (hv : PE X value tv) (hs : swapsWith value (some (.Attribute o f pos')) pos.line X.env = pure false) : PS X (.Assign [.Attribute o f pos'] value pos) (sFld K ta tv f) := hK ▸ ps_fld ha hv hs
theorem i_sfld (q : tv σ H fun y H1 => ta σ H1 fun x H2 => SFldEnd K f y x H2 fun H3 => nx σ H3) : sFld K ta tv f ⟨nx, rt, bk, ct⟩ σ H := q
instance : Nx (sFld K ta tv f ⟨nx, rt, bk, ct⟩ σ H) (tv σ H fun y H1 => ta σ H1 fun x H2 => SFldEnd K f y x H2 fun H3 => nx σ H3) := ⟨i_sfld⟩
theorem sfld_end {a C dx : Addr} {fs : List (Str × V)} {y : V} {R : Hp → Prop} (h : H a = some (.ins C dx fs)) (c : Cls K C) (n : NoAttr K C f) (l : fs.length ≤ 900) (q : R (upd H a (.ins C dx (putF f y fs)))) : SFldEnd K f y (.ref a) H R := ⟨a, C, dx, fs, rfl, h, c, n, by omega, q⟩
end
theorem putF_cons {f g : Str} {v x : V} {r : List (Str × V)} (h : ¬ g = f) : putF f v ((g, x) :: r) = (g, x) :: putF f v r := by
  show (if g = f then _ else _) = _
  rw [if_neg h]
theorem lookup_eq {f : Str} {v : V} {r : List (Str × V)} : List.lookup f ((f, v) :: r) = some v := by
  rw [lookup_put, if_pos rfl]
theorem lookup_ne {f g : Str} {v : V} {r : List (Str × V)} (h : ¬ f = g) : List.lookup f ((g, v) :: r) = List.lookup f r := by
  rw [lookup_put, if_neg h]
/-- a web's attributes -/
def wf (a b c d : V) : List (Str × V) := [("_folk", a), ("_names", b), ("_watches", c), ("_pulls", d)]
theorem put1 {a : V} : putF "_folk" a [] = [(("_folk" : Str), a)] := rfl
theorem put2 {a b : V} : putF "_names" b ([(("_folk" : Str), a)] : List (Str × V)) = [(("_folk" : Str), a), (("_names" : Str), b)] := by
  rw [putF_cons (by decide +kernel)]
  rfl
theorem put3 {a b c : V} : putF "_watches" c ([(("_folk" : Str), a), (("_names" : Str), b)] : List (Str × V)) = [(("_folk" : Str), a), (("_names" : Str), b), (("_watches" : Str), c)] := by
  rw [putF_cons (by decide +kernel), putF_cons (by decide +kernel)]
  rfl
theorem put4 {a b c d : V} : putF "_pulls" d ([(("_folk" : Str), a), (("_names" : Str), b), (("_watches" : Str), c)] : List (Str × V)) = wf a b c d := by
  rw [putF_cons (by decide +kernel), putF_cons (by decide +kernel), putF_cons (by decide +kernel)]
  rfl
theorem lk_folk {a : V} {r : List (Str × V)} : List.lookup (("_folk" : Str)) (((("_folk" : Str)), a) :: r) = some a := lookup_eq
theorem lk_names {a b : V} {r : List (Str × V)} : List.lookup (("_names" : Str)) ((("_folk" : Str), a) :: (("_names" : Str), b) :: r) = some b := by
  rw [lookup_ne (by decide +kernel), lookup_eq]
theorem lk_watches {a b c : V} {r : List (Str × V)} : List.lookup (("_watches" : Str)) ((("_folk" : Str), a) :: (("_names" : Str), b) :: (("_watches" : Str), c) :: r) = some c := by
  rw [lookup_ne (by decide +kernel), lookup_ne (by decide +kernel), lookup_eq]
def Sq2 (K : PySem.W.Frag) (H : Hp) (p : Addr) (vs : List V) : Prop := H p = some (.lst vs) ∨ H p = some (.tup vs) ∨ ∀ H', SqT K H' p vs
theorem Sq2.keep {K : PySem.W.Frag} {H H' : Hp} {p : Addr} {vs : List V} (h : Sq2 K H p vs) (k : ∀ u, H p = some u → H' p = some u) : Sq2 K H' p vs := h.imp (k _) fun h => h.imp (k _) id
theorem i_lenV2 {K : PySem.W.Frag} {H : Hp} {Q : VK} {p : Addr} {ys : List V} (h : Sq2 K H p ys) (q : Q (.int ys.length) H) : rLenV K [.ref p] H Q := by
  rcases h with h | h | h
  · exact i_lenVL (sqL h) q
  · exact i_lenVT (sqT h) q
  · exact i_lenVT (h H) q
theorem fa2 {K : PySem.W.Frag} {σ : L2.St} {H : Hp} {nx bk ct : L2.St → Hp → Prop} {rt : VK} {g : TG} {tb : TS} {a : Addr} {xs : List V} {j : Nat} (hσ : σ[j]? = some (some (.ref a))) (h : Sq2 K H a xs) (Pv : Nat → L2.St → Hp → Prop) (p0 : Pv 0 σ H) (hk : ∀ i σ' H', Pv i σ' H' → ∀ u, (u = .lst xs ∨ u = .tup xs) → H a = some u → H' a = some u)
    (ps : ∀ i x σ' H', xs[i]? = some x → Pv i σ' H' → g x σ' H' fun σ2 H2 => tb ⟨Pv (i + 1), rt, nx, Pv (i + 1)⟩ σ2 H2) (pd : ∀ σ' H', Pv xs.length σ' H' → nx σ' H') : tFor (iAny K (tVar j)) g tb ⟨nx, rt, bk, ct⟩ σ H := by
  rcases h with h | h | h
  · exact i_forAL (i_forL (i_var hσ (fl (sqL h) Pv p0 (fun i σ' H' _ p => sqL (hk i σ' H' p _ (.inl rfl) h)) ps pd)))
  · exact i_forAT (i_forT (i_var hσ (ft (sqT h) Pv p0 (fun i σ' H' _ p => sqT (hk i σ' H' p _ (.inr rfl) h)) ps pd)))
  · exact i_forAT (i_forT (i_var hσ (ft (h H) Pv p0 (fun i σ' H' _ p => h H') ps pd)))
end My
namespace My
open PySem PySem.Spec PyProof.Rows L2
def MethEnd (C : Addr) (m : Str) (sp : Sp) (dvs : List V) (E : XK) (t : TA) (σ : L2.St) (Q : VK) (x : V) (H1 : Hp) : Prop := ∃ a dx fs, x = .ref a ∧ H1 a = some (.ins C dx fs) ∧ fs.lookup m = none ∧ t σ H1 fun vs H2 => sp (x :: (vs ++ dvs)) H2 Q E
theorem i_meth {C : Addr} {m : Str} {sp : Sp} {dvs : List V} {E : XK} {ta : TE} {t : TA} {σ : L2.St} {H : Hp} {Q : VK} (q : ta σ H fun x H1 => MethEnd C m sp dvs E t σ Q x H1) : tMeth C m sp dvs E ta t σ H Q := q
instance {C : Addr} {m : Str} {sp : Sp} {dvs : List V} {E : XK} {ta : TE} {t : TA} {σ : L2.St} {H : Hp} {Q : VK} : Nx (tMeth C m sp dvs E ta t σ H Q) (ta σ H fun x H1 => MethEnd C m sp dvs E t σ Q x H1) := ⟨i_meth⟩
end My
namespace My
open PySem PySem.Spec PyProof.Rows L2
theorem contains_X {M : Model} {A : Around} {E : Value → Shared → Prop} {s : Shared} {K : PySem.W.Frag} {x C f : Addr} {ox : Obj} {od : Option Obj} {v : Value} {Q : Bool → Shared → Prop} (X : K.In s.heap) (I : PySem.W.InstAt s.heap x ox C od) (hs : PySem.W.findIn K (.ref C) "__contains__" = some (some (.ref f))) (hf : PySem.W.isFn K (.ref f) = true)
    (h : wpAny M A (call (.ref f) [.ref x, v]) (fun r s' => wpAny M A (truthy r) Q E s') E s) : wpAny M A (contains (.ref x) v) Q E s := by
  unfold contains
  refine wpAny_holding (wpAny_bind (wpAny_bind (I.type.here ((PySem.W.looks_findIn X hs).here ?_))))
  rw [if_neg (by simp)]
  exact wpAny_bind (PySem.W.unlessNone_K X I hs hf h)
end My
namespace My
open PySem PySem.Spec PySem.Calls PyProof.Rows PySem.W L2
section
variable {prog : Program} {w : World} {A : Around} {E : Value → Shared → Prop} {s : Shared} {K : Frag} {x D : Addr} {ox : Obj} {od : Option Obj}
theorem cls_at (T : ExcC K D) : findObj K D od "__class__" = some (.bind (.builtin "getset_descriptor.__get__") (.builtin "object.__class__")) := by
  obtain ⟨cd, hc, _⟩ := any_some T.hd
  cases od with
  | none => exact findObj_dataN (by rw [hc]; rfl) T.ha T.hn T.ht
  | some o => exact findObj_data (by rw [hc]; rfl) T.ha T.hn T.ht
theorem cls_asked {Q : Option Value → Shared → Prop} (T : ExcC K D) (X : K.In s.heap) (I : InstAt s.heap x ox D od) (h : Q (some (.ref D)) { s with toks := s.toks + 1 }) : wpAny (model prog w) A (getAttr? (.ref x) "__class__") Q E s := by
  obtain ⟨hp, g, d, t, os⟩ := s
  have L0 := I.type (M := model prog w); have L1 := looks_findIn (M := model prog w) X T.hg; have L2 := looks_findIn (M := model prog w) X T.hk
  have L3 := looks_find (M := model prog w) X I (cls_at (od := od) T); have sub : Looks (model prog w) hp (isInstance (.ref x) (.type "BaseException")) true := L0.andThen (looks_subIn X T.hs)
  have z2 : (Value.builtin "BaseException.__getattribute__" == Value.builtin "object.__getattribute__") = false := by decide +kernel
  have z1 : (onTheHeap (Value.ref D) && Value.builtin "BaseException.__getattribute__" == Value.builtin "object.__getattribute__") = false := by rw [z2]; rfl
  unfold getAttr? getAttrBy? getAttrBy; refine wpAny_bind (wpAny_mkText (wpAny_bind (wpAny_attempt (wpAny_holding (wpAny_bind (L0.at (wpAny_bind (L1.at ?_))))))))
  show wpAny _ _ (if (onTheHeap (Value.ref D) && Value.builtin "BaseException.__getattribute__" == Value.builtin "object.__getattribute__") = true then _ else _) _ _ _; rw [z1, if_neg Bool.false_ne_true]
  unfold getAttrByItsOwn hookBefore; refine wpAny_bind ?_; rw [if_pos (show onTheHeap (Value.ref D) = true from rfl)]
  refine L2.at (wpAny_bind (wpAny_attempt (wpAny_holding ?_))); unfold callGetattribute
  rw [show (false && onTheHeap (Value.builtin "BaseException.__getattribute__")) = false from rfl, if_neg Bool.false_ne_true]
  unfold boundAndCalled; rw [PySem.F.excAttr_ValueError.ga.bind (.ref x)]
  refine wpAny_bind (wpAny_pure ?_); show wpAny _ _ (call (.builtin "BaseException.__getattribute__") [.ref x, .str "__class__" t]) _ _ _
  refine wpAny_call (codeAny_call_builtin PySem.F.excAttr_ValueError.ga.plain PySem.F.entry_bexc_ga (@check_slot (model prog w) _ _ ⟨hp, g, d, t + 1, os⟩ "BaseException.__getattribute__" "BaseException" "__getattribute__" (.ref x) [.str "__class__" t] [] _ (by decide +kernel) (by decide +kernel) sub (PySem.F.args_bexc_ga (.ref x) (.str "__class__" t)) ?_))
  unfold Builtin.«object.__getattribute__»; refine wpAny_bind (wpAny_of_eq (a := ((Value.ref x : Value), [Value.str "__class__" t])) (by first | rfl | (simp only [slotArgs]; rfl)) (wpAny_bind (wpAny_pure (wpAny_bind (L0.at (wpAny_bind (L3.at ?_)))))))
  show wpAny _ _ (holding [Value.builtin "object.__class__"] (call (.builtin "getset_descriptor.__get__") [.builtin "object.__class__", .ref x, .ref D]) >>= ret) _ _ _; refine wpAny_bind (wpAny_holding (wpAny_call (class_get (s := ⟨hp, g, d, t + 1, os⟩) (ox := ox) (od := od) X I T.hm (wpAny_pure ?_))))
  show wpAny _ _ (handedOut (.ref D)) _ _ _; rw [handedOut_of (v := .ref D) rfl]
  (first | exact wpAny_pure (wpAny_pure h) | exact wpAny_pure h | exact wpAny_pure (wpAny_bind (wpAny_pure (wpAny_pure h))))
theorem kitx_exc (T : ExcC K D) : KitX K (.ref x) (.ref D) (fun h => InstAt h x ox D od) where
  ty := fun _ _ _ I => I.type
  it := fun _ _ X _ => by
    obtain ⟨cdD, hcD, _⟩ := any_some T.hd; unfold clsIn at hcD
    split at hcD
    · rename_i c' d' cd' sl' ho; intro A' Q' E' s' k q; unfold isType loadHead
      exact wpAny_bind (wpAny_loadPart (k _ _ (X _ _ ho)) (wpAny_pure q))
    · cases hcD
  ne := fun h tp dd its n sl X htp => by
    obtain ⟨cdD, hcD, _⟩ := any_some T.hd; refine Bool.eq_false_iff.mpr fun q => ?_
    have e : D = tp := Value.ref.inj (beq_iff_eq.mp q); subst e; unfold clsIn at hcD
    split at hcD
    · rename_i c' d' cd' sl' ho; cases (X _ _ ho).symm.trans htp
    · cases hcD
  ca := fun X I k => cls_asked T X I k
end
/-- isinstance(e, c), isinstance(e, (c, d, ..)), e the exception that the suite holds -/
def rIsX (K : Frag) (a : Addr) (cls : Value) (d : Option Addr) : List V → Hp → VK → Prop := fun xs H Q => ∃ (D : Addr) (b : Bool), cls = .ref D ∧ ExcC K D ∧ (d = none ∨ ∃ dd fs, d = some dd ∧ H dd = some (.xd fs)) ∧
  ((∃ c cv, xs = [.ref a, c] ∧ ClsV c cv ∧ kitOne K (.ref D) cv = some b) ∨ ∃ tp cs ws, xs = [.ref a, .ref tp] ∧ H tp = some (.tup cs) ∧ Paired ClsV cs ws ∧ kitAny K (.ref D) ws = some b) ∧ Q (.bl b) H
theorem call_isX {X : Cx} {K : Frag} {a : Addr} {cls : Value} {d : Option Addr} {oe : Obj} {pn : List (Addr × Obj)} (hK : X.K = K) (hz : Zc cls d oe) (hf : ∃ vs, oe.data = .fields vs) : CallR (X.suite a ((a, oe) :: pn)) (.builtin "isinstance") (rIsX K a cls d) := by
  subst hK
  intro pins s σ H xs us Q I r h
  obtain ⟨D, b, rfl, T, hd, h, q⟩ := h
  obtain ⟨hget, _⟩ := I.pin (a, oe) (List.mem_append.mpr (.inl List.mem_cons_self))
  obtain ⟨vs, hv⟩ := hf
  have J : ∃ od, InstAt s.heap a oe D od := by
    obtain ⟨oc, ode, oda, osl⟩ := oe
    obtain ⟨h1, h2⟩ := hz
    dsimp only at h1 h2 hv
    subst h1 h2 hv
    rcases hd with rfl | ⟨dd, fs, rfl, hdd⟩
    · exact ⟨none, hget, rfl, rfl, trivial⟩
    · obtain ⟨mA, hns, _⟩ := (show ObjOk X.prog X.w H s.heap dd (.xd fs) from I.hok dd _ hdd)
      obtain ⟨od, ho, _⟩ := lookIn_ns hns
      exact ⟨some od, hget, rfl, rfl, ho⟩
  obtain ⟨od, J⟩ := J
  rcases h with ⟨c, cv, rfl, kc, e⟩ | ⟨tp, cs, ws, rfl, hT, k, e⟩
  · obtain ⟨u1, u2, rfl, r1, r2⟩ := vals2 r
    cases (show u1 = Value.ref a from r1)
    have e2 := kc.eq r2
    subst e2
    exact kia_one (kitx_exc T) I.kIn J e (fun z => nomatch z) fun tk => ⟨.bl b, H, I.tok tk, rfl, q⟩
  · obtain ⟨u1, u2, rfl, r1, r2⟩ := vals2 r
    cases (show u1 = Value.ref a from r1)
    cases (show u2 = Value.ref tp from r2)
    obtain ⟨_, its, rv, o, h1, h2, n, h3⟩ := (show ObjOk X.prog X.w H s.heap tp (.tup cs) from I.hok tp _ hT)
    have e3 := ClsV.all k rv
    subst e3
    obtain ⟨oc, od', dt, sl⟩ := o
    simp only at h2 h3
    subst h2 h3
    exact kia_tup (kitx_exc T) I.kIn J h1 e (fun z => nomatch z) fun tk => ⟨.bl b, H, I.tok tk, rfl, q⟩
end My
namespace My
open PySem PySem.Spec PyProof.Rows L2
theorem op_catAK {X : Cx} {K : PySem.W.Frag} (h : X.K = K) : OpR X (binaryOp .Add) (rCatA K) := h ▸ op_catA
theorem i_catNil {K : PySem.W.Frag} {H : Hp} {Q : VK} {a b : Addr} {ys : List V} (h1 : SqT K H a []) (h2 : SqT K H b ys) (l : ys.length ≤ 100000) (q : Q (.ref b) H) : rCatA K (.ref a) (.ref b) H Q :=
  ⟨a, b, [], ys, rfl, rfl, h1, h2, Nat.le_trans (by simpa using l) (by decide), fun _ => q, fun e => absurd rfl e, fun e => absurd rfl e⟩
theorem rd_sq {K : PySem.W.Frag} {H : Hp} {a : Addr} {xs : List V} (h : Rd H a (.tup xs)) : SqT K H a xs := .inl h
end My
namespace My
open PySem PySem.Spec PyProof.Rows L2
theorem pi_tupK {X : Cx} {K : PySem.W.Frag} {tg l : Expr} {te : TE} (h : X.K = K) (hl : PE X l te) : PI X tg l (iTup K te) := by
  subst h
  exact pi_tup hl
end My
namespace My
open PySem PySem.Spec PyProof.Rows L2
section
variable {X : Cx} {CX : CXT} {k : Nat} {f C : Addr} {fd : FuncData} {ps : List Str} {sp : Sp} {dvs : List V} {ds : List Value} {W : WX} {x m : Str} {p pos apos : Pos} {e o : Expr} {es : List Expr} {ta : TE} {t : TA}
def tMethA (C : Addr) (m : Str) (sp : Sp) (dvs : List V) (W : WX) (ta : TE) (t : TA) : TE := fun σ H Q => ta σ H fun x H1 => MethEnd C m sp dvs (fun c d H' => W c d σ H') t σ Q x H1
def MakeEnd (C : Addr) (sp : Sp) (dvs : List V) (E : XK) (Q : VK) (vs : List V) (H1 : Hp) : Prop := ∀ x dx, H1 x = none → H1 dx = none → dx ≠ x → sp (.ref x :: (vs ++ dvs)) (upd (upd H1 dx (.own x)) x (.ins C dx [])) (fun v H2 => v = .non ∧ Q (.ref x) H2) E
def tMakeA (C : Addr) (sp : Sp) (dvs : List V) (W : WX) (t : TA) : TE := fun σ H Q => t σ H fun vs H1 => MakeEnd C sp dvs (fun c d H' => W c d σ H') Q vs H1
end
section
variable {K : PySem.W.Frag} {σ : L2.St} {H : Hp} {Q : VK} {ta te : TE} {t : TA} {nx bk ct : L2.St → Hp → Prop} {rt : VK}
theorem i_methA {C : Addr} {m : Str} {sp : Sp} {dvs : List V} {W : WX} (q : ta σ H fun x H1 => MethEnd C m sp dvs (fun c d H' => W c d σ H') t σ Q x H1) : tMethA C m sp dvs W ta t σ H Q := q
instance {C : Addr} {m : Str} {sp : Sp} {dvs : List V} {W : WX} : Nx (tMethA C m sp dvs W ta t σ H Q) (ta σ H fun x H1 => MethEnd C m sp dvs (fun c d H' => W c d σ H') t σ Q x H1) := ⟨i_methA⟩
theorem i_makeA {C : Addr} {sp : Sp} {dvs : List V} {W : WX} (q : t σ H fun vs H1 => MakeEnd C sp dvs (fun c d H' => W c d σ H') Q vs H1) : tMakeA C sp dvs W t σ H Q := q
instance {C : Addr} {sp : Sp} {dvs : List V} {W : WX} : Nx (tMakeA C sp dvs W t σ H Q) (t σ H fun vs H1 => MakeEnd C sp dvs (fun c d H' => W c d σ H') Q vs H1) := ⟨i_makeA⟩
theorem i_make {C : Addr} {sp : Sp} {dvs : List V} {E : XK} (q : t σ H fun vs H1 => MakeEnd C sp dvs E Q vs H1) : tMake C sp dvs E t σ H Q := q
instance {C : Addr} {sp : Sp} {dvs : List V} {E : XK} : Nx (tMake C sp dvs E t σ H Q) (t σ H fun vs H1 => MakeEnd C sp dvs E Q vs H1) := ⟨i_make⟩
theorem i_callSD {sp : Sp} {dvs : List V} {W : WX} (q : t σ H fun vs H1 => sp (vs ++ dvs) H1 Q (fun c d H' => W c d σ H')) : tCallSD sp dvs (fun σ c d H' => W c d σ H') t σ H Q := q
instance {sp : Sp} {dvs : List V} {W : WX} : Nx (tCallSD sp dvs (fun σ c d H' => W c d σ H') t σ H Q) (t σ H fun vs H1 => sp (vs ++ dvs) H1 Q (fun c d H' => W c d σ H')) := ⟨i_callSD⟩
def PropEnd (C : Addr) (sp : Sp) (dvs : List V) (E : XK) (Q : VK) (x : V) (H1 : Hp) : Prop := ∃ a dx fs, x = .ref a ∧ H1 a = some (.ins C dx fs) ∧ sp (.ref a :: dvs) H1 Q E
theorem i_prop {C : Addr} {sp : Sp} {dvs : List V} {E : XK} (q : ta σ H fun x H1 => PropEnd C sp dvs E Q x H1) : tProp C sp dvs E ta σ H Q := q
instance {C : Addr} {sp : Sp} {dvs : List V} {E : XK} : Nx (tProp C sp dvs E ta σ H Q) (ta σ H fun x H1 => PropEnd C sp dvs E Q x H1) := ⟨i_prop⟩
theorem prop_end {C a dx : Addr} {fs : List (Str × V)} {sp : Sp} {dvs : List V} {E : XK} (h : H a = some (.ins C dx fs)) (q : sp (.ref a :: dvs) H Q E) : PropEnd C sp dvs E Q (.ref a) H := ⟨a, dx, fs, rfl, h, q⟩
theorem was_yes {c cls : Value} {d : Option Addr} {i : Nat} {ts : Addr → Value → Option Addr → TS} {Wout : WX} (h : PySem.W.exmOne K cls c = some true)
    (q : ∀ a, H a = none → ts a cls d { nx := fun σ' H' => nx (σ'.set i none) H', rt := rt, bk := fun σ' H' => bk (σ'.set i none) H', ct := fun σ' H' => ct (σ'.set i none) H' } (σ.set i (some (.ref a))) H) : wAs K c i ts Wout ⟨nx, rt, bk, ct⟩ cls d σ H :=
  ⟨true, h, fun _ => q, fun z => Bool.noConfusion z⟩
def XfEnd (a : Addr) (cls : Value) (d : Option Addr) (C : Addr) (f : Str) (Q : VK) (x : V) (H1 : Hp) : Prop := x = .ref a ∧ cls = .ref C ∧ ∃ (dd : Addr) (fs : List (Str × V)) (v : V), d = some dd ∧ H1 dd = some (.xd fs) ∧ fs.lookup f = some v ∧ Q v H1
theorem i_xf {a C : Addr} {cls : Value} {d : Option Addr} {f : Str} (q : te σ H fun x H1 => XfEnd a cls d C f Q x H1) : tXf a cls d C f te σ H Q := q
instance {a C : Addr} {cls : Value} {d : Option Addr} {f : Str} : Nx (tXf a cls d C f te σ H Q) (te σ H fun x H1 => XfEnd a cls d C f Q x H1) := ⟨i_xf⟩
theorem isX1 {a D E : Addr} {d : Option Addr} {b : Bool} (T : ExcC K D) (hd : d = none ∨ ∃ dd fs, d = some dd ∧ H dd = some (.xd fs)) (k : PySem.W.kitOne K (.ref D) (.ref E) = some b) (q : Q (.bl b) H) : rIsX K a (.ref D) d [.ref a, .ref E] H Q :=
  ⟨D, b, rfl, T, hd, .inl ⟨_, _, rfl, .own E, k⟩, q⟩
theorem isXT {a D tp : Addr} {cs : List V} {ws : List Value} {d : Option Addr} {b : Bool} (T : ExcC K D) (hd : d = none ∨ ∃ dd fs, d = some dd ∧ H dd = some (.xd fs)) (ht : H tp = some (.tup cs)) (p : Paired ClsV cs ws) (k : PySem.W.kitAny K (.ref D) ws = some b) (q : Q (.bl b) H) : rIsX K a (.ref D) d [.ref a, .ref tp] H Q :=
  ⟨D, b, rfl, T, hd, .inr ⟨tp, cs, ws, rfl, ht, p, k⟩, q⟩
theorem kitAny_no {t c : Value} {cs : List Value} {r : Bool} (h : PySem.W.kitOne K t c = some false) (hr : PySem.W.kitAny K t cs = some r) : PySem.W.kitAny K t (c :: cs) = some r := kitAny_cons h (fun _ => hr) fun z => Bool.noConfusion z
end
/-- what an error class says, so that its instances are asked rightly -/
structure Ee (K : PySem.W.Frag) (mg : Str → Option Value) (x : Str) : Prop where
  g : mg x = some (.ref (gad K x))
  exc : ExcC K (gad K x)
  xf : XfC K (gad K x)
end My
namespace My
open PySem PySem.Spec PyProof.Rows L2
/-- a def with defaults -/
structure Dw (K : PySem.W.Frag) (x qual : Str) (st : Stmt) (dvs : List V) (ps : List Str) (f : Addr) (fd : FuncData) : Prop where
  F : FunD K x qual (defArgs st) (defBody st) (defScope st) dvs [] f fd
  b : Binds K fd ps []
theorem Dw.okX {P : Program} {w : World} {K : PySem.W.Frag} {mg : Str → Option Value} {base : Heap} {x qual : Str} {st : Stmt} {dvs : List V} {ps0 : List Str} {f : Addr} {fd : FuncData} {N ps : List Str} {k : Nat} {sp : Sp} (D : Dw K x qual st dvs ps0 f fd) (S : FnScope N ps (defScope st)) (len : ∀ vs H Q E, sp vs H Q E → vs.length = ps.length)
    (hbody : ∀ (cdv : Value) (A : Around) (outer : List Env) (s : Shared) (H : Hp) (vs : List V) (Q : VK) (E : XK), Room k (A.deeper (envOfC qual (defScope st) s.heap.objs.size f cdv)) → sp vs H Q E →
      ∃ t, PSs (cxOf (L2.CX P w) P w K mg base N qual (defScope st) f cdv A outer s H E) (defBody st) t ∧ t { nx := fun _ H' => Q .non H', rt := Q } (start N vs) H) : FnOk P w K mg base (L2.CX P w) (k + 1) f fd ps sp := D.F.ok S len hbody
theorem dw_mk {K : PySem.W.Frag} {x qual : Str} {st : Stmt} {f T : Addr} {oc o : Value} {od an d2 : Option Addr} {osl sl2 : Array (Option Value)} {kV doc pm cdv ct : Value} {its : List Value} {n2 : Nat} {dvs : List V} (l : K.lookup f = some ⟨oc, od, .func (PySem.W.fnOf x qual (defArgs st) (defBody st) (defScope st) (.ref T) kV doc pm an cdv ct), osl⟩)
    (c : PySem.W.codeIn K cdv qual = true) (k : PySem.W.keepIn K (.ref f) = true) (lT : K.lookup T = some ⟨o, d2, .seq its.toArray n2, sl2⟩) (hv : Vals dvs its) (hd : dvs ≠ []) : FunD K x qual (defArgs st) (defBody st) (defScope st) dvs [] f (PySem.W.fnOf x qual (defArgs st) (defBody st) (defScope st) (.ref T) kV doc pm an cdv ct) :=
  ⟨⟨oc, od, .ref T, kV, doc, pm, an, cdv, ct, osl, rfl, l, c, .inr ⟨hd, T, _, its, n2, rfl, lT, rfl, hv⟩, .inl rfl⟩, k⟩
theorem dw_binds {K : PySem.W.Frag} {x qual : Str} {params : Arguments} {body : List Stmt} {scope : Scope} {dvs : List V} {f : Addr} {fd : FuncData} {ps : List Str} (F : FunD K x qual params body scope dvs [] f fd) (n j : Nat) (hd : dvs ≠ []) (hj : j = dvs.length) (hn : n = ps.length)
    (h : ∀ (T : Addr) (kV doc pm : Value) (an : Option Addr) (cdv ct : Value) (us its : List Value), us.length = n → its.length = dvs.length → ∃ k, bindArgs (PySem.W.fnOf x qual params body scope (.ref T) kV doc pm an cdv ct) ⟨us, []⟩ = seqItems? (.ref T) >>= k ∧ k (some its.toArray) = pure (ps.zip (us ++ its.drop j))) : Binds K fd ps [] := by
  obtain ⟨ds, hv, hb⟩ := F.binds1 n j hd (by omega) h
  rw [hj, List.drop_length] at hv
  cases hv
  exact hb
theorem sqT_written {K : PySem.W.Frag} {t : Addr} {d : Option Addr} {n : Nat} {sl : Array (Option Value)} (l : K.lookup t = some ⟨.type "tuple", d, .seq #[] n, sl⟩) (H : Hp) : SqT K H t [] := .inr ⟨_, #[], n, l, rfl, rfl, Nat.zero_le _, .nil⟩
theorem kit_ref {K : PySem.W.Frag} {D C : Addr} {b : Bool} (h : PySem.W.subIn K (.ref D) (.ref C) = some b) (hc : PySem.W.isClsIn K C = true) (ht : PySem.W.typeIn K (.ref C) = some (.type "type")) (hs : PySem.W.subIn K (.ref C) (.ref C) = some true) : PySem.W.kitOne K (.ref D) (.ref C) = some b := by
  unfold PySem.W.kitOne
  split
  · rename_i e
    have e : D = C := Value.ref.inj (beq_iff_eq.mp e)
    subst e
    exact hs.symm.trans h
  · have e2 : ((PySem.W.clsIn K C).isSome && PySem.W.typeIn K (.ref C) == some (.type "type")) = true := by
      have hc' : (PySem.W.clsIn K C).isSome = true := hc
      rw [hc', ht] <;> rfl
    show (if ((PySem.W.clsIn K C).isSome && PySem.W.typeIn K (.ref C) == some (.type "type")) = true then PySem.W.subIn K (.ref D) (.ref C) else none) = some b
    rw [if_pos e2]
    exact h
end My
namespace My
open PySem PySem.Spec PyProof.Rows L2
def dV : V → Dt
  | .str z => .str z
  | .int i => .int i
  | .bl b => .bl b
  | _ => .str ⟨#[]⟩
theorem rp_atom {P : Addr → Prop} {H : Hp} {n : Nat} {v : V} (h : atomB v = true) : Rp P H n (dV v) v := by
  cases v with
  | str z => exact .str n z
  | int i => exact .int n i
  | bl b => exact .bl n b
  | _ => exact Bool.noConfusion h
def rowsD (rs : List (List V)) : Dt := .seq (rs.map fun r => .seq (r.map dV))
theorem rp_rows {P : Addr → Prop} {H : Hp} {n : Nat} {p : Addr} {xs : List V} {rs : List (List V)} (h : (H p = some (.lst xs) ∧ P p) ∨ H p = some (.tup xs)) (r : Rows H xs rs) (at_ : ∀ r ∈ rs, r.length ≤ 1000 ∧ ∀ v ∈ r, atomB v = true) (l : rs.length ≤ 1000) : Rp P H (n + 2) (rowsD rs) (.ref p) := by
  have hl := r.len
  have el : ∀ (i : Nat) (d : Dt) (v : V), (rs.map fun r => Dt.seq (r.map dV))[i]? = some d → xs[i]? = some v → Rp P H (n + 1) d v := fun i d v hd hv => by
    obtain ⟨t, q, rfl, hq, ht⟩ := r.get hv
    rw [List.getElem?_map, hq] at hd
    cases hd
    have a := at_ q (List.mem_of_getElem? hq)
    refine .tup ht (by rw [List.length_map]) a.1 fun j d v hd hv => ?_
    rw [List.getElem?_map, hv] at hd
    cases hd
    exact rp_atom (a.2 v (List.mem_of_getElem? hv))
  rcases h with ⟨h, hp⟩ | h
  · exact .lst h hp (by rw [List.length_map]; exact hl) (by omega) el
  · exact .tup h (by rw [List.length_map]; exact hl) (by omega) el
theorem sm_strsT {H : Hp} {p q : Addr} {ns : List Str} (hp : Rd H p (.tup (ns.map V.str))) (hq : Rd H q (.tup (ns.map V.str))) (l : ns.length ≤ 1000) : Sm H 4 (.ref p) (.ref q) :=
  .tup hp hq rfl (by rw [List.length_map]; omega) fun i x y hx hy => by
    rw [hx] at hy
    cases hy
    rw [List.getElem?_map] at hx
    obtain ⟨z, _, rfl⟩ := Option.map_eq_some_iff.mp hx
    exact .str _ z
end My
namespace My
open PySem PySem.Spec PyProof.Rows L2
theorem Rp.imp {P P' : Addr → Prop} {H : Hp} {n : Nat} {d : Dt} {v : V} (i : ∀ a, P a → P' a) (h : Rp P H n d v) : Rp P' H n d v := h.keep i (fun _ _ _ e => e) Tk.refl
theorem Fr.cl {s : Addr} {P : Addr → Prop} {HB H H' : Hp} (f : Fr s HB H) (hst : StOk HB s) (c : Cl P H H') (n : ∀ b, P b → HB b = none) : Fr s HB H' := by
  obtain ⟨o, ho⟩ := hst.some
  have ns : ¬ P s := fun p => by rw [n s p] at ho; cases ho
  refine ⟨fun b o hb nb => c.keep b o (f.1 b o hb nb) fun p => ?_, fun q r hq => ?_⟩
  · rw [n b p] at hb
    cases hb
  · obtain ⟨r', e⟩ := f.2 q r hq
    exact ⟨r', c.keep _ _ e ns⟩
theorem StOk.cl {s : Addr} {P : Addr → Prop} {HB H H' : Hp} (h0 : StOk HB s) (f : Fr s HB H) (h : StOk H s) (c : Cl P H H') (n : ∀ b, P b → HB b = none) : StOk H' s := by
  obtain ⟨q0, ns0, a1, a2, a3, a4, a5, a6, g1, g2, g3, g4⟩ := h0
  obtain ⟨q, ns, i1, n2, i3, i4, i5, i6, h1, h2, h3, h4⟩ := h
  obtain ⟨r, e⟩ := f.2 _ _ g1
  rw [h1] at e
  cases e
  exact ⟨q0, ns, i1, n2, i3, i4, i5, i6, c.keep _ _ h1 fun p => (by rw [n _ p] at g1; cases g1), c.keep _ _ h2 fun p => (by rw [n _ p] at g2; cases g2), h3, h4⟩
/-- all but lists stands -/
def Nk (H H' : Hp) : Prop := ∀ b o, H b = some o → (∀ xs, o ≠ .lst xs) → H' b = some o
theorem Nk.refl {H : Hp} : Nk H H := fun _ _ h _ => h
theorem Nk.trans {H H1 H2 : Hp} (a : Nk H H1) (b : Nk H1 H2) : Nk H H2 := fun c o h n => b c o (a c o h n) n
theorem Nk.same {H H1 : Hp} (s : Same H H1) : Nk H H1 := fun c o h _ => s c o h
theorem Nk.fr {s : Addr} {H H1 : Hp} (f : Fr s H H1) (h : StOk H s) : Nk H H1 := fun c o e n => f.1 c o e fun z => by
  obtain ⟨q, ns, i1, n2, i3, i4, i5, i6, h1, _⟩ := h
  rw [z, h1] at e
  exact n _ (Option.some.inj e).symm
theorem Nk.cl {P : Addr → Prop} {H H1 : Hp} (c : Cl P H H1) (l : ∀ b, P b → ∃ xs, H b = some (.lst xs)) : Nk H H1 := fun b o e n => c.keep b o e fun p => by
  obtain ⟨xs, h⟩ := l b p
  rw [e] at h
  exact n _ (Option.some.inj h)
theorem Nk.tk {H H1 : Hp} (k : Nk H H1) : Tk H H1 := fun t d h => k t _ h fun xs z => nomatch z
end My
namespace My
open PySem PySem.Spec PyProof.Rows L2
def mk (p : Nat → Bool) : Nat → Nat
  | 0 => 0
  | n + 1 => mk p n + (if p n = true then 2 ^ n else 0)
theorem mk_lt (p : Nat → Bool) : ∀ n, mk p n < 2 ^ n
  | 0 => by show 0 < 2 ^ 0; decide
  | n + 1 => by
    have := mk_lt p n
    unfold mk
    rw [Nat.pow_succ]
    split <;> omega
theorem mk_bit (p : Nat → Bool) : ∀ n i, (mk p n).testBit i = (decide (i < n) && p i)
  | 0, i => by simp [mk]
  | n + 1, i => by
    have ih := mk_bit p n
    have hl := mk_lt p n
    unfold mk
    split
    · rename_i h
      rw [Nat.add_comm]
      rcases Nat.lt_trichotomy i n with hi | hi | hi
      · rw [Nat.testBit_two_pow_add_gt hi, ih, decide_eq_true hi, decide_eq_true (Nat.lt_succ_of_lt hi)]
      · subst hi
        rw [Nat.testBit_two_pow_add_eq, ih, decide_eq_false (Nat.lt_irrefl _), decide_eq_true (Nat.lt_succ_self _), h]
        rfl
      · rw [Nat.testBit_lt_two_pow (Nat.lt_of_lt_of_le (show 2 ^ n + mk p n < 2 ^ (n + 1) by rw [Nat.pow_succ]; omega) (Nat.pow_le_pow_right (by decide) hi)), decide_eq_false (show ¬ i < n + 1 by omega)]
        rfl
    · rename_i h
      rw [Nat.add_zero, ih]
      rcases Nat.lt_trichotomy i n with hi | hi | hi
      · rw [decide_eq_true hi, decide_eq_true (Nat.lt_succ_of_lt hi)]
      · subst hi
        rw [decide_eq_false (Nat.lt_irrefl _), decide_eq_true (Nat.lt_succ_self _), show p i = false by simpa using h]
        rfl
      · rw [decide_eq_false (show ¬ i < n by omega), decide_eq_false (show ¬ i < n + 1 by omega)]
theorem bor_nat (a b : Nat) : Builtin.bitOr (a : Int) (b : Int) = ((a ||| b : Nat) : Int) := by
  rw [Bits.bitOr_pp (Int.natCast_nonneg a) (Int.natCast_nonneg b), Int.toNat_natCast, Int.toNat_natCast]
theorem bxor_nat (a b : Nat) : Builtin.bitXor (a : Int) (b : Int) = ((a ^^^ b : Nat) : Int) := by
  rw [Bits.bitXor_pp (Int.natCast_nonneg a) (Int.natCast_nonneg b), Int.toNat_natCast, Int.toNat_natCast]
theorem i_band {H : Hp} {Q : VK} {a b : Nat} (q : Q (.int ((a &&& b : Nat) : Int)) H) : rI0 (fun i j => .int (Builtin.bitAnd i j)) (.int (a : Int)) (.int (b : Int)) H Q := ⟨_, _, rfl, rfl, by show Q (.int (Builtin.bitAnd (a : Int) (b : Int))) H; rw [PySem.W.os_band]; exact q⟩
instance {H : Hp} {Q : VK} {a b : Nat} : Nx (rI0 (fun i j => .int (Builtin.bitAnd i j)) (.int (a : Int)) (.int (b : Int)) H Q) (Q (.int ((a &&& b : Nat) : Int)) H) := ⟨i_band⟩
theorem i_bor {H : Hp} {Q : VK} {a b : Nat} (q : Q (.int ((a ||| b : Nat) : Int)) H) : rI0 (fun i j => .int (Builtin.bitOr i j)) (.int (a : Int)) (.int (b : Int)) H Q := ⟨_, _, rfl, rfl, by show Q (.int (Builtin.bitOr (a : Int) (b : Int))) H; rw [bor_nat]; exact q⟩
instance {H : Hp} {Q : VK} {a b : Nat} : Nx (rI0 (fun i j => .int (Builtin.bitOr i j)) (.int (a : Int)) (.int (b : Int)) H Q) (Q (.int ((a ||| b : Nat) : Int)) H) := ⟨i_bor⟩
theorem i_bxor {H : Hp} {Q : VK} {a b : Nat} (q : Q (.int ((a ^^^ b : Nat) : Int)) H) : rI0 (fun i j => .int (Builtin.bitXor i j)) (.int (a : Int)) (.int (b : Int)) H Q := ⟨_, _, rfl, rfl, by show Q (.int (Builtin.bitXor (a : Int) (b : Int))) H; rw [bxor_nat]; exact q⟩
instance {H : Hp} {Q : VK} {a b : Nat} : Nx (rI0 (fun i j => .int (Builtin.bitXor i j)) (.int (a : Int)) (.int (b : Int)) H Q) (Q (.int ((a ^^^ b : Nat) : Int)) H) := ⟨i_bxor⟩
theorem i_oneShl {H : Hp} {Q : VK} {k : Nat} (h : k ≤ 1000) (q : Q (.int ((2 ^ k : Nat) : Int)) H) : rI CPow (fun i j => .int (i * 2 ^ j.toNat)) (.int 1) (.int (k : Int)) H Q :=
  ⟨_, _, rfl, rfl, ⟨by omega, by omega, by decide⟩, by
    show Q (.int (1 * 2 ^ ((k : Int)).toNat)) H
    rw [Int.one_mul, Int.toNat_natCast]
    have e : ((2 ^ k : Nat) : Int) = (2 : Int) ^ k := by rw [Int.natCast_pow]; rfl
    rw [← e]
    exact q⟩
theorem i_shrN {H : Hp} {Q : VK} {m k : Nat} (q : Q (.int ((m >>> k : Nat) : Int)) H) : rI (fun _ j => 0 ≤ j) (fun i j => .int (i / 2 ^ j.toNat)) (.int (m : Int)) (.int (k : Int)) H Q :=
  ⟨_, _, rfl, rfl, Int.natCast_nonneg k, by
    show Q (.int ((m : Int) / 2 ^ ((k : Int)).toNat)) H
    rw [Int.toNat_natCast]
    have e : ((m >>> k : Nat) : Int) = (m : Int) / (2 : Int) ^ k := by rw [Nat.shiftRight_eq_div_pow, Int.natCast_ediv, Int.natCast_pow]; rfl
    rw [← e]
    exact q⟩
theorem i_bits {te : TE} {σ : L2.St} {H : Hp} {Q : VK} (q : te σ H fun x H1 => ∃ i, x = .int i ∧ Q (.int (Builtin.Int.intBits i : Nat)) H1) : tBits te σ H Q := q
theorem bits_lt (m : Nat) : m < 2 ^ Builtin.Int.intBits (m : Int) := by
  have := (intBits_le_iff (m := Builtin.Int.intBits (m : Int)) (x := (m : Int))).mp (Nat.le_refl _)
  simpa using this
theorem bits_le {m n : Nat} (h : m < 2 ^ n) : Builtin.Int.intBits (m : Int) ≤ n := intBits_le_iff.mpr (by simpa using h)
theorem odd_bit (m k : Nat) : (m >>> k) &&& 1 = if m.testBit k = true then 1 else 0 := by
  rw [Nat.testBit, Nat.and_one_is_mod, Nat.and_comm, Nat.and_one_is_mod]
  rcases Nat.mod_two_eq_zero_or_one (m >>> k) with h | h <;> rw [h] <;> rfl
theorem two_bit (m k : Nat) : (m &&& 2 ^ k) = if m.testBit k = true then 2 ^ k else 0 := by
  refine Nat.eq_of_testBit_eq fun i => ?_
  rw [Nat.testBit_and, Nat.testBit_two_pow]
  by_cases h : k = i
  · subst h
    rw [decide_eq_true rfl, Bool.and_true]
    split
    · rename_i h
      rw [h, Nat.testBit_two_pow_self]
    · rename_i h
      rw [Nat.zero_testBit]
      simpa using h
  · rw [decide_eq_false h, Bool.and_false]
    split
    · rw [Nat.testBit_two_pow, decide_eq_false h]
    · rw [Nat.zero_testBit]
/-- the places of a mask -/
def plcs (m : Nat) (n : Nat) : List Nat := (List.range n).filter fun i => m.testBit i
theorem plcs_any {m a b : Nat} (ha : m < 2 ^ a) (hb : m < 2 ^ b) : plcs m a = plcs m b := by
  have key : ∀ {a b : Nat}, a ≤ b → m < 2 ^ a → plcs m a = plcs m b := fun {a b} hab ha => by
    obtain ⟨c, rfl⟩ := Nat.exists_eq_add_of_le hab
    unfold plcs
    rw [List.range_add, List.filter_append]
    have : ((List.range c).map (a + ·)).filter (fun i => m.testBit i) = [] := by
      refine List.filter_eq_nil_iff.mpr fun i hi => ?_
      obtain ⟨j, _, rfl⟩ := List.mem_map.mp hi
      rw [Nat.testBit_lt_two_pow (Nat.lt_of_lt_of_le ha (Nat.pow_le_pow_right (by decide) (Nat.le_add_right _ _)))]
      decide
    rw [this, List.append_nil]
  rcases Nat.le_total a b with h | h
  · exact key h ha
  · exact (key h hb).symm
/-- the mask of the names for whom p holds -/
def mN (ns : List Str) (p : Str → Bool) : Nat := mk (fun i => p (nth ns i)) ns.length
theorem mN_lt (ns : List Str) (p : Str → Bool) : mN ns p < 2 ^ ns.length := mk_lt _ _
theorem mN_bit {ns : List Str} {p : Str → Bool} {i : Nat} : (mN ns p).testBit i = (decide (i < ns.length) && p (nth ns i)) := mk_bit _ _ _
theorem mN_ext {ns : List Str} {m : Nat} {p : Str → Bool} (h : m < 2 ^ ns.length) (e : ∀ i, i < ns.length → m.testBit i = p (nth ns i)) : m = mN ns p := by
  refine Nat.eq_of_testBit_eq fun i => ?_
  rw [mN_bit]
  by_cases hi : i < ns.length
  · rw [e i hi, decide_eq_true hi, Bool.true_and]
  · rw [decide_eq_false hi, Bool.false_and, Nat.testBit_lt_two_pow (Nat.lt_of_lt_of_le h (Nat.pow_le_pow_right (by decide) (by omega)))]
theorem nth_map (ns : List Str) : (List.range ns.length).map (nth ns) = ns := by
  refine List.ext_getElem? fun i => ?_
  rw [List.getElem?_map]
  by_cases h : i < ns.length
  · rw [List.getElem?_range h]
    exact (nth_get h).symm
  · rw [List.getElem?_eq_none (by rw [List.length_range]; omega), List.getElem?_eq_none (by omega)]
    rfl
/-- the folk that a mask tells, in folk order -/
theorem plcs_names (ns : List Str) (p : Str → Bool) : (plcs (mN ns p) ns.length).map (nth ns) = ns.filter p := by
  unfold plcs
  have e : ns.filter p = ((List.range ns.length).map (nth ns)).filter p := by rw [nth_map]
  rw [e, List.filter_map]
  refine congrArg _ (List.filter_congr fun i hi => ?_)
  rw [mN_bit, decide_eq_true (List.mem_range.mp hi), Bool.true_and]
  rfl
theorem nth_plc {ns : List Str} {a : Str} (h : a ∈ ns) : nth ns (plc ns a) = a := by
  have h1 := nth_get (plc_lt h)
  rw [plc_at h] at h1
  exact (Option.some.inj h1).symm
theorem mN_at {ns : List Str} {p : Str → Bool} {a : Str} (h : a ∈ ns) : (mN ns p).testBit (plc ns a) = p a := by
  rw [mN_bit, decide_eq_true (plc_lt h), nth_plc h, Bool.true_and]
theorem mN_congr {ns : List Str} {p q : Str → Bool} (h : ∀ a ∈ ns, p a = q a) : mN ns p = mN ns q := mN_ext (mN_lt _ _) fun i hi => by
  rw [mN_bit, decide_eq_true hi, Bool.true_and]
  exact h _ (nth_mem hi)
theorem mN_or (ns : List Str) (p q : Str → Bool) : mN ns p ||| mN ns q = mN ns fun a => p a || q a := mN_ext (Nat.or_lt_two_pow (mN_lt _ _) (mN_lt _ _)) fun i hi => by
  rw [Nat.testBit_or, mN_bit, mN_bit, decide_eq_true hi, Bool.true_and, Bool.true_and]
theorem mN_none (ns : List Str) : mN ns (fun _ => false) = 0 := (mN_ext (Nat.two_pow_pos _) fun i _ => Nat.zero_testBit i).symm
/-- one more -/
theorem mN_add {ns : List Str} {p : Str → Bool} {a : Str} (nd : ns.Nodup) (h : a ∈ ns) : mN ns p ||| 2 ^ plc ns a = mN ns fun b => p b || decide (b = a) := by
  have e : 2 ^ plc ns a = mN ns fun b => decide (b = a) := mN_ext (Nat.pow_lt_pow_right (by decide) (plc_lt h)) fun i hi => by
    rw [Nat.testBit_two_pow]
    by_cases e : plc ns a = i
    · rw [decide_eq_true e, decide_eq_true (by rw [← e, nth_plc h])]
    · rw [decide_eq_false e, decide_eq_false fun z => e ?_]
      refine nth_inj nd (plc_lt h) hi ?_
      rw [nth_plc h, z]
  rw [e, mN_or]
end My
namespace My
open PySem PySem.Spec PyProof.Rows L2
theorem i_band1 {H : Hp} {Q : VK} {a : Nat} (q : Q (.int ((a &&& 1 : Nat) : Int)) H) : rI0 (fun i j => .int (Builtin.bitAnd i j)) (.int (a : Int)) (.int 1) H Q := i_band (b := 1) q
instance {H : Hp} {Q : VK} {a : Nat} : Nx (rI0 (fun i j => .int (Builtin.bitAnd i j)) (.int (a : Int)) (.int 1) H Q) (Q (.int ((a &&& 1 : Nat) : Int)) H) := ⟨i_band1⟩
/-- a list or a tuple -/
def Lt2 (H : Hp) (p : Addr) (vs : List V) : Prop := H p = some (.lst vs) ∨ H p = some (.tup vs)
theorem Lt2.same {H H' : Hp} {p : Addr} {vs : List V} (h : Lt2 H p vs) (s : Same H H') : Lt2 H' p vs := h.imp (s _ _) (s _ _)
def rowS (row : List Str) : Dt := .seq (row.map Dt.str)
theorem rp_strs {P : Addr → Prop} {H : Hp} {n : Nat} {row : List Str} {v : V} (h : Rp P H n (rowS row) v) : ∃ p, v = .ref p ∧ Lt2 H p (row.map V.str) := by
  obtain ⟨p, e, h⟩ := rp_row h (fun d hd => by obtain ⟨z, _, rfl⟩ := List.mem_map.mp hd; rfl)
  rw [List.map_map] at h
  exact ⟨p, e, h⟩
theorem strs_rp {P : Addr → Prop} {H : Hp} {n : Nat} {row : List Str} {p : Addr} (h : (H p = some (.lst (row.map V.str)) ∧ P p) ∨ H p = some (.tup (row.map V.str))) (l : row.length ≤ 1000) : Rp P H (n + 1) (rowS row) (.ref p) := by
  have el : ∀ (i : Nat) (d : Dt) (v : V), (row.map Dt.str)[i]? = some d → (row.map V.str)[i]? = some v → Rp P H n d v := fun i d v hd hv => by
    rw [List.getElem?_map] at hd hv
    obtain ⟨z, hz, rfl⟩ := Option.map_eq_some_iff.mp hd
    rw [hz] at hv
    cases hv
    exact .str _ z
  rcases h with ⟨h, hp⟩ | h
  · exact .lst h hp (by rw [List.length_map, List.length_map]) (by rw [List.length_map]; exact l) el
  · exact .tup h (by rw [List.length_map, List.length_map]) (by rw [List.length_map]; exact l) el
section
open PySem.W
section
variable {X : Cx} {k : Nat} {f : Addr} {fd : FuncData} {ps : List Str} {sp : Addr → Value → Option Addr → Sp} {x : Str} {q pos : Pos} {e : Expr} {es : List Expr} {t : TA} {a : Addr} {cls : Value} {d : Option Addr} {oe : Obj} {pn : List (Addr × Obj)}
def tCallE (sp : Addr → Value → Option Addr → Sp) (a : Addr) (cls : Value) (d : Option Addr) (t : TA) : TE := fun σ H Q => t σ H fun vs H1 => sp a cls d vs H1 Q E0
theorem i_callE {σ : L2.St} {H : Hp} {Q : VK} (q : t σ H fun vs H1 => sp a cls d vs H1 Q E0) : tCallE sp a cls d t σ H Q := q
instance {σ : L2.St} {H : Hp} {Q : VK} : Nx (tCallE sp a cls d t σ H Q) (t σ H fun vs H1 => sp a cls d vs H1 Q E0) := ⟨i_callE⟩
end
end
end My
namespace My
open PySem PySem.Spec PyProof.Rows L2
section
variable {X : Cx} {K : PySem.W.Frag} {H : Hp} {Q : VK} {a b : Addr} {xs : List V}
def rNeN (K : PySem.W.Frag) : R2 := fun x y H Q => ∃ a b xs, x = .ref a ∧ y = .ref b ∧ SqL K H a xs ∧ SqL K H b [] ∧ Q (.bl (!xs.isEmpty)) H
theorem op_neN (hK : X.K = K) (hu : X.A.units + 64 < cLine) : OpR X (compareOp .NotEq) (rNeN K) := by
  subst hK
  intro pins s σ H x y v u Q I rx ry h
  obtain ⟨a, b, xs, rfl, rfl, ha, hb, q⟩ := h
  cases (show v = Value.ref a from rx)
  cases (show u = Value.ref b from ry)
  obtain ⟨us, r1, p1, _⟩ := I.list ha
  obtain ⟨ws, r2, p2, _⟩ := I.list hb
  cases r2
  cases r1 with
  | nil => exact PySem.SeqAt.RcNeAt.lists (e := fun _ => true) p1.isList p2.isList rfl (by omega) (fun j h1 _ => absurd h1 (Nat.not_lt_zero j)) _ _ _ _ ⟨.bl false, H, I, rfl, q⟩
  | cons h t => exact PySem.SeqAt.RcNeAt.lists_lengths p1.isList p2.isList (by simp) (by omega) _ _ _ _ ⟨.bl true, H, I, rfl, q⟩
theorem i_neN (h : SqL K H a xs) (h2 : SqL K H b []) (q : Q (.bl (!xs.isEmpty)) H) : rNeN K (.ref a) (.ref b) H Q := ⟨a, b, xs, rfl, rfl, h, h2, q⟩
end
theorem strs_of : ∀ {ys : List V}, (∀ v ∈ ys, ∃ z, v = V.str z) → ∃ row : List Str, ys = row.map V.str
  | [], _ => ⟨[], rfl⟩
  | v :: r, h => by
    obtain ⟨z, rfl⟩ := h v List.mem_cons_self
    obtain ⟨row, rfl⟩ := strs_of fun w hw => h w (List.mem_cons_of_mem _ hw)
    exact ⟨z :: row, rfl⟩
def rInsert : V → List V → Hp → VK → Prop := fun x vs H Q => ∃ (l : Addr) (xs : List V) (i : Int) (y : V), x = .ref l ∧ vs = [.int i, y] ∧ H l = some (.lst xs) ∧ xs.length < sizeLine ∧ 0 ≤ i ∧ i < 2 ^ 63 ∧ Q .non (upd H l (.lst (xs.take i.toNat ++ [y] ++ xs.drop i.toNat)))
theorem mt_insertR {X : Cx} : MtR X "list.insert" rInsert := mt_insert
theorem i_insert {p : Addr} {xs : List V} {i : Int} {y : V} {H : Hp} {Q : VK} (h : H p = some (.lst xs)) (l : xs.length ≤ 1000) (h0 : 0 ≤ i) (h1 : i ≤ 1000) (q : Q .non (upd H p (.lst (xs.take i.toNat ++ [y] ++ xs.drop i.toNat)))) : rInsert (.ref p) [.int i, y] H Q :=
  ⟨p, xs, i, y, rfl, rfl, h, Nat.lt_of_le_of_lt l (by decide), h0, by omega, q⟩
end My
namespace PySem
open Sem (wp)
open AutoSeq1 (wpAny_loadPart')
end PySem
namespace My
open PySem PySem.Spec PyProof.Rows L2
def Iet (K : PySem.W.Frag) (a : Addr) : It :=
  ⟨fun i H => ∃ (xs : List V) (x : V), SqT K H a xs ∧ xs[i]? = some x, fun i H v H' => ∃ T x, v = .ref T ∧ H T = none ∧ H' = upd H T (.tup [.int (i : Nat), x]) ∧ ∀ xs, SqT K H a xs → xs[i]? = some x, fun i H => ∃ xs : List V, SqT K H a xs ∧ xs.length = i⟩
def iEnT (K : PySem.W.Frag) (ta : TA) : TI := fun σ H R => ta σ H fun vs H1 => ∃ a xs, vs = [.ref a] ∧ SqT K H1 a xs ∧ R (Iet K a) H1
section
variable {K : PySem.W.Frag} {σ : L2.St} {H : Hp} {Q : VK} {ta : TA} {te : TE} {tt : TT} {g : TG} {vs : List Nat}
def CE (K : PySem.W.Frag) (g : TG) (tt : TT) (te : TE) (vs : List Nat) (σ : L2.St) (Q : VK) : List V → Hp → Prop := fun us H1 => tLc (iEnT K fun _ H R => R us H) g tt te vs σ H1 Q
theorem i_lcE (q : ta σ H fun us H1 => CE K g tt te vs σ Q us H1) : tLc (iEnT K ta) g tt te vs σ H Q := q
instance : Nx (tLc (iEnT K ta) g tt te vs σ H Q) (ta σ H fun us H1 => CE K g tt te vs σ Q us H1) := ⟨i_lcE⟩
end
end My
namespace My
open PySem PySem.Spec PyProof.Rows L2
section
variable {K : PySem.W.Frag} {H H' : Hp} {Q : VK} {p : Addr} {z : Str} {ns : List Str} {xs : List V}
theorem i_ninLt (h : Lt2 H p (ns.map V.str)) (q : Q (.bl (!decide (z ∈ ns))) H) : rIn K true (.str z) (.ref p) H Q := h.elim (fun h => i_notInStr (sqL h) q) fun h => i_notInStrT (sqT h) q
theorem list_endLt (h : Lt2 H p xs) (k : ∀ l H1, H l = none → Same H H1 → H1 l = some (.lst xs) → Q (.ref l) H1) : rListOf K [.ref p] H Q := h.elim (fun h => list_end (sqL h) k) fun h => list_endT (sqT h) k
theorem i_lenVLt (h : Lt2 H p xs) (q : Q (.int xs.length) H) : rLenV K [.ref p] H Q := h.elim (fun h => i_lenVL (sqL h) q) fun h => i_lenVT (sqT h) q
theorem Lt2.fr {s : Addr} (h : Lt2 H p xs) (n : p ≠ s) (f : Fr s H H') : Lt2 H' p xs := h.imp (fun h => f.1 _ _ h n) fun h => f.1 _ _ h n
end
end My
namespace My
open PySem PySem.Spec PyProof.Rows L2
/-- a comprehension over a list or a tuple that stands in a name -/
theorem lcLt {K : PySem.W.Frag} {σ : L2.St} {H : Hp} {Q : VK} {te : TE} {tt : TT} {vs : List Nat} {a : Addr} {xs : List V} {j j0 : Nat} (hσ : σ[j0]? = some (some (.ref a))) (h : Lt2 H a xs) (Pv : Addr → Nat → Hp → Prop) (p0 : ∀ D, H D = none → Pv D 0 (upd H D (.lst [])))
    (hk : ∀ D i H' u, H D = none → Pv D i H' → H a = some u → H' a = some u) (ps : ∀ D i x H', H D = none → xs[i]? = some x → Pv D i H' → LT j tt te vs σ D (Pv D (i + 1)) x H') (pd : ∀ D H', H D = none → Pv D xs.length H' → Q (.ref D) H') :
    tLc (iAny K (tVar j0)) (gName j) tt te vs σ H Q := by
  rcases h with h | h
  · exact i_lcAL (i_lcL (i_var hσ (cl (sqL h) Pv p0 (fun D i H' hD _ p => sqL (hk D i H' _ hD p h)) ps pd)))
  · exact i_lcAT (i_lcT (i_var hσ (ct_g (sqT h) Pv p0 (fun D i H' hD _ p => sqT (hk D i H' _ hD p h)) (fun D i x H' hD hx p => ps D i x H' hD hx p) pd)))
end My
namespace My
open PySem PySem.Spec PyProof.Rows L2
def rEqS (K : PySem.W.Frag) (neg : Bool) : R2 := fun x y H Q => ∃ (a b : Addr) (r1 r2 : List Str), x = .ref a ∧ y = .ref b ∧ ((SqL K H a (r1.map V.str) ∧ SqL K H b (r2.map V.str)) ∨ (SqT K H a (r1.map V.str) ∧ SqT K H b (r2.map V.str))) ∧ Q (.bl (neg != decide (r1 = r2))) H
theorem all_at {r1 r2 : List Str} (h : r1.length = r2.length) : ((List.range r1.length).all fun j => decide (r1[j]? = r2[j]?)) = decide (r1 = r2) := by
  rw [Bool.eq_iff_iff, List.all_eq_true, decide_eq_true_eq]
  constructor
  · intro k
    refine List.ext_getElem? fun j => ?_
    by_cases hj : j < r1.length
    · exact of_decide_eq_true (k j (List.mem_range.mpr hj))
    · rw [List.getElem?_eq_none (by omega), List.getElem?_eq_none (by omega)]
  · rintro rfl j _
    exact decide_eq_true rfl
theorem eq_items {s : Shared} {A : Around} {r1 r2 : List Str} {us ws : List Value} (h1 : Vals (r1.map V.str) us) (h2 : Vals (r2.map V.str) ws) (j : Nat) (l1 : j < us.toArray.size) (l2 : j < ws.toArray.size) :
    PySem.SeqAt.EqAt A s us.toArray[j] ws.toArray[j] (decide (r1[j]? = r2[j]?)) := by
  have m1 : j < us.length := by simpa using l1
  have m2 : j < ws.length := by simpa using l2
  have n1 : j < r1.length := by have := h1.length; rw [List.length_map] at this; omega
  have n2 : j < r2.length := by have := h2.length; rw [List.length_map] at this; omega
  obtain ⟨u, hu, ru⟩ := h1.get (show (r1.map V.str)[j]? = some (.str r1[j]) by rw [List.getElem?_map, List.getElem?_eq_getElem n1]; rfl)
  obtain ⟨w, hw, rw'⟩ := h2.get (show (r2.map V.str)[j]? = some (.str r2[j]) by rw [List.getElem?_map, List.getElem?_eq_getElem n2]; rfl)
  rw [List.getElem?_eq_getElem m1] at hu
  rw [List.getElem?_eq_getElem m2] at hw
  have e := eqAt_V (A := A) (s := s) ru rw' rfl rfl
  rw [List.getElem_toArray, List.getElem_toArray, Option.some.inj hu, Option.some.inj hw, List.getElem?_eq_getElem n1, List.getElem?_eq_getElem n2]
  have e2 : decide (some r1[j] = some r2[j]) = eqV (V.str r1[j]) (V.str r2[j]) := by
    show _ = decide (r1[j] = r2[j])
    simp only [Option.some.injEq]
  rw [e2]
  exact e
section
variable {X : Cx} {K : PySem.W.Frag}
theorem op_neS (hK : X.K = K) (hu : X.A.units + 64 < cLine) : OpR X (compareOp .NotEq) (rEqS K true) := by
  subst hK
  intro pins s σ H x y v u Q I rx ry h
  obtain ⟨a, b, r1, r2, rfl, rfl, h, q⟩ := h
  cases (show v = Value.ref a from rx)
  cases (show u = Value.ref b from ry)
  have hq : (true != decide (r1 = r2)) = !decide (r1 = r2) := by cases decide (r1 = r2) <;> rfl
  rw [hq] at q
  rcases h with ⟨ha, hb⟩ | ⟨ha, hb⟩
  · obtain ⟨us, h1, p1, _⟩ := I.list ha
    obtain ⟨ws, h2, p2, _⟩ := I.list hb
    have l1 := h1.length
    have l2 := h2.length
    rw [List.length_map] at l1 l2
    by_cases e : r1.length = r2.length
    · refine PySem.SeqAt.RcNeAt.lists p1.isList p2.isList (by rw [List.size_toArray, List.size_toArray]; omega) (by omega) (eq_items h1 h2) _ _ _ _ ?_
      rw [List.size_toArray, ← l1, all_at e]
      exact ⟨.bl _, H, I, rfl, q⟩
    · refine PySem.SeqAt.RcNeAt.lists_lengths p1.isList p2.isList (by rw [List.size_toArray, List.size_toArray, ← l1, ← l2]; simpa using e) (by omega) _ _ _ _ ?_
      rw [decide_eq_false fun z => e (by rw [z])] at q
      exact ⟨.bl true, H, I, rfl, q⟩
  · obtain ⟨us, h1, p1, _⟩ := I.tuple ha
    obtain ⟨ws, h2, p2, _⟩ := I.tuple hb
    have l1 := h1.length
    have l2 := h2.length
    rw [List.length_map] at l1 l2
    refine PySem.SeqAt.RcNeAt.tuples p1 p2 (by omega) (eq_items h1 h2) _ _ _ _ ?_
    rw [List.size_toArray, List.size_toArray, ← l1, ← l2]
    by_cases e : r1.length = r2.length
    · rw [← e, Nat.min_self, all_at e, beq_self_eq_true, Bool.and_true]
      exact ⟨.bl _, H, I, rfl, q⟩
    · rw [show (r1.length == r2.length) = false by simpa using e, Bool.and_false]
      rw [decide_eq_false fun z => e (by rw [z])] at q
      exact ⟨.bl true, H, I, rfl, q⟩
variable {H : Hp} {Q : VK} {a b : Addr} {r1 r2 : List Str} {neg : Bool}
theorem i_eqSL (h1 : SqL K H a (r1.map V.str)) (h2 : SqL K H b (r2.map V.str)) (q : Q (.bl (neg != decide (r1 = r2))) H) : rEqS K neg (.ref a) (.ref b) H Q := ⟨a, b, r1, r2, rfl, rfl, .inl ⟨h1, h2⟩, q⟩
theorem i_neSS (h1 : SqL K H a (r1.map V.str)) (h2 : SqL K H b (r1.map V.str)) (q : Q (.bl false) H) : rEqS K true (.ref a) (.ref b) H Q := i_eqSL h1 h2 (by rw [decide_eq_true rfl]; exact q)
end
section
variable {H : Hp} {Q : VK} {a b : Bool}
instance : Nx (rIsB (.bl a) (.bl b) H Q) (Q (.bl (decide (a = b))) H) := ⟨fun q => ⟨a, b, rfl, rfl, q⟩⟩
instance : Nx (rNotB (.bl a) (.bl b) H Q) (Q (.bl (!decide (a = b))) H) := ⟨fun q => ⟨a, b, rfl, rfl, q⟩⟩
end
end My
namespace My
open PySem PySem.Spec PyProof.Rows L2
/-- what the class at C says, so that its == and isinstance of its objects are asked rightly -/
structure EqW (K : PySem.W.Frag) (C fi : Addr) : Prop where
  eq : PySem.W.findIn K (.ref C) "__eq__" = some (some (.ref fi))
  fn : PySem.W.isFn K (.ref fi) = true
  ca : PySem.W.findIn K (.ref C) "__class__" = some (some (.builtin "object.__class__"))
  gc : PySem.W.specialIn K (.builtin "object.__class__") "__get__" = some (some (.builtin "getset_descriptor.__get__"))
  tc : PySem.W.takesIn K (.builtin "object.__class__") = some true
  mr : PySem.W.mroIn K C (.type "object") = some true
  kt : PySem.W.kitOne K (.ref C) (.ref C) = some true
theorem EqW.ty {K : PySem.W.Frag} {C f a dx : Addr} {fs : List (Str × V)} {H : Hp} (e : EqW K C f) (cl : Cls K C) (h : H a = some (.ins C dx fs)) : TyX K H (.ref a) (.ref C) := .base (.ins h cl e.ca e.gc e.tc e.mr)
end My
namespace My
open PySem PySem.Spec PyProof.Rows L2
def rNotInOwn (C : Addr) (sp : Sp) (E : XK) : R2 := fun x y H Q => ∃ a dx fs, y = .ref a ∧ H a = some (.ins C dx fs) ∧ sp [.ref a, x] H (fun v H' => ∃ b, v = .bl b ∧ Q (.bl (!b)) H') E
theorem op_notInOwn {X : Cx} {CX : CXT} {k : Nat} {f C : Addr} {fd : FuncData} {ps : List Str} {sp : Sp} {E : XK} (hm : Meth X.K C "__contains__" f) (F : FnOk X.prog X.w X.K X.mg X.base CX k f fd ps sp) (hr : Room k X.A) (hb : Binds X.K fd ps []) (hx : Passes CX X E) :
    OpR X (compareOp .NotIn) (rNotInOwn C sp E) := by
  intro pins s σ H x y v u Q I rx ry h
  obtain ⟨a, dx, fs, rfl, ha, h⟩ := h
  cases ry
  obtain ⟨_, _, _, hg, mA, ⟨od, _, _, hod, _⟩, _⟩ := (show ObjOk X.prog X.w H s.heap a (.ins C dx fs) from I.hok a _ ha)
  have inst : PySem.W.InstAt s.heap a (PySem.W.instObj C dx) C (some od) := ⟨hg, rfl, rfl, hod⟩
  refine wpAny_bind (contains_X I.kIn inst hm.at_ hm.fn (wpAny_mono (run_fn F hr hb .nil hx I (vs := [.ref a, x]) (us := [.ref a, v]) (.cons rfl (.cons rx .nil)) h) (fun r s1 ⟨y, H1, I1, r1, b, e, q⟩ => ?_) fun _ _ z => z))
  subst e
  cases (show r = Value.bool b from r1)
  show wpAny _ _ (truthy (.bool b)) _ _ _
  refine wpAny_truthy_bool ?_
  exact wpAny_pure ⟨.bl (!b), H1, I1, rfl, q⟩
theorem i_notInOwn {C a dx : Addr} {fs : List (Str × V)} {sp : Sp} {E : XK} {x : V} {H : Hp} {Q : VK} (h : H a = some (.ins C dx fs)) (q : sp [.ref a, x] H (fun v H' => ∃ b, v = .bl b ∧ Q (.bl (!b)) H') E) : rNotInOwn C sp E x (.ref a) H Q := ⟨a, dx, fs, rfl, h, q⟩
/-- lists that hold these rows -/
def RowsS (K : PySem.W.Frag) (H : Hp) (xs : List V) (rs : List (List Str)) : Prop := xs.length = rs.length ∧ ∀ (i : Nat) v r, xs[i]? = some v → rs[i]? = some r → ∃ p, v = .ref p ∧ SqL K H p (r.map V.str)
theorem RowsS.nil {K : PySem.W.Frag} {H : Hp} : RowsS K H [] [] := ⟨rfl, fun i v r h _ => by simp at h⟩
theorem RowsS.cons {K : PySem.W.Frag} {H : Hp} {p : Addr} {r : List Str} {xs : List V} {rs : List (List Str)} (h : SqL K H p (r.map V.str)) (t : RowsS K H xs rs) : RowsS K H (.ref p :: xs) (r :: rs) := ⟨by rw [List.length_cons, List.length_cons, t.1], fun i v r' hv hr => by
  cases i with
  | zero =>
    cases hv
    cases hr
    exact ⟨p, rfl, h⟩
  | succ i => exact t.2 i v r' hv hr⟩
end My
namespace My
open PySem PySem.Spec PyProof.Rows L2
structure Dk (K : PySem.W.Frag) (mg : Str → Option Value) (x : Str) (st : Stmt) (ps : List Str) (n : Nat) (kws : List (Str × V)) (f : Addr) (fd : FuncData) : Prop where
  F : FunD K x x (defArgs st) (defBody st) (defScope st) [] kws f fd
  m : mg x = some (.ref f)
  b0 : ∃ ds, Vals (kws.map (·.2)) ds ∧ Binds K fd ps ds
  bk : KBn K fd ps n (kws.map (·.1)) (fun us ws => us ++ ws) (fun vs zs => vs ++ zs)
theorem Dk.okX {P : Program} {w : World} {K : PySem.W.Frag} {mg : Str → Option Value} {base : Heap} {x : Str} {st : Stmt} {n : Nat} {kws : List (Str × V)} {ps0 : List Str} {f : Addr} {fd : FuncData} {N ps : List Str} {k : Nat} {sp : Sp} (D : Dk K mg x st ps0 n kws f fd) (S : FnScope N ps (defScope st)) (len : ∀ vs H Q E, sp vs H Q E → vs.length = ps.length)
    (hbody : ∀ (cdv : Value) (A : Around) (outer : List Env) (s : Shared) (H : Hp) (vs : List V) (Q : VK) (E : XK), Room k (A.deeper (envOfC x (defScope st) s.heap.objs.size f cdv)) → sp vs H Q E →
      ∃ t, PSs (cxOf (L2.CX P w) P w K mg base N x (defScope st) f cdv A outer s H E) (defBody st) t ∧ t { nx := fun _ H' => Q .non H', rt := Q } (start N vs) H) : FnOk P w K mg base (L2.CX P w) (k + 1) f fd ps sp := D.F.ok S len hbody
section
variable {X : Cx} {CX : CXT} {k n : Nat} {f : Addr} {fd : FuncData} {ps ks : List Str} {sp : Sp} {W : WX} {x : Str} {p pos : Pos} {e : Expr} {es : List Expr} {kws : List Keyword} {t tk : TA} {g : List Value → List Value → List Value} {gV : List V → List V → List V}
def tCallNS (n m : Nat) (sp : Sp) (gV : List V → List V → List V) (W : WX) (t tk : TA) : TE := fun σ H Q => t σ H fun vs H1 => tk σ H1 fun zs H2 => vs.length = n ∧ zs.length = m ∧ sp (gV vs zs) H2 Q (fun c d H' => W c d σ H')
instance {σ : L2.St} {H : Hp} {Q : VK} : Nx (tCallNS n ks.length sp gV W t tk σ H Q) (t σ H fun vs H1 => tk σ H1 fun zs H2 => vs.length = n ∧ zs.length = ks.length ∧ sp (gV vs zs) H2 Q (fun c d H' => W c d σ H')) := ⟨fun q => q⟩
end
end My
namespace My
open PySem PySem.Spec PyProof.Rows L2
def topS (i : Nat) : Stmt := PySem.Challenge.pw_drowsefolk_k09_text_of_a_world_reads_bac.main.body.getD i (.Pass ⟨0, 0, 0, 0⟩)
abbrev s_plain : Stmt := topS 2
abbrev n_plain : List Str := ["value", "part"]
abbrev p_plain : List Str := ["value"]
theorem sc_plain : FnScope n_plain p_plain (defScope s_plain) := ⟨rfl, rfl, rfl, by decide +kernel, rfl, by decide +kernel, by decide +kernel⟩
abbrev s_BadName__init : Stmt := inClass (topS 4) 0
abbrev n_BadName__init : List Str := ["self", "name"]
abbrev p_BadName__init : List Str := ["self", "name"]
theorem sc_BadName__init : FnScope n_BadName__init p_BadName__init (defScope s_BadName__init) := ⟨rfl, rfl, rfl, by decide +kernel, rfl, by decide +kernel, by decide +kernel⟩
abbrev s_BadNumber__init : Stmt := inClass (topS 5) 0
abbrev n_BadNumber__init : List Str := ["self", "value"]
abbrev p_BadNumber__init : List Str := ["self", "value"]
theorem sc_BadNumber__init : FnScope n_BadNumber__init p_BadNumber__init (defScope s_BadNumber__init) := ⟨rfl, rfl, rfl, by decide +kernel, rfl, by decide +kernel, by decide +kernel⟩
abbrev s_BadCount__init : Stmt := inClass (topS 6) 0
abbrev n_BadCount__init : List Str := ["self", "what", "number"]
abbrev p_BadCount__init : List Str := ["self", "what", "number"]
theorem sc_BadCount__init : FnScope n_BadCount__init p_BadCount__init (defScope s_BadCount__init) := ⟨rfl, rfl, rfl, by decide +kernel, rfl, by decide +kernel, by decide +kernel⟩
abbrev s_Repeated__init : Stmt := inClass (topS 7) 0
abbrev n_Repeated__init : List Str := ["self", "value"]
abbrev p_Repeated__init : List Str := ["self", "value"]
theorem sc_Repeated__init : FnScope n_Repeated__init p_Repeated__init (defScope s_Repeated__init) := ⟨rfl, rfl, rfl, by decide +kernel, rfl, by decide +kernel, by decide +kernel⟩
abbrev s_UnknownFolk__init : Stmt := inClass (topS 8) 0
abbrev n_UnknownFolk__init : List Str := ["self", "name"]
abbrev p_UnknownFolk__init : List Str := ["self", "name"]
theorem sc_UnknownFolk__init : FnScope n_UnknownFolk__init p_UnknownFolk__init (defScope s_UnknownFolk__init) := ⟨rfl, rfl, rfl, by decide +kernel, rfl, by decide +kernel, by decide +kernel⟩
abbrev s_SelfWatch__init : Stmt := inClass (topS 9) 0
abbrev n_SelfWatch__init : List Str := ["self", "name"]
abbrev p_SelfWatch__init : List Str := ["self", "name"]
theorem sc_SelfWatch__init : FnScope n_SelfWatch__init p_SelfWatch__init (defScope s_SelfWatch__init) := ⟨rfl, rfl, rfl, by decide +kernel, rfl, by decide +kernel, by decide +kernel⟩
abbrev s_BadText__init : Stmt := inClass (topS 10) 0
abbrev n_BadText__init : List Str := ["self", "line"]
abbrev p_BadText__init : List Str := ["self", "line"]
theorem sc_BadText__init : FnScope n_BadText__init p_BadText__init (defScope s_BadText__init) := ⟨rfl, rfl, rfl, by decide +kernel, rfl, by decide +kernel, by decide +kernel⟩
abbrev s_BorderWatch__init : Stmt := inClass (topS 11) 0
abbrev n_BorderWatch__init : List Str := ["self", "watcher", "watched"]
abbrev p_BorderWatch__init : List Str := ["self", "watcher", "watched"]
theorem sc_BorderWatch__init : FnScope n_BorderWatch__init p_BorderWatch__init (defScope s_BorderWatch__init) := ⟨rfl, rfl, rfl, by decide +kernel, rfl, by decide +kernel, by decide +kernel⟩
abbrev s_is_name : Stmt := topS 19
abbrev n_is_name : List Str := ["text", "sign"]
abbrev p_is_name : List Str := ["text"]
theorem sc_is_name : FnScope n_is_name p_is_name (defScope s_is_name) := ⟨rfl, rfl, rfl, by decide +kernel, rfl, by decide +kernel, by decide +kernel⟩
abbrev s_is_number : Stmt := topS 20
abbrev n_is_number : List Str := ["value", "low", "high"]
abbrev p_is_number : List Str := ["value", "low", "high"]
theorem sc_is_number : FnScope n_is_number p_is_number (defScope s_is_number) := ⟨rfl, rfl, rfl, by decide +kernel, rfl, by decide +kernel, by decide +kernel⟩
abbrev s_check_number : Stmt := topS 22
abbrev n_check_number : List Str := ["value", "low", "high"]
abbrev p_check_number : List Str := ["value", "low", "high"]
theorem sc_check_number : FnScope n_check_number p_check_number (defScope s_check_number) := ⟨rfl, rfl, rfl, by decide +kernel, rfl, by decide +kernel, by decide +kernel⟩
abbrev s_check_count : Stmt := topS 23
abbrev n_check_count : List Str := ["what", "number", "low", "high"]
abbrev p_check_count : List Str := ["what", "number", "low", "high"]
theorem sc_check_count : FnScope n_check_count p_check_count (defScope s_check_count) := ⟨rfl, rfl, rfl, by decide +kernel, rfl, by decide +kernel, by decide +kernel⟩
abbrev s_check_new_name : Stmt := topS 24
abbrev n_check_new_name : List Str := ["name"]
abbrev p_check_new_name : List Str := ["name"]
theorem sc_check_new_name : FnScope n_check_new_name p_check_new_name (defScope s_check_new_name) := ⟨rfl, rfl, rfl, by decide +kernel, rfl, by decide +kernel, by decide +kernel⟩
abbrev s_place_in : Stmt := topS 25
abbrev n_place_in : List Str := ["names", "name"]
abbrev p_place_in : List Str := ["names", "name"]
theorem sc_place_in : FnScope n_place_in p_place_in (defScope s_place_in) := ⟨rfl, rfl, rfl, by decide +kernel, rfl, by decide +kernel, by decide +kernel⟩
abbrev s_mask_of : Stmt := topS 26
abbrev n_mask_of : List Str := ["web", "names", "mask", "name", "bit"]
abbrev p_mask_of : List Str := ["web", "names"]
theorem sc_mask_of : FnScope n_mask_of p_mask_of (defScope s_mask_of) := ⟨rfl, rfl, rfl, by decide +kernel, rfl, by decide +kernel, by decide +kernel⟩
abbrev s_positions : Stmt := topS 27
abbrev n_positions : List Str := ["mask", "place"]
abbrev p_positions : List Str := ["mask"]
theorem sc_positions : FnScope n_positions p_positions (defScope s_positions) := ⟨rfl, rfl, rfl, by decide +kernel, rfl, by decide +kernel, by decide +kernel⟩
abbrev s_tell : Stmt := topS 28
abbrev n_tell : List Str := ["web", "mask", "place"]
abbrev p_tell : List Str := ["web", "mask"]
theorem sc_tell : FnScope n_tell p_tell (defScope s_tell) := ⟨rfl, rfl, rfl, by decide +kernel, rfl, by decide +kernel, by decide +kernel⟩
abbrev s_examined_folk : Stmt := topS 30
abbrev n_examined_folk : List Str := ["taken", "folk", "needs", "name", "need"]
abbrev p_examined_folk : List Str := ["taken", "folk"]
theorem sc_examined_folk : FnScope n_examined_folk p_examined_folk (defScope s_examined_folk) := ⟨rfl, rfl, rfl, by decide +kernel, rfl, by decide +kernel, by decide +kernel⟩
abbrev s_examined_watches : Stmt := topS 31
abbrev n_examined_watches : List Str := ["border", "outer", "watches", "names", "weights", "watcher", "watched", "weight", "watcher_place", "watched_place", "pair"]
abbrev p_examined_watches : List Str := ["border", "outer", "watches"]
theorem sc_examined_watches : FnScope n_examined_watches p_examined_watches (defScope s_examined_watches) := ⟨rfl, rfl, rfl, by decide +kernel, rfl, by decide +kernel, by decide +kernel⟩
abbrev s_all_pulls : Stmt := topS 32
abbrev n_all_pulls : List Str := ["names", "watches", "name", "row"]
abbrev p_all_pulls : List Str := ["names", "watches"]
theorem sc_all_pulls : FnScope n_all_pulls p_all_pulls (defScope s_all_pulls) := ⟨rfl, rfl, rfl, by decide +kernel, rfl, by decide +kernel, by decide +kernel⟩
abbrev s_Web__init : Stmt := inClass (topS 33) 0
abbrev n_Web__init : List Str := ["self", "folk", "watches", "row"]
abbrev p_Web__init : List Str := ["self", "folk", "watches"]
theorem sc_Web__init : FnScope n_Web__init p_Web__init (defScope s_Web__init) := ⟨rfl, rfl, rfl, by decide +kernel, rfl, by decide +kernel, by decide +kernel⟩
abbrev s_Web_names : Stmt := inClass (topS 33) 1
abbrev n_Web_names : List Str := ["self"]
abbrev p_Web_names : List Str := ["self"]
theorem sc_Web_names : FnScope n_Web_names p_Web_names (defScope s_Web_names) := ⟨rfl, rfl, rfl, by decide +kernel, rfl, by decide +kernel, by decide +kernel⟩
abbrev s_Web__contains : Stmt := inClass (topS 33) 11
abbrev n_Web__contains : List Str := ["self", "name"]
abbrev p_Web__contains : List Str := ["self", "name"]
theorem sc_Web__contains : FnScope n_Web__contains p_Web__contains (defScope s_Web__contains) := ⟨rfl, rfl, rfl, by decide +kernel, rfl, by decide +kernel, by decide +kernel⟩
abbrev s_world_text : Stmt := topS 36
abbrev n_world_text : List Str := ["web", "awake"]
abbrev p_world_text : List Str := ["web", "awake"]
theorem sc_world_text : FnScope n_world_text p_world_text (defScope s_world_text) := ⟨rfl, rfl, rfl, by decide +kernel, rfl, by decide +kernel, by decide +kernel⟩
abbrev s_read_world : Stmt := topS 37
abbrev n_read_world : List Str := ["web", "text", "names", "at", "name"]
abbrev p_read_world : List Str := ["web", "text"]
theorem sc_read_world : FnScope n_read_world p_read_world (defScope s_read_world) := ⟨rfl, rfl, rfl, by decide +kernel, rfl, by decide +kernel, by decide +kernel⟩
abbrev s_law_store : Stmt := topS 39
abbrev n_law_store : List Str := ["script", "total", "cell"]
abbrev p_law_store : List Str := ["script"]
theorem sc_law_store : FnScope n_law_store p_law_store (defScope s_law_store) := ⟨rfl, rfl, rfl, by decide +kernel, rfl, by decide +kernel, by decide +kernel⟩
abbrev s_law_next : Stmt := topS 40
abbrev n_law_next : List Str := ["store", "cell"]
abbrev p_law_next : List Str := ["store"]
theorem sc_law_next : FnScope n_law_next p_law_next (defScope s_law_next) := ⟨rfl, rfl, rfl, by decide +kernel, rfl, by decide +kernel, by decide +kernel⟩
abbrev s_law_raw : Stmt := topS 41
abbrev n_law_raw : List Str := ["store", "one", "two"]
abbrev p_law_raw : List Str := ["store"]
theorem sc_law_raw : FnScope n_law_raw p_law_raw (defScope s_law_raw) := ⟨rfl, rfl, rfl, by decide +kernel, rfl, by decide +kernel, by decide +kernel⟩
abbrev s_law_take : Stmt := topS 42
abbrev n_law_take : List Str := ["store", "many", "number", "size", "k"]
abbrev p_law_take : List Str := ["store", "many"]
theorem sc_law_take : FnScope n_law_take p_law_take (defScope s_law_take) := ⟨rfl, rfl, rfl, by decide +kernel, rfl, by decide +kernel, by decide +kernel⟩
abbrev s_law_some : Stmt := topS 43
abbrev n_law_some : List Str := ["store", "low", "high", "pick"]
abbrev p_law_some : List Str := ["store", "low", "high"]
theorem sc_law_some : FnScope n_law_some p_law_some (defScope s_law_some) := ⟨rfl, rfl, rfl, by decide +kernel, rfl, by decide +kernel, by decide +kernel⟩
abbrev s_law_size : Stmt := topS 44
abbrev n_law_size : List Str := ["store", "least", "usual", "greatest", "pick"]
abbrev p_law_size : List Str := ["store", "least", "usual", "greatest"]
theorem sc_law_size : FnScope n_law_size p_law_size (defScope s_law_size) := ⟨rfl, rfl, rfl, by decide +kernel, rfl, by decide +kernel, by decide +kernel⟩
abbrev s_law_pick : Stmt := topS 45
abbrev n_law_pick : List Str := ["store", "row"]
abbrev p_law_pick : List Str := ["store", "row"]
theorem sc_law_pick : FnScope n_law_pick p_law_pick (defScope s_law_pick) := ⟨rfl, rfl, rfl, by decide +kernel, rfl, by decide +kernel, by decide +kernel⟩
abbrev s_law_mixed : Stmt := topS 46
abbrev n_law_mixed : List Str := ["store", "row", "left", "pick", "out", "k"]
abbrev p_law_mixed : List Str := ["store", "row"]
theorem sc_law_mixed : FnScope n_law_mixed p_law_mixed (defScope s_law_mixed) := ⟨rfl, rfl, rfl, by decide +kernel, rfl, by decide +kernel, by decide +kernel⟩
abbrev s_law_some_of : Stmt := topS 47
abbrev n_law_some_of : List Str := ["store", "row", "pick", "item"]
abbrev p_law_some_of : List Str := ["store", "row"]
theorem sc_law_some_of : FnScope n_law_some_of p_law_some_of (defScope s_law_some_of) := ⟨rfl, rfl, rfl, by decide +kernel, rfl, by decide +kernel, by decide +kernel⟩
abbrev s_law_loose : Stmt := topS 48
abbrev n_law_loose : List Str := ["store", "thing", "parts", "part"]
abbrev p_law_loose : List Str := ["store", "thing"]
theorem sc_law_loose : FnScope n_law_loose p_law_loose (defScope s_law_loose) := ⟨rfl, rfl, rfl, by decide +kernel, rfl, by decide +kernel, by decide +kernel⟩
abbrev s_law_same : Stmt := topS 49
abbrev n_law_same : List Str := ["one", "other", "k"]
abbrev p_law_same : List Str := ["one", "other"]
theorem sc_law_same : FnScope n_law_same p_law_same (defScope s_law_same) := ⟨rfl, rfl, rfl, by decide +kernel, rfl, by decide +kernel, by decide +kernel⟩
abbrev s_law_unlike : Stmt := topS 50
abbrev n_law_unlike : List Str := ["name", "taken", "k", "other"]
abbrev p_law_unlike : List Str := ["name", "taken"]
theorem sc_law_unlike : FnScope n_law_unlike p_law_unlike (defScope s_law_unlike) := ⟨rfl, rfl, rfl, by decide +kernel, rfl, by decide +kernel, by decide +kernel⟩
abbrev s_law_name : Stmt := topS 51
abbrev n_law_name : List Str := ["store", "words", "signs", "name", "k"]
abbrev p_law_name : List Str := ["store"]
theorem sc_law_name : FnScope n_law_name p_law_name (defScope s_law_name) := ⟨rfl, rfl, rfl, by decide +kernel, rfl, by decide +kernel, by decide +kernel⟩
abbrev s_law_names : Stmt := topS 52
abbrev n_law_names : List Str := ["store", "many", "signs", "form", "start", "stem", "place", "out", "k", "name"]
abbrev p_law_names : List Str := ["store", "many"]
theorem sc_law_names : FnScope n_law_names p_law_names (defScope s_law_names) := ⟨rfl, rfl, rfl, by decide +kernel, rfl, by decide +kernel, by decide +kernel⟩
abbrev s_law_bad_name : Stmt := topS 53
abbrev n_law_bad_name : List Str := ["store", "wrong", "name", "pick", "place", "sign"]
abbrev p_law_bad_name : List Str := ["store"]
theorem sc_law_bad_name : FnScope n_law_bad_name p_law_bad_name (defScope s_law_bad_name) := ⟨rfl, rfl, rfl, by decide +kernel, rfl, by decide +kernel, by decide +kernel⟩
abbrev s_law_stranger : Stmt := topS 54
abbrev n_law_stranger : List Str := ["store", "names", "pick", "near"]
abbrev p_law_stranger : List Str := ["store", "names"]
theorem sc_law_stranger : FnScope n_law_stranger p_law_stranger (defScope s_law_stranger) := ⟨rfl, rfl, rfl, by decide +kernel, rfl, by decide +kernel, by decide +kernel⟩
abbrev s_law_fresh : Stmt := topS 55
abbrev n_law_fresh : List Str := ["store", "names"]
abbrev p_law_fresh : List Str := ["store", "names"]
theorem sc_law_fresh : FnScope n_law_fresh p_law_fresh (defScope s_law_fresh) := ⟨rfl, rfl, rfl, by decide +kernel, rfl, by decide +kernel, by decide +kernel⟩
abbrev s_law_row_fault : Stmt := topS 56
abbrev n_law_row_fault : List Str := ["names", "row", "seen", "name"]
abbrev p_law_row_fault : List Str := ["names", "row"]
theorem sc_law_row_fault : FnScope n_law_row_fault p_law_row_fault (defScope s_law_row_fault) := ⟨rfl, rfl, rfl, by decide +kernel, rfl, by decide +kernel, by decide +kernel⟩
abbrev s_law_bent_row : Stmt := topS 57
abbrev n_law_bent_row : List Str := ["store", "names", "row", "out", "word", "place", "value"]
abbrev p_law_bent_row : List Str := ["store", "names", "row"]
theorem sc_law_bent_row : FnScope n_law_bent_row p_law_bent_row (defScope s_law_bent_row) := ⟨rfl, rfl, rfl, by decide +kernel, rfl, by decide +kernel, by decide +kernel⟩
abbrev s_law_any_row : Stmt := topS 58
abbrev n_law_any_row : List Str := ["store", "names", "row", "bent"]
abbrev p_law_any_row : List Str := ["store", "names"]
theorem sc_law_any_row : FnScope n_law_any_row p_law_any_row (defScope s_law_any_row) := ⟨rfl, rfl, rfl, by decide +kernel, rfl, by decide +kernel, by decide +kernel⟩
abbrev s_law_rest : Stmt := topS 59
abbrev n_law_rest : List Str := ["names", "others", "name"]
abbrev p_law_rest : List Str := ["names", "others"]
theorem sc_law_rest : FnScope n_law_rest p_law_rest (defScope s_law_rest) := ⟨rfl, rfl, rfl, by decide +kernel, rfl, by decide +kernel, by decide +kernel⟩
abbrev s_law_awake : Stmt := topS 60
abbrev n_law_awake : List Str := ["store", "names"]
abbrev p_law_awake : List Str := ["store", "names"]
theorem sc_law_awake : FnScope n_law_awake p_law_awake (defScope s_law_awake) := ⟨rfl, rfl, rfl, by decide +kernel, rfl, by decide +kernel, by decide +kernel⟩
abbrev s_law_world_line : Stmt := topS 61
abbrev n_law_world_line : List Str := ["world"]
abbrev p_law_world_line : List Str := ["world"]
theorem sc_law_world_line : FnScope n_law_world_line p_law_world_line (defScope s_law_world_line) := ⟨rfl, rfl, rfl, by decide +kernel, rfl, by decide +kernel, by decide +kernel⟩
abbrev s_law_bent_world_text : Stmt := topS 62
abbrev n_law_bent_world_text : List Str := ["store", "names", "row", "pick"]
abbrev p_law_bent_world_text : List Str := ["store", "names"]
theorem sc_law_bent_world_text : FnScope n_law_bent_world_text p_law_bent_world_text (defScope s_law_bent_world_text) := ⟨rfl, rfl, rfl, by decide +kernel, rfl, by decide +kernel, by decide +kernel⟩
abbrev s_law_written : Stmt := topS 63
abbrev n_law_written : List Str := ["web", "row", "e"]
abbrev p_law_written : List Str := ["web", "row"]
theorem sc_law_written : FnScope n_law_written p_law_written (defScope s_law_written) := ⟨rfl, rfl, rfl, by decide +kernel, rfl, by decide +kernel, by decide +kernel⟩
abbrev s_law_written_due : Stmt := topS 64
abbrev n_law_written_due : List Str := ["names", "row", "fault", "text", "name"]
abbrev p_law_written_due : List Str := ["names", "row"]
theorem sc_law_written_due : FnScope n_law_written_due p_law_written_due (defScope s_law_written_due) := ⟨rfl, rfl, rfl, by decide +kernel, rfl, by decide +kernel, by decide +kernel⟩
abbrev s_law_told : Stmt := topS 65
abbrev n_law_told : List Str := ["web", "text", "e"]
abbrev p_law_told : List Str := ["web", "text"]
theorem sc_law_told : FnScope n_law_told p_law_told (defScope s_law_told) := ⟨rfl, rfl, rfl, by decide +kernel, rfl, by decide +kernel, by decide +kernel⟩
abbrev s_law_due : Stmt := topS 66
abbrev n_law_due : List Str := ["names", "text", "words", "name"]
abbrev p_law_due : List Str := ["names", "text"]
theorem sc_law_due : FnScope n_law_due p_law_due (defScope s_law_due) := ⟨rfl, rfl, rfl, by decide +kernel, rfl, by decide +kernel, by decide +kernel⟩
abbrev s_law_texts : Stmt := topS 67
abbrev n_law_texts : List Str := ["store", "names", "row", "right", "out"]
abbrev p_law_texts : List Str := ["store", "names", "row"]
theorem sc_law_texts : FnScope n_law_texts p_law_texts (defScope s_law_texts) := ⟨rfl, rfl, rfl, by decide +kernel, rfl, by decide +kernel, by decide +kernel⟩
abbrev s_law : Stmt := topS 68
abbrev n_law : List Str := ["script", "store", "names", "order", "web", "turned", "rows", "texts", "row", "again", "handed", "text", "k", "name"]
abbrev p_law : List Str := ["script"]
theorem sc_law : FnScope n_law p_law (defScope s_law) := ⟨rfl, rfl, rfl, by decide +kernel, rfl, by decide +kernel, by decide +kernel⟩
structure Txt (K : PySem.W.Frag) (mg : Str → Option Value) : Prop where
  b_all : mg "all" = none
  b_bool : mg "bool" = none
  b_enumerate : mg "enumerate" = none
  b_int : mg "int" = none
  b_isinstance : mg "isinstance" = none
  b_iter : mg "iter" = none
  b_len : mg "len" = none
  b_list : mg "list" = none
  b_range : mg "range" = none
  b_sorted : mg "sorted" = none
  b_str : mg "str" = none
  b_sum : mg "sum" = none
  b_tuple : mg "tuple" = none
  c_MOST_FOLK : ∃ u, mg "MOST_FOLK" = some u ∧ RelV (.int 10) u
  c_MOST_NUMBER : ∃ u, mg "MOST_NUMBER" = some u ∧ RelV (.int 9999) u
  c_MOST_WATCHES : ∃ u, mg "MOST_WATCHES" = some u ∧ RelV (.int 24) u
  c_LETTERS : ∃ u, mg "_LETTERS" = some u ∧ RelV (.str "abcdefghijklmnopqrstuvwxyz") u
  c_LETTERS_AND_DIGITS : ∃ u, mg "_LETTERS_AND_DIGITS" = some u ∧ RelV (.str "abcdefghijklmnopqrstuvwxyz0123456789") u
  c_LONGEST_NAME : ∃ u, mg "_LONGEST_NAME" = some u ∧ RelV (.int 8) u
  c_NOBODY : ∃ u, mg "_NOBODY" = some u ∧ RelV (.str "-") u
structure Ek (K : PySem.W.Frag) : Prop where
  ok : True
  m_BadName_DrowseError : PySem.W.exmOne K (.ref (gad K "BadName")) (.ref (gad K "DrowseError")) = some true
  k_BadName_UnknownFolk : PySem.W.kitOne K (.ref (gad K "BadName")) (.ref (gad K "UnknownFolk")) = some false
  k_BadName_Repeated : PySem.W.kitOne K (.ref (gad K "BadName")) (.ref (gad K "Repeated")) = some false
  k_BadName_BadText : PySem.W.kitOne K (.ref (gad K "BadName")) (.ref (gad K "BadText")) = some false
  k_BadName_BadName : PySem.W.kitOne K (.ref (gad K "BadName")) (.ref (gad K "BadName")) = some true
  m_BadNumber_DrowseError : PySem.W.exmOne K (.ref (gad K "BadNumber")) (.ref (gad K "DrowseError")) = some true
  k_BadNumber_UnknownFolk : PySem.W.kitOne K (.ref (gad K "BadNumber")) (.ref (gad K "UnknownFolk")) = some false
  k_BadNumber_Repeated : PySem.W.kitOne K (.ref (gad K "BadNumber")) (.ref (gad K "Repeated")) = some false
  k_BadNumber_BadText : PySem.W.kitOne K (.ref (gad K "BadNumber")) (.ref (gad K "BadText")) = some false
  k_BadNumber_BadName : PySem.W.kitOne K (.ref (gad K "BadNumber")) (.ref (gad K "BadName")) = some false
  m_BadCount_DrowseError : PySem.W.exmOne K (.ref (gad K "BadCount")) (.ref (gad K "DrowseError")) = some true
  k_BadCount_UnknownFolk : PySem.W.kitOne K (.ref (gad K "BadCount")) (.ref (gad K "UnknownFolk")) = some false
  k_BadCount_Repeated : PySem.W.kitOne K (.ref (gad K "BadCount")) (.ref (gad K "Repeated")) = some false
  k_BadCount_BadText : PySem.W.kitOne K (.ref (gad K "BadCount")) (.ref (gad K "BadText")) = some false
  k_BadCount_BadName : PySem.W.kitOne K (.ref (gad K "BadCount")) (.ref (gad K "BadName")) = some false
  m_Repeated_DrowseError : PySem.W.exmOne K (.ref (gad K "Repeated")) (.ref (gad K "DrowseError")) = some true
  k_Repeated_UnknownFolk : PySem.W.kitOne K (.ref (gad K "Repeated")) (.ref (gad K "UnknownFolk")) = some false
  k_Repeated_Repeated : PySem.W.kitOne K (.ref (gad K "Repeated")) (.ref (gad K "Repeated")) = some true
  k_Repeated_BadText : PySem.W.kitOne K (.ref (gad K "Repeated")) (.ref (gad K "BadText")) = some false
  k_Repeated_BadName : PySem.W.kitOne K (.ref (gad K "Repeated")) (.ref (gad K "BadName")) = some false
  m_UnknownFolk_DrowseError : PySem.W.exmOne K (.ref (gad K "UnknownFolk")) (.ref (gad K "DrowseError")) = some true
  k_UnknownFolk_UnknownFolk : PySem.W.kitOne K (.ref (gad K "UnknownFolk")) (.ref (gad K "UnknownFolk")) = some true
  k_UnknownFolk_Repeated : PySem.W.kitOne K (.ref (gad K "UnknownFolk")) (.ref (gad K "Repeated")) = some false
  k_UnknownFolk_BadText : PySem.W.kitOne K (.ref (gad K "UnknownFolk")) (.ref (gad K "BadText")) = some false
  k_UnknownFolk_BadName : PySem.W.kitOne K (.ref (gad K "UnknownFolk")) (.ref (gad K "BadName")) = some false
  m_SelfWatch_DrowseError : PySem.W.exmOne K (.ref (gad K "SelfWatch")) (.ref (gad K "DrowseError")) = some true
  k_SelfWatch_UnknownFolk : PySem.W.kitOne K (.ref (gad K "SelfWatch")) (.ref (gad K "UnknownFolk")) = some false
  k_SelfWatch_Repeated : PySem.W.kitOne K (.ref (gad K "SelfWatch")) (.ref (gad K "Repeated")) = some false
  k_SelfWatch_BadText : PySem.W.kitOne K (.ref (gad K "SelfWatch")) (.ref (gad K "BadText")) = some false
  k_SelfWatch_BadName : PySem.W.kitOne K (.ref (gad K "SelfWatch")) (.ref (gad K "BadName")) = some false
  m_BadText_DrowseError : PySem.W.exmOne K (.ref (gad K "BadText")) (.ref (gad K "DrowseError")) = some true
  k_BadText_UnknownFolk : PySem.W.kitOne K (.ref (gad K "BadText")) (.ref (gad K "UnknownFolk")) = some false
  k_BadText_Repeated : PySem.W.kitOne K (.ref (gad K "BadText")) (.ref (gad K "Repeated")) = some false
  k_BadText_BadText : PySem.W.kitOne K (.ref (gad K "BadText")) (.ref (gad K "BadText")) = some true
  k_BadText_BadName : PySem.W.kitOne K (.ref (gad K "BadText")) (.ref (gad K "BadName")) = some false
  m_BorderWatch_DrowseError : PySem.W.exmOne K (.ref (gad K "BorderWatch")) (.ref (gad K "DrowseError")) = some true
  k_BorderWatch_UnknownFolk : PySem.W.kitOne K (.ref (gad K "BorderWatch")) (.ref (gad K "UnknownFolk")) = some false
  k_BorderWatch_Repeated : PySem.W.kitOne K (.ref (gad K "BorderWatch")) (.ref (gad K "Repeated")) = some false
  k_BorderWatch_BadText : PySem.W.kitOne K (.ref (gad K "BorderWatch")) (.ref (gad K "BadText")) = some false
  k_BorderWatch_BadName : PySem.W.kitOne K (.ref (gad K "BorderWatch")) (.ref (gad K "BadName")) = some false
end My
namespace My
open PySem PySem.Spec PyProof.Rows L2
local macro_rules | `(tactic| walk_at "my hyp") => `(tactic| first | assumption | exact upd_same | (rw [upd_ne (by assumption)]; assumption) | (rw [upd_ne (by assumption)]; exact upd_same) | (rw [upd_ne (by assumption), upd_ne (by assumption)]; assumption))
local macro_rules | `(tactic| walk_at "my c") => `(tactic| first | assumption | (show (0 : Int) < _; first | assumption | decide | omega) | exact .inr ⟨by decide, by decide⟩ | exact .inl ⟨by decide, by decide⟩ | exact .inl ⟨by omega, by omega⟩ | exact .inr ⟨by omega, by omega⟩ | exact ⟨by decide, by decide⟩ | exact ⟨by decide, by decide, by decide⟩)
local macro_rules | `(tactic| walk_at "my len") => `(tactic| first | omega | ((try simp only [len_app, len_one]); omega) | decide)
local macro_rules | `(tactic| walk_at "my ty") => `(tactic| first | exact .base (.int _) | exact .base (.bl _) | exact .base (.str _) | exact .base .non | exact .base (.lst (by walk_at "my hyp")) | exact .base (.tup (by walk_at "my hyp")) | exact ty_rd (by assumption))
local macro_rules | `(tactic| walk_at "my st") => `(tactic| first
  | (with_reducible refine i_cons ?_)
  | ((with_reducible refine' i_var ?h ?_); (case h => exact rfl))
  | (with_reducible refine i_nil ?_)
  | (with_reducible refine i_c ?_)
  | (with_reducible refine i_op ?_)
  | (with_reducible refine i_bl ?_)
  | (with_reducible refine i_CB ?_)
  | (with_reducible refine i_seq ?_)
  | (with_reducible refine i_if ?_)
  | (with_reducible refine i_B ?_)
  | (with_reducible refine i_call ?_)
  | (with_reducible refine i_gname ?_)
  | (with_reducible refine i_asg ?_)
  | (with_reducible refine i_next ?_)
  | (with_reducible refine i_test ?_)
  | (with_reducible refine iteF ?_)
  | (with_reducible refine iteT ?_)
  | (with_reducible refine i_ret ?_)
  | (with_reducible refine Nx.go ?_)
  | (with_reducible refine i_bits ?_)
  | (with_reducible refine i_shrN ?_)
  | (with_reducible refine i_I0 ?_)
  | (with_reducible refine i_U ?_)
  | ((with_reducible refine' i_eq ?h ?_); (case h => exact rfl))
  | ((with_reducible refine' i_ne ?h ?_); (case h => exact rfl))
  | (with_reducible refine i_chain3 ?_)
  | (with_reducible refine i_bmF ?_)
  | ((with_reducible refine' i_lenL ?h ?_); (case h => exact sqL (by walk_at "my hyp")))
  | ((with_reducible refine' i_lenT ?h ?_); (case h => first | exact sqT (by walk_at "my hyp") | exact sqR (by assumption)))
  | ((with_reducible refine' i_tyL ?h ?_); (case h => exact sqL (by walk_at "my hyp")))
  | ((with_reducible refine' i_lenVL ?h ?_); (case h => exact sqL (by walk_at "my hyp")))
  | ((with_reducible refine' i_lenVT ?h ?_); (case h => first | exact sqT (by walk_at "my hyp") | exact sqR (by assumption)))
  | ((with_reducible refine' i_lenVS ?h ?_); (case h => walk_at "my len"))
  | ((with_reducible refine' i_lenZ ?h ?_); (case h => walk_at "my len"))
  | ((with_reducible refine' i_addZ ?h ?_); (case h => walk_at "my len"))
  | ((with_reducible refine' i_up ?h ?_); (case h => walk_at "my len"))
  | ((with_reducible refine' i_slS ?h ?_); (case h => walk_at "my len"))
  | ((with_reducible refine' i_ixS ?h ?a ?_); (case h => exact Nat.le_trans (m := 100000) (by walk_at "my len") (by decide)); (case a => first | assumption | exact rfl))
  | (with_reducible refine i_nF ?_)
  | (with_reducible refine i_nT ?_)
  | ((with_reducible refine' i_isi1 (b := true) ?h ?a ?_); (case h => walk_at "my ty"); (case a => decide +kernel))
  | ((with_reducible refine' i_isi1 (b := false) ?h ?a ?_); (case h => walk_at "my ty"); (case a => decide +kernel))
  | ((with_reducible refine' i_isi2' true false true ?h ?t ?a ?b rfl ?_); (case h => walk_at "my hyp"); (case t => walk_at "my ty"); (case a => decide +kernel); (case b => decide +kernel))
  | ((with_reducible refine' i_isi2' false true true ?h ?t ?a ?b rfl ?_); (case h => walk_at "my hyp"); (case t => walk_at "my ty"); (case a => decide +kernel); (case b => decide +kernel))
  | ((with_reducible refine' i_isi2' false false false ?h ?t ?a ?b rfl ?_); (case h => walk_at "my hyp"); (case t => walk_at "my ty"); (case a => decide +kernel); (case b => decide +kernel))
  | ((with_reducible refine' i_I ?h ?_); (case h => walk_at "my c"))
  | ((with_reducible refine' i_ixL ?h ?a ?_); (case h => exact sqL (by walk_at "my hyp")); (case a => exact rfl))
  | ((with_reducible refine' i_ixT ?h ?a ?_); (case h => first | exact sqT (by walk_at "my hyp") | exact sqR (by assumption)); (case a => exact rfl))
  | ((with_reducible refine' i_ixAL ?h ?a ?_); (case h => exact sqL (by walk_at "my hyp")); (case a => first | assumption | exact rfl))
  | ((with_reducible refine' i_ixAT ?h ?a ?_); (case h => first | exact sqT (by walk_at "my hyp") | exact sqR (by assumption)); (case a => first | assumption | exact rfl))
  | ((with_reducible refine' i_setL ?h ?a ?_); (case h => walk_at "my hyp"); (case a => exact rfl)))
local macro_rules | `(tactic| walk_at "my or") => `(tactic| first
  | ((with_reducible refine' i_orP _ _ ?h1 ?h2 ?q); (case h1 => intro tq q; (repeat (first | walk_at "my or" | walk_at "my st")); exact q); (case h2 => intro tq q; (repeat (first | walk_at "my or" | walk_at "my st")); exact q))
  | ((with_reducible refine' i_andP _ _ ?h1 ?h2 ?q); (case h1 => intro tq q; (repeat (first | walk_at "my or" | walk_at "my st")); exact q); (case h2 => intro _ tq q; (repeat (first | walk_at "my or" | walk_at "my st")); exact q)))
local macro_rules | `(tactic| walk_at "my ots") => `(tactic| repeat (first | walk_at "my or" | walk_at "my st"))
local macro_rules | `(tactic| walk_at "my ab") => `(tactic| first
  | ((with_reducible refine' a_add ?h ?_); (case h => walk_at "my len"); intro w hw)
  | ((with_reducible refine' a_sl ?h ?_); (case h => walk_at "my len"); intro w hw)
  | ((with_reducible refine' a_up ?h ?_); (case h => walk_at "my len"); intro w hw)
  | walk_at "my st")
local macro_rules | `(tactic| walk_at "my abs") => `(tactic| repeat (walk_at "my ab"))
local macro_rules | `(tactic| walk_at "my sts") => `(tactic| repeat (walk_at "my st"))
section
variable {P : Program} {w : World} {K : PySem.W.Frag} {mg : Str → Option Value} {base : Heap} {LT : List (Addr × Str)}
def sp_law_store (K : PySem.W.Frag) : Sp := fun vs H Q _ => ∃ (a : Addr) (ns : List Int), vs = [.ref a] ∧ SqL K H a (ns.map V.int) ∧ ns.length ≤ 1000 ∧ ∀ s H', H s = none → StOk H' s → Same H H' → Q (.ref s) H'
theorem ok_law_store {f : Addr} {fd : FuncData}
    (T : Txt K mg) (D : Dn K mg "_law_store" s_law_store p_law_store f fd) : FnOk P w K mg base CX0 1 f fd p_law_store (sp_law_store K) := by
  refine D.F.ok sc_law_store (fun vs H Q E h => ?_) (fun cdv A outer s H vs Q E hr h => ?_)
  · obtain ⟨a, ns, rfl, _⟩ := h
    rfl
  · obtain ⟨a, ns, rfl, hS, hl, k⟩ := h
    refine ⟨_, (pss_cons (ps_set (i := 1) sc_law_store.nd rfl (Or.inl rfl) (pe_op op_add pe_int (pe_op op_mul pe_int (pe_callB (n_lenQK (K := K) rfl) (by rfl) T.b_len (by decide +kernel) (pa_cons (pv 0) pa_nil)))))
  (pss_cons (ps_for PassesOwn.never rfl (pi_list (pv 0)) (pg_name (i := 2) sc_law_store.nd rfl (Or.inl rfl))
   (pss_one (ps_set (i := 1) sc_law_store.nd rfl (Or.inl rfl) (pe_op op_add (pv 1) (pe_op op_mod (pe_callTy n_int (by rfl) T.b_int (by decide +kernel) (pa_cons (pv 2) pa_nil)) pe_int)))))
  (pss_one (ps_ret (pe_lst (pa_cons (pe_callTy (n_listK (K := K) rfl) (by rfl) T.b_list (by decide +kernel) (pa_cons (pv 0) pa_nil)) (pa_cons pe_int (pa_cons pe_int (pa_cons pe_int (pa_cons pe_int (pa_cons pe_int (pa_cons (pe_op op_mod (pe_callTy n_int (by rfl) T.b_int (by decide +kernel) (pa_cons (pv 1) pa_nil)) pe_int) pa_nil)))))))))))), ?_⟩
    walk_at "my sts"
    refine i_lenL hS ?_
    walk_at "my sts"
    refine fl (xs := ns.map V.int) hS (fun i σ' H' => H' = H ∧ ∃ t c, σ' = [some (.ref a), some (.int t), c]) ⟨rfl, _, none, rfl⟩ (fun i σ' H' _ h => h.1 ▸ hS) ?_ ?_
    · rintro i x σ' H' hx ⟨rfl, t, c, rfl⟩
      obtain ⟨z, rfl⟩ : ∃ z, x = V.int z := by
        rw [List.getElem?_map] at hx
        obtain ⟨z, _, e⟩ := Option.map_eq_some_iff.mp hx
        exact ⟨z, e.symm⟩
      walk_at "my sts"
      exact ⟨rfl, _, _, rfl⟩
    · rintro σ' H' ⟨rfl, t, c, rfl⟩
      walk_at "my sts"
      refine i_listL hS fun q hq => ?_
      walk_at "my sts"
      refine ⟨by show 7 ≤ sizeLine; decide, fun p hp => ?_⟩
      have nqp : p ≠ q := fun e => by
        rw [e, upd_same] at hp
        cases hp
      refine k p _ (by rw [upd_ne nqp] at hp; exact hp) ⟨q, ns, 0, 0, 0, 0, 0, _, upd_same, by rw [upd_ne nqp.symm, upd_same], nqp.symm, Int.le_refl _⟩ ?_
      exact (same_new hq).trans (same_new hp)
def sp_law_next (K : PySem.W.Frag) : Sp := fun vs H Q _ => ∃ s, vs = [.ref s] ∧ StOk H s ∧ ∀ H', StOk H' s → Fr s H H' → Q .non H'
theorem ok_law_next {f : Addr} {fd : FuncData}
    (T : Txt K mg) (D : Dn K mg "_law_next" s_law_next p_law_next f fd) : FnOk P w K mg base CX0 1 f fd p_law_next (sp_law_next K) := by
  refine D.F.ok sc_law_next (fun vs H Q E h => ?_) (fun cdv A outer s' H vs Q E hr h => ?_)
  · obtain ⟨s, rfl, _⟩ := h
    rfl
  · obtain ⟨s, rfl, hst, k⟩ := h
    obtain ⟨q, ns, i1, n2, i3, i4, i5, i6, hs, hq, nq, h0⟩ := hst
    refine ⟨_, (pss_cons (ps_if (pt_cmpR op_ge (pe_ix (ix_listK (K := K) rfl) (pv 0) pe_int (fun _ _ => rfl)) (pe_callB (n_lenQK (K := K) rfl) (by rfl) T.b_len (by decide +kernel) (pa_cons (pe_ix (ix_listK (K := K) rfl) (pv 0) pe_int (fun _ _ => rfl)) pa_nil)) (nomark _)) (pss_cons (ps_asg (pe_ix (ix_listK (K := K) rfl) (pv 0) pe_int (fun _ _ => rfl)) (pg_sub (pv 0) pe_int set_list))
  (pss_cons (ps_asg pe_int (pg_sub (pv 0) pe_int set_list))
  (pss_one (ps_ret pe_non)))) pss_nil)
  (pss_cons (ps_set (i := 1) sc_law_next.nd rfl (Or.inl rfl) (pe_callTy n_int (by rfl) T.b_int (by decide +kernel) (pa_cons (pe_ix (ix_listK (K := K) rfl) (pe_ix (ix_listK (K := K) rfl) (pv 0) pe_int (fun _ _ => rfl)) (pe_ix (ix_listK (K := K) rfl) (pv 0) pe_int (fun _ _ => rfl)) (fun _ _ => rfl)) pa_nil)))
  (pss_cons (ps_asg (pe_op op_add (pe_ix (ix_listK (K := K) rfl) (pv 0) pe_int (fun _ _ => rfl)) pe_int) (pg_sub (pv 0) pe_int set_list))
  (pss_cons (ps_if (pt_cmpR op_ge (pv 1) (pe_op op_pow pe_int pe_int) (nomark _)) (pss_one (ps_asg (pv 1) (pg_sub (pv 0) pe_int set_list))) (pss_cons (ps_asg (pe_op op_mod (pv 1) pe_int) (pg_sub (pv 0) pe_int set_list))
  (pss_one (ps_asg pe_int (pg_sub (pv 0) pe_int set_list)))))
  (pss_one (ps_ret pe_non)))))), ?_⟩
    walk_at "my sts"
    refine i_ite (fun hb => ?_) fun hb => ?_
    · walk_at "my sts"
      exact k _ ⟨q, ns, i1, n2, i3, _, _, i6, upd_same, by rw [upd_ne nq, upd_ne nq]; exact hq, nq, h0⟩ (Fr.set (Fr.set Fr.refl hs) upd_same)
    · have hb := of_decide_eq_false hb
      have hj : i1.toNat < ns.length := by
        rw [List.length_map] at hb
        omega
      have hi : atI (ns.map V.int) i1 = some (V.int ns[i1.toNat]) := at_of (j := i1.toNat) (by omega) (by rw [List.getElem?_map, List.getElem?_eq_getElem hj]; rfl)
      walk_at "my sts"
      refine i_ixL (sqL hq) hi ?_
      walk_at "my sts"
      refine i_ite (fun hc => ?_) fun hc => ?_
      · walk_at "my sts"
        exact k _ ⟨q, ns, i1 + 1, _, i3, _, _, i6, upd_same, by rw [upd_ne nq, upd_ne nq]; exact hq, nq, by omega⟩ (Fr.set (Fr.set Fr.refl hs) upd_same)
      · walk_at "my sts"
        exact k _ ⟨q, ns, i1 + 1, _, i3, _, _, i6, upd_same, by rw [upd_ne nq, upd_ne nq, upd_ne nq]; exact hq, nq, by omega⟩ (Fr.set (Fr.set (Fr.set Fr.refl hs) upd_same) upd_same)
def sp_law_raw (K : PySem.W.Frag) : Sp := fun vs H Q _ => ∃ s, vs = [.ref s] ∧ StOk H s ∧ ∀ n H', 0 ≤ n → n < 1000003 → StOk H' s → Fr s H H' → Q (.int n) H'
theorem ok_law_raw {f : Addr} {fd : FuncData}
    (T : Txt K mg) (D : Dn K mg "_law_raw" s_law_raw p_law_raw f fd) : FnOk P w K mg base CX0 1 f fd p_law_raw (sp_law_raw K) := by
  refine D.F.ok sc_law_raw (fun vs H Q E h => ?_) (fun cdv A outer s' H vs Q E hr h => ?_)
  · obtain ⟨s, rfl, _⟩ := h
    rfl
  · obtain ⟨s, rfl, hst, k⟩ := h
    obtain ⟨q, ns, i1, n2, i3, i4, i5, i6, hs, hq, nq, h0⟩ := hst
    refine ⟨_, (pss_cons (ps_asg (pe_op op_add (pe_ix (ix_listK (K := K) rfl) (pv 0) pe_int (fun _ _ => rfl)) pe_int) (pg_sub (pv 0) pe_int set_list))
  (pss_cons (ps_set (i := 1) sc_law_raw.nd rfl (Or.inl rfl) (pe_op op_mod (pe_callTy n_int (by rfl) T.b_int (by decide +kernel) (pa_cons (pe_op op_add (pe_op op_add (pe_op op_mul (pe_ix (ix_listK (K := K) rfl) (pv 0) pe_int (fun _ _ => rfl)) pe_int) (pe_op op_mul (pe_ix (ix_listK (K := K) rfl) (pv 0) pe_int (fun _ _ => rfl)) pe_int)) pe_int) pa_nil)) pe_int))
  (pss_cons (ps_set (i := 2) sc_law_raw.nd rfl (Or.inl rfl) (pe_op op_mod (pe_callTy n_int (by rfl) T.b_int (by decide +kernel) (pa_cons (pe_op op_add (pe_op op_mul (pv 1) (pv 1)) (pe_ix (ix_listK (K := K) rfl) (pv 0) pe_int (fun _ _ => rfl))) pa_nil)) pe_int))
  (pss_one (ps_ret (pe_op op_mod (pe_callTy n_int (by rfl) T.b_int (by decide +kernel) (pa_cons (pe_op op_add (pe_op op_mul (pv 2) (pv 2)) (pv 1)) pa_nil)) pe_int)))))), ?_⟩
    walk_at "my sts"
    exact k _ _ (Int.emod_nonneg _ (by decide)) (Int.emod_lt_of_pos _ (by decide)) ⟨q, ns, i1, n2, _, _, _, _, upd_same, by rw [upd_ne nq]; exact hq, nq, h0⟩ (Fr.set Fr.refl hs)
def sp_law_take (K : PySem.W.Frag) : Sp := fun vs H Q _ => ∃ (s : Addr) (many : Int), vs = [.ref s, .int many] ∧ StOk H s ∧ many < 10 ^ 70 ∧ ∀ n H', 0 ≤ n → (n < many ∨ n = 0) → StOk H' s → Fr s H H' → Q (.int n) H'
theorem ok_law_take {f : Addr} {fd : FuncData}
    {f_law_next : Addr} {fd_law_next : FuncData} (D_law_next : Dn K mg "_law_next" s_law_next p_law_next f_law_next fd_law_next) (G_law_next : FnOk P w K mg base CX0 1 f_law_next fd_law_next p_law_next (sp_law_next K))
    {f_law_raw : Addr} {fd_law_raw : FuncData} (D_law_raw : Dn K mg "_law_raw" s_law_raw p_law_raw f_law_raw fd_law_raw) (G_law_raw : FnOk P w K mg base CX0 1 f_law_raw fd_law_raw p_law_raw (sp_law_raw K))
    (T : Txt K mg) (D : Dn K mg "_law_take" s_law_take p_law_take f fd) : FnOk P w K mg base CX0 2 f fd p_law_take (sp_law_take K) := by
  refine D.F.ok sc_law_take (fun vs H Q E h => ?_) (fun cdv A outer s' H vs Q E hr h => ?_)
  · obtain ⟨s, many, rfl, _⟩ := h
    rfl
  · obtain ⟨s, many, rfl, hst, hm, k⟩ := h
    refine ⟨_, (pss_cons (ps_if (pt_cmpR op_le (pv 1) pe_int (nomark _)) (pss_one (ps_ret pe_int)) pss_nil)
  (Evl.pss_cut (ps_if (PW.pt (pw_and (pt_cmpR op_eq (pe_ix (ix_listK (K := K) rfl) (pv 0) pe_int (fun _ _ => rfl)) pe_int (nomark _)) (pw_and1 (pt_cmpR op_eq (pe_ix (ix_listK (K := K) rfl) (pv 0) pe_int (fun _ _ => rfl)) pe_int (nomark _))))) (pss_one (ps_expr (pe_call G_law_next (hr.mono (by omega)) (by rfl) D_law_next.m D_law_next.F.kp D_law_next.b .nil pass0 (pa_cons (pv 0) pa_nil)))) pss_nil)
  (pss_cons (ps_if (pt_cmpR op_gt (pe_ix (ix_listK (K := K) rfl) (pv 0) pe_int (fun _ _ => rfl)) pe_int (nomark _)) (pss_cons (ps_set (i := 2) sc_law_take.nd rfl (Or.inl rfl) (pe_op op_mod (pe_callTy n_int (by rfl) T.b_int (by decide +kernel) (pa_cons (pe_ix (ix_listK (K := K) rfl) (pv 0) pe_int (fun _ _ => rfl)) pa_nil)) (pv 1)))
  (pss_cons (ps_asg (pe_op op_fdivW (pe_callTy n_int (by rfl) T.b_int (by decide +kernel) (pa_cons (pe_ix (ix_listK (K := K) rfl) (pv 0) pe_int (fun _ _ => rfl)) pa_nil)) (pv 1)) (pg_sub (pv 0) pe_int set_list))
  (pss_one (ps_ret (pv 2))))) pss_nil)
  (pss_cons (ps_asg (pe_op op_sub (pe_ix (ix_listK (K := K) rfl) (pv 0) pe_int (fun _ _ => rfl)) pe_int) (pg_sub (pv 0) pe_int set_list))
  (pss_cons (ps_set (i := 2) sc_law_take.nd rfl (Or.inl rfl) pe_int)
  (pss_cons (ps_set (i := 3) sc_law_take.nd rfl (Or.inl rfl) pe_int)
  (pss_cons (ps_for PassesOwn.never rfl (pi_range1 (by rfl) T.b_range (pa_cons pe_int pa_nil)) (pg_name (i := 4) sc_law_take.nd rfl (Or.inl rfl))
   (pss_cons (ps_if (pt_cmpR op_ge (pv 3) (pe_op op_mul (pv 1) pe_int) (nomark _)) (pss_one ps_break) pss_nil)
  (pss_cons (ps_set (i := 2) sc_law_take.nd rfl (Or.inl rfl) (pe_op op_add (pe_op op_mul (pv 2) pe_int) (pe_call G_law_raw (hr.mono (by omega)) (by rfl) D_law_raw.m D_law_raw.F.kp D_law_raw.b .nil pass0 (pa_cons (pv 0) pa_nil))))
  (pss_one (ps_set (i := 3) sc_law_take.nd rfl (Or.inl rfl) (pe_op op_mul (pv 3) pe_int))))))
  (pss_one (ps_ret (pe_op op_mod (pe_callTy n_int (by rfl) T.b_int (by decide +kernel) (pa_cons (pv 2) pa_nil)) (pv 1))))))))))), ?_⟩
    walk_at "my sts"
    refine i_ite (fun hb => ?_) fun hb => ?_
    · walk_at "my sts"
      exact k _ _ (Int.le_refl _) (.inr rfl) hst Fr.refl
    · have hb := of_decide_eq_false hb
      walk_at "my sts"
      refine i_cut (fun σ' H' => σ' = L2.start n_law_take [.ref s, .int many] ∧ StOk H' s ∧ Fr s H H') ?_ ?_
      · obtain ⟨q, ns, i1, n2, i3, i4, i5, i6, hs, hq, nq, h0⟩ := id hst
        have next : ∀ (nx : L2.St → Hp → Prop), nx = (fun σ' H' => σ' = L2.start n_law_take [.ref s, .int many] ∧ StOk H' s ∧ Fr s H H') → nx (L2.start n_law_take [.ref s, .int many]) H := fun nx e => by
          rw [e]
          exact ⟨rfl, hst, Fr.refl⟩
        walk_at "my sts"
        refine i_ite (fun _ => ?_) fun _ => ?_
        · walk_at "my sts"
          refine i_ite (fun _ => ?_) fun _ => ?_
          · walk_at "my sts"
            exact ⟨s, rfl, hst, fun H' h1 h2 => ⟨rfl, h1, h2⟩⟩
          · walk_at "my sts"
            exact ⟨rfl, hst, Fr.refl⟩
        · walk_at "my sts"
          exact ⟨rfl, hst, Fr.refl⟩
      · rintro σ' H' ⟨rfl, hst', hf⟩
        obtain ⟨q, ns, i1, n2, i3, i4, i5, i6, hs, hq, nq, h0⟩ := id hst'
        walk_at "my sts"
        refine i_ite (fun h2 => ?_) fun h2 => ?_
        · have hW : CDivW n2 many := wide_div (b := 250) (by omega) (by omega) (by decide) (by decide)
          have h2 := of_decide_eq_true h2
          walk_at "my sts"
          exact k _ _ (Int.emod_nonneg _ (by omega)) (.inl (Int.emod_lt_of_pos _ (by omega))) ⟨q, ns, i1, _, _, _, _, _, upd_same, by rw [upd_ne nq]; exact hq, nq, h0⟩ (Fr.set hf hs)
        · walk_at "my sts"
          refine fr1 (by decide) (by decide) (fun i σ2 H2 => ∃ (number size : Int) (kk : Option V), σ2 = [some (.ref s), some (.int many), some (.int number), some (.int size), kk] ∧ StOk H2 s ∧ Fr s H H2) ⟨0, 1, none, rfl, ⟨q, ns, i1, _, _, _, _, _, upd_same, by rw [upd_ne nq]; exact hq, nq, h0⟩, Fr.set hf hs⟩ ?_ ?_
          · rintro i σ2 H2 _ ⟨number, size, kk, rfl, hst2, hf2⟩
            walk_at "my sts"
            refine i_ite (fun _ => ?_) fun _ => ?_
            · walk_at "my sts"
              exact k _ _ (Int.emod_nonneg _ (by omega)) (.inl (Int.emod_lt_of_pos _ (by omega))) hst2 hf2
            · walk_at "my sts"
              refine ⟨s, rfl, hst2, fun n H3 _ _ hst3 hf3 => ?_⟩
              walk_at "my sts"
              exact ⟨_, _, _, rfl, hst3, hf2.trans hf3⟩
          · rintro σ2 H2 ⟨number, size, kk, rfl, hst2, hf2⟩
            walk_at "my sts"
            exact k _ _ (Int.emod_nonneg _ (by omega)) (.inl (Int.emod_lt_of_pos _ (by omega))) hst2 hf2
def sp_law_pick (K : PySem.W.Frag) : Sp := fun vs H Q _ => ∃ (s : Addr) (x : V), vs = [.ref s, x] ∧ StOk H s ∧
  ((∃ (p : Addr) (xs : List V), x = .ref p ∧ H p = some (.lst xs) ∧ p ≠ s ∧ 0 < xs.length ∧ xs.length < 10 ^ 9 ∧ ∀ v H', v ∈ xs → StOk H' s → Fr s H H' → Q v H') ∨
  (∃ z : Str, x = .str z ∧ 0 < z.length ∧ z.length ≤ 1000 ∧ ∀ c H', c ∈ z.cps.toList → StOk H' s → Fr s H H' → Q (.str ⟨#[c]⟩) H') ∨
  ∃ (p : Addr) (xs : List V), x = .ref p ∧ Lt2 H p xs ∧ p ≠ s ∧ 0 < xs.length ∧ xs.length < 10 ^ 9 ∧ ∀ v H', v ∈ xs → StOk H' s → Fr s H H' → Q v H')
theorem ok_law_pick {f : Addr} {fd : FuncData}
    {f_law_take : Addr} {fd_law_take : FuncData} (D_law_take : Dn K mg "_law_take" s_law_take p_law_take f_law_take fd_law_take) (G_law_take : FnOk P w K mg base CX0 2 f_law_take fd_law_take p_law_take (sp_law_take K))
    (T : Txt K mg) (D : Dn K mg "_law_pick" s_law_pick p_law_pick f fd) : FnOk P w K mg base CX0 3 f fd p_law_pick (sp_law_pick K) := by
  refine D.F.ok sc_law_pick (fun vs H Q E h => ?_) (fun cdv A outer s' H vs Q E hr h => ?_)
  · obtain ⟨s, x, rfl, _⟩ := h
    rfl
  · obtain ⟨s, x, rfl, hst, k⟩ := h
    refine ⟨_, (pss_one (ps_ret (pe_ix (ix_seqK (K := K) rfl) (pv 1) (pe_call G_law_take (hr.mono (by omega)) (by rfl) D_law_take.m D_law_take.F.kp D_law_take.b .nil pass0 (pa_cons (pv 0) (pa_cons (pe_callB (n_lenVK (K := K) rfl) (by rfl) T.b_len (by decide +kernel) (pa_cons (pv 1) pa_nil)) pa_nil))) (fun _ _ => rfl)))), ?_⟩
    rcases k with ⟨p, xs, rfl, hp, np, h0, hl, k⟩ | ⟨z, rfl, h0, hl, k⟩ | ⟨p, xs, rfl, hp, np, h0, hl, k⟩
    · walk_at "my sts"
      refine ⟨s, _, rfl, hst, by omega, fun n H1 n0 n1 hst1 hf1 => ?_⟩
      have hn : n.toNat < xs.length := by omega
      refine i_ixAL (sqL (hf1.1 _ _ hp np)) (at_of (j := n.toNat) (by omega) (List.getElem?_eq_getElem hn)) ?_
      exact k _ _ (List.getElem_mem hn) hst1 hf1
    · walk_at "my sts"
      refine ⟨s, _, rfl, hst, by omega, fun n H1 n0 n1 hst1 hf1 => ?_⟩
      obtain ⟨c, hc, hm⟩ := at_str (z := z) (i := n) n0 (by omega)
      refine i_ixAS (Nat.le_trans hl (by decide)) hc ?_
      exact k _ _ hm hst1 hf1
    · walk_at "my sts"
      refine i_lenVLt hp ?_
      walk_at "my sts"
      refine ⟨s, _, rfl, hst, by omega, fun n H1 n0 n1 hst1 hf1 => ?_⟩
      have hn : n.toNat < xs.length := by omega
      have ha : atI xs n = some xs[n.toNat] := at_of (j := n.toNat) (by omega) (List.getElem?_eq_getElem hn)
      rcases hp.fr np hf1 with h | h
      · refine i_ixAL (sqL h) ha ?_
        exact k _ _ (List.getElem_mem hn) hst1 hf1
      · refine i_ixAT (sqT h) ha ?_
        exact k _ _ (List.getElem_mem hn) hst1 hf1
def sp_law_some (K : PySem.W.Frag) : Sp := fun vs H Q _ => ∃ (s : Addr) (low high : Int), vs = [.ref s, .int low, .int high] ∧ StOk H s ∧ high - low < 10 ^ 69 ∧ ∀ n H', low ≤ n → (n ≤ high ∨ n = low) → StOk H' s → Fr s H H' → Q (.int n) H'
theorem ok_law_some {f : Addr} {fd : FuncData}
    {f_law_take : Addr} {fd_law_take : FuncData} (D_law_take : Dn K mg "_law_take" s_law_take p_law_take f_law_take fd_law_take) (G_law_take : FnOk P w K mg base CX0 2 f_law_take fd_law_take p_law_take (sp_law_take K))
    (T : Txt K mg) (D : Dn K mg "_law_some" s_law_some p_law_some f fd) : FnOk P w K mg base CX0 3 f fd p_law_some (sp_law_some K) := by
  refine D.F.ok sc_law_some (fun vs H Q E h => ?_) (fun cdv A outer s' H vs Q E hr h => ?_)
  · obtain ⟨s, low, high, rfl, _⟩ := h
    rfl
  · obtain ⟨s, low, high, rfl, hst, hm, k⟩ := h
    refine ⟨_, (pss_cons (ps_if (pt_cmpR op_le (pv 2) (pv 1) (nomark _)) (pss_one (ps_ret (pv 1))) pss_nil)
  (pss_cons (ps_set (i := 3) sc_law_some.nd rfl (Or.inl rfl) (pe_call G_law_take (hr.mono (by omega)) (by rfl) D_law_take.m D_law_take.F.kp D_law_take.b .nil pass0 (pa_cons (pv 0) (pa_cons pe_int pa_nil))))
  (pss_cons (ps_if (pt_cmpR op_eq (pv 3) pe_int (nomark _)) (pss_one (ps_ret (pv 1))) pss_nil)
  (pss_cons (ps_if (pt_cmpR op_eq (pv 3) pe_int (nomark _)) (pss_one (ps_ret (pv 2))) pss_nil)
  (pss_one (ps_ret (pe_op op_add (pv 1) (pe_call G_law_take (hr.mono (by omega)) (by rfl) D_law_take.m D_law_take.F.kp D_law_take.b .nil pass0 (pa_cons (pv 0) (pa_cons (pe_op op_add (pe_op op_sub (pv 2) (pv 1)) pe_int) pa_nil)))))))))), ?_⟩
    walk_at "my sts"
    refine i_ite (fun hb => ?_) fun hb => ?_
    · walk_at "my sts"
      exact k _ _ (Int.le_refl _) (.inr rfl) hst Fr.refl
    · have hb := of_decide_eq_false hb
      walk_at "my sts"
      refine ⟨s, 6, rfl, hst, by decide, fun n H1 n0 n6 hst1 hf1 => ?_⟩
      walk_at "my sts"
      refine i_ite (fun _ => ?_) fun _ => ?_
      · walk_at "my sts"
        exact k _ _ (Int.le_refl _) (.inr rfl) hst1 hf1
      · walk_at "my sts"
        refine i_ite (fun _ => ?_) fun _ => ?_
        · walk_at "my sts"
          exact k _ _ (by omega) (.inl (Int.le_refl _)) hst1 hf1
        · walk_at "my sts"
          refine ⟨s, _, rfl, hst1, by omega, fun n2 H2 m0 m1 hst2 hf2 => ?_⟩
          walk_at "my sts"
          exact k _ _ (by omega) (by omega) hst2 (hf1.trans hf2)
def sp_law_name (K : PySem.W.Frag) : Sp := fun vs H Q _ => ∃ (s : Addr), vs = [.ref s] ∧ StOk H s ∧ ∀ (z : Str) H', nameB z = true → StOk H' s → Fr s H H' → Q (.str z) H'
theorem ok_law_name {f : Addr} {fd : FuncData}
    {f_law_take : Addr} {fd_law_take : FuncData} (D_law_take : Dn K mg "_law_take" s_law_take p_law_take f_law_take fd_law_take) (G_law_take : FnOk P w K mg base CX0 2 f_law_take fd_law_take p_law_take (sp_law_take K))
    {f_law_pick : Addr} {fd_law_pick : FuncData} (D_law_pick : Dn K mg "_law_pick" s_law_pick p_law_pick f_law_pick fd_law_pick) (G_law_pick : FnOk P w K mg base CX0 3 f_law_pick fd_law_pick p_law_pick (sp_law_pick K))
    {f_law_some : Addr} {fd_law_some : FuncData} (D_law_some : Dn K mg "_law_some" s_law_some p_law_some f_law_some fd_law_some) (G_law_some : FnOk P w K mg base CX0 3 f_law_some fd_law_some p_law_some (sp_law_some K))
    (T : Txt K mg) (D : Dn K mg "_law_name" s_law_name p_law_name f fd) : FnOk P w K mg base CX0 4 f fd p_law_name (sp_law_name K) := by
  refine D.F.ok sc_law_name (fun vs H Q E h => ?_) (fun cdv A outer s' H vs Q E hr h => ?_)
  · obtain ⟨s, rfl, _⟩ := h
    rfl
  · obtain ⟨s, rfl, hst, k⟩ := h
    refine ⟨_, (pss_cons (ps_set (i := 1) sc_law_name.nd rfl (Or.inl rfl) (pe_lst (pa_cons pe_str (pa_cons pe_str (pa_cons pe_str (pa_cons pe_str (pa_cons pe_str (pa_cons pe_str (pa_cons pe_str (pa_cons pe_str (pa_cons pe_str (pa_cons pe_str (pa_cons pe_str (pa_cons pe_str (pa_cons pe_str pa_nil)))))))))))))))
  (pss_cons (ps_set (i := 1) sc_law_name.nd rfl (Or.inl rfl) (pe_op op_cat (pv 1) (pe_lst (pa_cons pe_str (pa_cons pe_str (pa_cons pe_str (pa_cons pe_str (pa_cons pe_str (pa_cons pe_str (pa_cons pe_str (pa_cons pe_str (pa_cons pe_str (pa_cons pe_str (pa_cons pe_str pa_nil))))))))))))))
  (pss_cons (ps_set (i := 1) sc_law_name.nd rfl (Or.inl rfl) (pe_op op_cat (pv 1) (pe_lst (pa_cons pe_str (pa_cons pe_str (pa_cons pe_str (pa_cons pe_str (pa_cons pe_str (pa_cons pe_str (pa_cons pe_str (pa_cons pe_str (pa_cons pe_str (pa_cons pe_str (pa_cons pe_str (pa_cons pe_str pa_nil)))))))))))))))
  (pss_cons (ps_if (pt_cmpR op_eq (pe_call G_law_take (hr.mono (by omega)) (by rfl) D_law_take.m D_law_take.F.kp D_law_take.b .nil pass0 (pa_cons (pv 0) (pa_cons pe_int pa_nil))) pe_int (nomark _)) (pss_one (ps_ret (pe_call G_law_pick (hr.mono (by omega)) (by rfl) D_law_pick.m D_law_pick.F.kp D_law_pick.b .nil pass0 (pa_cons (pv 0) (pa_cons (pv 1) pa_nil))))) pss_nil)
  (pss_cons (ps_set (i := 2) sc_law_name.nd rfl (Or.inl rfl) pe_str)
  (pss_cons (ps_set (i := 3) sc_law_name.nd rfl (Or.inl rfl) (pe_ix ix_str (pv 2) (pe_call G_law_take (hr.mono (by omega)) (by rfl) D_law_take.m D_law_take.F.kp D_law_take.b .nil pass0 (pa_cons (pv 0) (pa_cons pe_int pa_nil))) (fun _ _ => rfl)))
  (pss_cons (ps_for PassesOwn.never rfl (pi_range1 (by rfl) T.b_range (pa_cons (pe_op op_sub (pe_call G_law_some (hr.mono (by omega)) (by rfl) D_law_some.m D_law_some.F.kp D_law_some.b .nil pass0 (pa_cons (pv 0) (pa_cons pe_int (pa_cons pe_int pa_nil)))) pe_int) pa_nil)) (pg_name (i := 4) sc_law_name.nd rfl (Or.inl rfl))
   (pss_one (ps_set (i := 3) sc_law_name.nd rfl (Or.inl rfl) (pe_op n_addZ (pv 3) (pe_ix ix_str (pv 2) (pe_call G_law_take (hr.mono (by omega)) (by rfl) D_law_take.m D_law_take.F.kp D_law_take.b .nil pass0 (pa_cons (pv 0) (pa_cons pe_int pa_nil))) (fun _ _ => rfl))))))
  (pss_one (ps_ret (pv 3)))))))))), ?_⟩
    walk_at "my sts"
    refine lst_p (fun ys => ys.all okName = true ∧ ys.length = 13) ⟨by decide +kernel, by decide⟩ (by decide) fun p1 y1 H1 hp1 s1 h1 r1 => ?_
    obtain ⟨r1, l1⟩ := r1
    walk_at "my sts"
    refine lst_p (fun ys => ys.all okName = true ∧ ys.length = 11) ⟨by decide +kernel, by decide⟩ (by decide) fun p2 y2 H2 hp2 s2 h2 r2 => ?_
    obtain ⟨r2, l2⟩ := r2
    walk_at "my sts"
    refine cat_end (s2 _ _ h1) h2 (by omega) fun p3 H3 hp3 s3 h3 => ?_
    walk_at "my sts"
    refine lst_p (fun ys => ys.all okName = true ∧ ys.length = 12) ⟨by decide +kernel, by decide⟩ (by decide) fun p4 y4 H4 hp4 s4 h4 r4 => ?_
    obtain ⟨r4, l4⟩ := r4
    walk_at "my sts"
    refine cat_end (s4 _ _ h3) h4 (by rw [List.length_append]; omega) fun p5 H5 hp5 s5 h5 => ?_
    have r5 : ∀ v ∈ (y1 ++ y2) ++ y4, ∃ z : Str, v = .str z ∧ nameB z = true := fun v hv => okName_of (by
      have all : ((y1 ++ y2) ++ y4).all okName = true := by rw [List.all_append, List.all_append, r1, r2, r4]; rfl
      exact List.all_eq_true.mp all v hv)
    have l5 : ((y1 ++ y2) ++ y4).length = 36 := by
      rw [List.length_append, List.length_append]
      omega
    have s05 : Same H H5 := s1.trans (s2.trans (s3.trans (s4.trans s5)))
    have hst5 := hst.same s05
    have f5 : Fr s H H5 := Fr.same s05
    have n5 : p5 ≠ s := by
      obtain ⟨o, e⟩ := (hst.same (s1.trans (s2.trans (s3.trans s4)))).some
      exact ne_none e hp5
    walk_at "my sts"
    refine ⟨s, _, rfl, hst5, by decide, fun n H6 n0 n1 hst6 f6 => ?_⟩
    walk_at "my sts"
    refine i_ite (fun _ => ?_) fun _ => ?_
    · walk_at "my sts"
      refine ⟨s, _, rfl, hst6, .inl ⟨p5, _, rfl, f6.1 _ _ h5 n5, n5, by omega, by omega, fun v H7 hv hst7 f7 => ?_⟩⟩
      obtain ⟨z, rfl, z1⟩ := r5 v hv
      exact k z H7 z1 hst7 (f5.trans (f6.trans f7))
    · have ls : ("abcdefghijklmnopqrstuvwxyz0123456789" : Str).length ≤ sizeLine := by decide +kernel
      walk_at "my sts"
      refine ⟨s, _, rfl, hst6, by decide, fun n2 H7 m0 m1 hst7 f7 => ?_⟩
      obtain ⟨c, hc, _, hz⟩ := at_az9 (i := n2) m0 (by omega)
      refine i_ixS ls hc ?_
      walk_at "my sts"
      refine ⟨s, 1, 8, rfl, hst7, by decide, fun n3 H8 b0 b1 hst8 f8 => ?_⟩
      walk_at "my sts"
      refine fr1 (by omega) (by omega) (fun i σ' H' => ∃ (z : Str) (v : Option V), σ' = [some (.ref s), some (.ref p5), some (.str "abcdefghijklmnopqrstuvwxyz0123456789"), some (.str z), v] ∧ (cz z).length = i + 1 ∧ NameL (cz z) ∧ StOk H' s ∧ Fr s H H') ⟨_, none, rfl, rfl, NameL.one (hz (by omega)), hst8, f5.trans (f6.trans (f7.trans f8))⟩ ?_ ?_
      · rintro i σ' H' hi ⟨z, v, rfl, hz, nz, hst9, f9⟩
        walk_at "my sts"
        refine ⟨s, _, rfl, hst9, by decide, fun n4 H10 c0 c1 hst10 f10 => ?_⟩
        obtain ⟨c, hc, hc9, _⟩ := at_az9 (i := n4) c0 (by omega)
        refine i_ixS ls hc ?_
        have hl : z.length + (⟨#[c]⟩ : Str).length ≤ 100000 := by
          rw [← cz_len, hz, len_one]
          omega
        refine i_addZ hl ?_
        walk_at "my sts"
        refine ⟨_, _, rfl, ?_, ?_, hst10, f9.trans f10⟩
        · rw [cz_app, cz_one, List.length_append, hz]
          rfl
        · rw [cz_app, cz_one]
          exact nz.push hc9 (by omega)
      · rintro σ' H' ⟨z, v, rfl, hz, nz, hst9, f9⟩
        walk_at "my sts"
        exact k z H' (nameB_of nz) hst9 f9
/-- one of the first letters is none of fewer names -/
def letS (i : Nat) : Str := ⟨#[(AZ9[i]?).getD 0]⟩
theorem letS_inj : ∀ i : Nat, i < 26 → ∀ j : Nat, j < 26 → letS i = letS j → i = j := by decide +kernel
theorem letS_name : ∀ i : Nat, i < 26 → nameB (letS i) = true := by decide +kernel
theorem pigeon : ∀ (n : Nat) (ns : List Str), n ≤ 26 → ns.length < n → ∃ i, i < n ∧ letS i ∉ ns := by
  intro n
  induction n with
  | zero => intro ns _ h; omega
  | succ n ih =>
    intro ns h26 hl
    by_cases hm : letS n ∈ ns
    · have le := List.length_erase_of_mem hm
      have pos : 0 < ns.length := List.length_pos_of_mem hm
      obtain ⟨i, hi, hn⟩ := ih (ns.erase (letS n)) (by omega) (by omega)
      refine ⟨i, by omega, fun e => hn ((List.mem_erase_of_ne fun e2 => ?_).mpr e)⟩
      have := letS_inj i (by omega) n (by omega) e2
      omega
    · exact ⟨n, by omega, hm⟩
def sp_law_unlike (K : PySem.W.Frag) : Sp := fun vs H Q _ => ∃ (z : Str) (p : Addr) (ns : List Str), vs = [.str z, .ref p] ∧ H p = some (.lst (ns.map V.str)) ∧ ns.length ≤ 20 ∧ z.length ≤ 1000 ∧
  ∀ (y : Str) H', y ∉ ns → (nameB z = true → nameB y = true) → y.length ≤ 1000 → Same H H' → Q (.str y) H'
theorem ok_law_unlike {f : Addr} {fd : FuncData}
    (T : Txt K mg) (D : Dn K mg "_law_unlike" s_law_unlike p_law_unlike f fd) : FnOk P w K mg base CX0 1 f fd p_law_unlike (sp_law_unlike K) := by
  refine D.F.ok sc_law_unlike (fun vs H Q E h => ?_) (fun cdv A outer s' H vs Q E hr h => ?_)
  · obtain ⟨z, p, ns, rfl, _⟩ := h
    rfl
  · obtain ⟨z, p, ns, rfl, hp, hl, hz, k⟩ := h
    refine ⟨_, (pss_cons (ps_if (pt_cmpR (op_notIn_seqK (K := K) rfl) (pv 0) (pv 1) (by rfl)) (pss_one (ps_ret (pv 0))) pss_nil)
  (pss_cons (ps_for PassesOwn.never rfl (pi_range1 (by rfl) T.b_range (pa_cons (pe_op op_add (pe_callB (n_lenQK (K := K) rfl) (by rfl) T.b_len (by decide +kernel) (pa_cons (pv 1) pa_nil)) pe_int) pa_nil)) (pg_name (i := 2) sc_law_unlike.nd rfl (Or.inl rfl))
   (pss_cons (ps_set (i := 3) sc_law_unlike.nd rfl (Or.inl rfl) (pe_ix ix_str pe_str (pe_op op_mod (pv 2) pe_int) (fun _ _ => rfl)))
  (Evl.pss_cut (ps_if (pt_cmpR op_ge (pv 2) pe_int (nomark _)) (pss_one (ps_set (i := 3) sc_law_unlike.nd rfl (Or.inl rfl) (pe_op n_addZ (pv 3) (pe_callTy call_str_int (by rfl) T.b_str (by decide +kernel) (pa_cons (pe_op op_fdivW (pv 2) pe_int) pa_nil))))) pss_nil)
  (pss_one (ps_if (pt_cmpR (op_notIn_seqK (K := K) rfl) (pv 3) (pv 1) (by rfl)) (pss_one (ps_ret (pv 3))) pss_nil)))))
  (pss_one (ps_ret (pv 0))))), ?_⟩
    walk_at "my sts"
    refine i_notInStr (sqL hp) ?_
    walk_at "my sts"
    refine i_ite (fun h1 => ?_) fun h1 => ?_
    · have h1 := of_decide_eq_false (nbT h1)
      walk_at "my sts"
      exact k z H h1 (fun e => e) hz (Same.refl _)
    have h1 := of_decide_eq_true (nbF h1)
    walk_at "my sts"
    rw [List.length_map]
    refine fr1 (by omega) (by omega) (fun i σ' H' => H' = H ∧ (∀ j, j < i → letS j ∈ ns) ∧ ∃ v w, σ' = [some (.str z), some (.ref p), v, w]) ⟨rfl, fun j hj => absurd hj (Nat.not_lt_zero _), none, none, rfl⟩ ?_ ?_
    · rintro i σ' H' hi ⟨rfl, all, v, w, rfl⟩
      have hi20 : i ≤ 20 := by omega
      have e26 : ((i : Int) % 26) = (i : Int) := by omega
      have hc : atI ("abcdefghijklmnopqrstuvwxyz" : Str).cps.toList (i : Int) = some ((AZ9[i]?).getD 0) := by
        have key : ∀ n : Nat, n < 26 → ("abcdefghijklmnopqrstuvwxyz" : Str).cps.toList[n]? = some ((AZ9[n]?).getD 0) := by decide +kernel
        exact atI_nat (key i (by omega))
      have ls : ("abcdefghijklmnopqrstuvwxyz" : Str).length ≤ sizeLine := by decide +kernel
      walk_at "my sts"
      rw [e26]
      refine i_ixS ls hc ?_
      walk_at "my sts"
      refine i_cut (fun σ' H2 => H2 = H' ∧ σ' = [some (.str z), some (.ref p), some (.int (i : Int)), some (.str (letS i))]) ?_ ?_
      · walk_at "my sts"
        refine i_ite (fun h26 => ?_) fun _ => ?_
        · have := of_decide_eq_true h26
          omega
        · walk_at "my sts"
          exact ⟨rfl, rfl⟩
      rintro σ2 H2 ⟨rfl, rfl⟩
      walk_at "my sts"
      refine i_notInStr (sqL hp) ?_
      walk_at "my sts"
      refine i_ite (fun h2 => ?_) fun h2 => ?_
      · have h2 := of_decide_eq_false (nbT h2)
        walk_at "my sts"
        exact k _ _ h2 (fun _ => letS_name i (by omega)) (by show 1 ≤ 1000; decide) (Same.refl _)
      · have h2 := of_decide_eq_true (nbF h2)
        walk_at "my sts"
        refine ⟨rfl, fun j hj => ?_, _, _, rfl⟩
        by_cases e : j = i
        · rw [e]
          exact h2
        · exact all j (by omega)
    · rintro σ' H' ⟨rfl, all, v, w, rfl⟩
      obtain ⟨i, hi, hn⟩ := pigeon (ns.length + 1) ns (by omega) (by omega)
      exact absurd (all i (by omega)) hn
def sAz9 : Str := "abcdefghijklmnopqrstuvwxyz0123456789"
def NmM (H : Hp) (s o : Addr) (many form start place : Int) (stem : Str) (kk : Int) (acc : List V) : L2.St → Hp → Prop := fun σ' H2 => ∃ z : Str, σ' = [some (.ref s), some (.int many), some (.str sAz9), some (.int form), some (.int start), some (.str stem), some (.int place), some (.ref o), some (.int kk), some (.str z)] ∧ NameL (cz z) ∧ StOk H2 s ∧ Fr s H H2 ∧ H2 o = some (.lst acc)
theorem b7_sub : ∀ c ∈ cz ("b7x0qa1z" : Str), c ∈ AZ9 := by decide +kernel
def sp_law_names (K : PySem.W.Frag) : Sp := fun vs H Q _ => ∃ (s : Addr) (many : Int), vs = [.ref s, .int many] ∧ StOk H s ∧ 0 ≤ many ∧ many ≤ 20 ∧
  ∀ p (ns : List Str) H', H p = none → H' p = some (.lst (ns.map V.str)) → (ns.length : Int) = many → ns.Nodup → (∀ n ∈ ns, nameB n = true) → StOk H' s → Fr s H H' → Q (.ref p) H'
theorem ok_law_names {f : Addr} {fd : FuncData}
    {f_law_take : Addr} {fd_law_take : FuncData} (D_law_take : Dn K mg "_law_take" s_law_take p_law_take f_law_take fd_law_take) (G_law_take : FnOk P w K mg base CX0 2 f_law_take fd_law_take p_law_take (sp_law_take K))
    {f_law_name : Addr} {fd_law_name : FuncData} (D_law_name : Dn K mg "_law_name" s_law_name p_law_name f_law_name fd_law_name) (G_law_name : FnOk P w K mg base CX0 4 f_law_name fd_law_name p_law_name (sp_law_name K))
    {f_law_unlike : Addr} {fd_law_unlike : FuncData} (D_law_unlike : Dn K mg "_law_unlike" s_law_unlike p_law_unlike f_law_unlike fd_law_unlike) (G_law_unlike : FnOk P w K mg base CX0 1 f_law_unlike fd_law_unlike p_law_unlike (sp_law_unlike K))
    (T : Txt K mg) (D : Dn K mg "_law_names" s_law_names p_law_names f fd) : FnOk P w K mg base CX0 5 f fd p_law_names (sp_law_names K) := by
  refine D.F.ok sc_law_names (fun vs H Q E h => ?_) (fun cdv A outer s' H vs Q E hr h => ?_)
  · obtain ⟨s, many, rfl, _⟩ := h
    rfl
  · obtain ⟨s, many, rfl, hst, m0, m20, k⟩ := h
    refine ⟨_, (pss_cons (ps_set (i := 2) sc_law_names.nd rfl (Or.inl rfl) pe_str)
  (pss_cons (ps_set (i := 3) sc_law_names.nd rfl (Or.inl rfl) (pe_call G_law_take (hr.mono (by omega)) (by rfl) D_law_take.m D_law_take.F.kp D_law_take.b .nil pass0 (pa_cons (pv 0) (pa_cons pe_int pa_nil))))
  (pss_cons (ps_set (i := 4) sc_law_names.nd rfl (Or.inl rfl) (pe_call G_law_take (hr.mono (by omega)) (by rfl) D_law_take.m D_law_take.F.kp D_law_take.b .nil pass0 (pa_cons (pv 0) (pa_cons pe_int pa_nil))))
  (pss_cons (ps_set (i := 5) sc_law_names.nd rfl (Or.inl rfl) pe_str)
  (pss_cons (ps_set (i := 6) sc_law_names.nd rfl (Or.inl rfl) pe_int)
  (Evl.pss_cut (ps_if (PW.pt (pw_or (pt_cmpR op_eq (pv 3) pe_int (nomark _)) (pw_or1 (pt_cmpR op_eq (pv 3) pe_int (nomark _))))) (pss_cons (ps_set (i := 5) sc_law_names.nd rfl (Or.inl rfl) (pe_slice sl_str (pe_op n_addZ (pe_call G_law_name (hr.mono (by omega)) (by rfl) D_law_name.m D_law_name.F.kp D_law_name.b .nil pass0 (pa_cons (pv 0) pa_nil)) pe_str) po_none (po_some pe_int)))
  (pss_cons (ps_set (i := 6) sc_law_names.nd rfl (Or.inl rfl) (pe_call G_law_take (hr.mono (by omega)) (by rfl) D_law_take.m D_law_take.F.kp D_law_take.b .nil pass0 (pa_cons (pv 0) (pa_cons pe_int pa_nil))))
  (pss_one (ps_set (i := 5) sc_law_names.nd rfl (Or.inl rfl) (pe_slice sl_str (pv 5) po_none (po_some (pe_op op_add (pe_op op_add (pv 6) pe_int) (pe_call G_law_take (hr.mono (by omega)) (by rfl) D_law_take.m D_law_take.F.kp D_law_take.b .nil pass0 (pa_cons (pv 0) (pa_cons (pe_op op_sub pe_int (pv 6)) pa_nil)))))))))) pss_nil)
  (pss_cons (ps_set (i := 7) sc_law_names.nd rfl (Or.inl rfl) (pe_lst pa_nil))
  (pss_cons (ps_for PassesOwn.never rfl (pi_range1 (by rfl) T.b_range (pa_cons (pv 1) pa_nil)) (pg_name (i := 8) sc_law_names.nd rfl (Or.inl rfl))
   (pss_cons (ps_set (i := 9) sc_law_names.nd rfl (Or.inl rfl) (pe_ix ix_str (pv 2) (pe_op op_mod (pe_op op_add (pv 4) (pv 8)) pe_int) (fun _ _ => rfl)))
  (Evl.pss_cut (ps_if (pt_cmpR op_eq (pv 3) pe_int (nomark _)) (pss_one (ps_set (i := 9) sc_law_names.nd rfl (Or.inl rfl) (pe_ix ix_str (pv 2) (pe_op op_mod (pe_op op_add (pv 4) (pe_op op_mul pe_int (pv 8))) pe_int) (fun _ _ => rfl)))) pss_nil)
  (Evl.pss_cut (ps_if (PW.pt (pw_and (PW.pt (pw_or (pt_cmpR op_eq (pv 3) pe_int (nomark _)) (pw_or1 (pt_cmpR op_eq (pv 3) pe_int (nomark _))))) (pw_and1 (pt_cmpR op_gt (pv 6) pe_int (nomark _))))) (pss_one (ps_set (i := 9) sc_law_names.nd rfl (Or.inl rfl) (pe_op n_addZ (pe_op n_addZ (pe_slice sl_str (pv 5) po_none (po_some (pv 6))) (pe_ix ix_str (pv 2) (pe_op op_mod (pe_op op_add (pv 4) (pv 8)) pe_int) (fun _ _ => rfl))) (pe_slice sl_str (pv 5) (po_some (pe_op op_add (pv 6) pe_int)) po_none)))) pss_nil)
  (Evl.pss_cut (ps_if (PW.pt (pw_and (PW.pt (pw_or (pt_cmpR op_eq (pv 3) pe_int (nomark _)) (pw_or1 (pt_cmpR op_eq (pv 3) pe_int (nomark _))))) (pw_and1 (pt_cmpR op_eq (pv 6) pe_int (nomark _))))) (pss_one (ps_set (i := 9) sc_law_names.nd rfl (Or.inl rfl) (pe_op n_addZ (pe_ix ix_str (pv 2) (pe_op op_mod (pe_op op_add (pv 4) (pv 8)) pe_int) (fun _ _ => rfl)) (pe_slice sl_str (pv 5) (po_some pe_int) po_none)))) pss_nil)
  (Evl.pss_cut (ps_if (pt_cmpR op_eq (pv 3) pe_int (nomark _)) (pss_one (ps_set (i := 9) sc_law_names.nd rfl (Or.inl rfl) (pe_op op_mul_str (pe_ix ix_str (pv 2) (pv 4) (fun _ _ => rfl)) (pe_op op_add pe_int (pe_op op_mod (pe_op op_add (pv 4) (pe_op op_mul pe_int (pv 8))) pe_int))))) pss_nil)
  (Evl.pss_cut (ps_if (pt_cmpR op_eq (pv 3) pe_int (nomark _)) (pss_one (ps_set (i := 9) sc_law_names.nd rfl (Or.inl rfl) (pe_call G_law_name (hr.mono (by omega)) (by rfl) D_law_name.m D_law_name.F.kp D_law_name.b .nil pass0 (pa_cons (pv 0) pa_nil)))) pss_nil)
  (pss_one (ps_expr (pe_bm PySem.F.plainAttrs_list PySem.F.slot_list_append PySem.F.type_list_append mt_append (pv 7) (pa_cons (pe_call G_law_unlike (hr.mono (by omega)) (by rfl) D_law_unlike.m D_law_unlike.F.kp D_law_unlike.b .nil pass0 (pa_cons (pv 9) (pa_cons (pv 7) pa_nil))) pa_nil)))))))))))
  (pss_one (ps_ret (pv 7))))))))))), ?_⟩
    have ls : sAz9.length ≤ sizeLine := by decide +kernel
    have lb : ("b7x0qa1z" : Str).length = 8 := by decide +kernel
    walk_at "my sts"
    refine ⟨s, _, rfl, hst, by decide, fun form H1 n0 n1 hst1 f1 => ?_⟩
    walk_at "my sts"
    refine ⟨s, _, rfl, hst1, by decide, fun start H2 st0 st1 hst2 f2 => ?_⟩
    have f2 := f1.trans f2
    walk_at "my sts"
    refine i_cut (fun σ' H3 => ∃ (stem : Str) (place : Int), σ' = [some (.ref s), some (.int many), some (.str sAz9), some (.int form), some (.int start), some (.str stem), some (.int place), none, none, none] ∧ 0 ≤ place ∧ place < 8 ∧ ((form = 2 ∨ form = 3) → NameL (cz stem) ∧ place < (cz stem).length) ∧ StOk H3 s ∧ Fr s H H3) ?_ ?_
    · have yes : ∀ (H0 : Hp), StOk H0 s → Fr s H H0 → ∀ (R : VK), (∀ z H3, NameL (cz z) → StOk H3 s → Fr s H H3 → R (.str z) H3) → sp_law_name K [.ref s] H0 R E0 := fun H0 a b R g => ⟨s, rfl, a, fun z H3 hz c d => g z H3 (nameL_of hz) c (b.trans d)⟩
      walk_at "my ots"
      refine i_ite (fun h => ?_) fun h => ?_
      · walk_at "my sts"
        refine yes _ hst2 f2 _ fun z H3 nz hst3 f3 => ?_
        have nz8 := nameB_len (nameB_of nz)
        walk_at "my sts"
        refine ⟨s, _, rfl, hst3, by decide, fun place H4 p0 p1 hst4 f4 => ?_⟩
        walk_at "my sts"
        refine ⟨s, _, rfl, hst4, by omega, fun t H5 t0 t1 hst5 f5 => ?_⟩
        have e0 : cz (cutS (z ++ "b7x0qa1z") none (some 8)) = (cz z ++ cz "b7x0qa1z").take 8 := by rw [← cz_app]; exact cz_to _ 8
        have n0 : NameL (cz (cutS (z ++ "b7x0qa1z") none (some 8))) := by rw [e0]; exact nz.takeApp b7_sub (by decide) (by decide)
        have l0 : (cz (cutS (z ++ "b7x0qa1z") none (some 8))).length = 8 := by
          rw [e0, List.length_take, List.length_append, cz_len, cz_len, lb]
          omega
        generalize cutS (z ++ "b7x0qa1z") none (some 8) = st at n0 l0 ⊢
        have et : place + 1 + t = ((place + 1 + t).toNat : Int) := by omega
        have l0' : st.length = 8 := by rw [← cz_len]; exact l0
        walk_at "my sts"
        refine ⟨_, place, rfl, p0, by omega, fun _ => ?_, hst5, f3.trans (f4.trans f5)⟩
        rw [et, cz_to]
        refine ⟨n0.take (by omega), ?_⟩
        rw [List.length_take, l0]
        omega
      · rw [dec_int2, dec_int2] at h
        have h := or_decF h
        walk_at "my sts"
        exact ⟨_, _, rfl, by decide, by decide, fun e => absurd e (fun e => e.elim h.1 h.2), hst2, f2⟩
    rintro σ3 H3 ⟨stem, place, rfl, p0, p8, hstem, hst3, f3⟩
    walk_at "my sts"
    refine lst_end (by decide) fun o H4 ho4 s4 h4 => ?_
    have no : o ≠ s := hst3.ne ho4
    have hno : H o = none := f3.free ho4 no
    walk_at "my sts"
    refine fr1 (by omega) (by omega) (fun i σ' H' => ∃ (ns : List Str) (v w : Option V), σ' = [some (.ref s), some (.int many), some (.str sAz9), some (.int form), some (.int start), some (.str stem), some (.int place), some (.ref o), v, w] ∧ H' o = some (.lst (ns.map V.str)) ∧ ns.length = i ∧ ns.Nodup ∧ (∀ n ∈ ns, nameB n = true) ∧ StOk H' s ∧ Fr s H H')
      ⟨[], none, none, rfl, h4, rfl, List.nodup_nil, (by intro n h; cases h), hst3.same s4, f3.trans (Fr.same s4)⟩ ?_ ?_
    · rintro i σ' H' hi ⟨ns, v, w, rfl, ho, nl, nd, nm, hst5, f5⟩
      obtain ⟨c, hc, hc9, hcz⟩ := at_az9 (i := (start + (i : Int)) % 26) (by omega) (by omega)
      walk_at "my sts"
      refine i_cut (NmM H s o many form start place stem (i : Int) (ns.map V.str)) ?_ ?_
      · walk_at "my sts"
        refine i_ite (fun _ => ?_) fun _ => ?_
        · obtain ⟨d, hd, _, hdz⟩ := at_az9 (i := (start + 25 * (i : Int)) % 26) (by omega) (by omega)
          walk_at "my sts"
          exact ⟨_, rfl, NameL.one (hdz (by omega)), hst5, f5, ho⟩
        · walk_at "my sts"
          exact ⟨_, rfl, NameL.one (hcz (by omega)), hst5, f5, ho⟩
      rintro σ6 H6 ⟨z6, rfl, nz6, hst6, f6, ho6⟩
      refine i_cut (NmM H s o many form start place stem (i : Int) (ns.map V.str)) ?_ ?_
      · walk_at "my ots"
        refine i_ite (fun h => ?_) fun h => ?_
        · rw [dec_int2, dec_int2] at h
          obtain ⟨h1, h2⟩ := and_split h
          obtain ⟨nst, pst⟩ := hstem (or_dec h1)
          have h2 := of_decide_eq_true h2
          obtain ⟨d, hd, hd9, _⟩ := at_az9 (i := (start + (i : Int)) % 36) (by omega) (by omega)
          have lst : stem.length ≤ 8 := by rw [← cz_len]; exact nst.hi
          have l1 := len_cut stem none (some place)
          have l2 := len_cut stem (some (place + 1)) none
          have lo := len_one d
          walk_at "my sts"
          refine ⟨_, rfl, ?_, hst6, f6, ho6⟩
          have e1 : place = ((place.toNat : Nat) : Int) := by omega
          have e2 : place + 1 = ((place.toNat + 1 : Nat) : Int) := by omega
          rw [e2, e1, cz_app, cz_app, cz_to, cz_from, cz_one]
          exact nst.swap (by omega) (by omega) hd9
        · walk_at "my sts"
          exact ⟨_, rfl, nz6, hst6, f6, ho6⟩
      rintro σ7 H7 ⟨z7, rfl, nz7, hst7, f7, ho7⟩
      refine i_cut (NmM H s o many form start place stem (i : Int) (ns.map V.str)) ?_ ?_
      · walk_at "my ots"
        refine i_ite (fun h => ?_) fun h => ?_
        · rw [dec_int2, dec_int2] at h
          obtain ⟨h1, h2⟩ := and_split h
          obtain ⟨nst, pst⟩ := hstem (or_dec h1)
          have lst : stem.length ≤ 8 := by rw [← cz_len]; exact nst.hi
          have l2 := len_cut stem (some 1) none
          have lo := len_one c
          walk_at "my sts"
          refine ⟨_, rfl, ?_, hst7, f7, ho7⟩
          have e1 : cz (cutS stem (some 1) none) = (cz stem).drop 1 := cz_from stem 1
          rw [cz_app, e1, cz_one]
          exact nst.head (hcz (by omega))
        · walk_at "my sts"
          exact ⟨_, rfl, nz7, hst7, f7, ho7⟩
      rintro σ8 H8 ⟨z8, rfl, nz8, hst8, f8, ho8⟩
      refine i_cut (NmM H s o many form start place stem (i : Int) (ns.map V.str)) ?_ ?_
      · walk_at "my sts"
        refine i_ite (fun h => ?_) fun h => ?_
        · obtain ⟨d, hd, _, hdz⟩ := at_az9 (i := start) st0 (by omega)
          walk_at "my sts"
          refine i_mulS (by omega) (by rw [len_one]; decide) ?_
          walk_at "my sts"
          refine ⟨_, rfl, ?_, hst8, f8, ho8⟩
          rw [cz_mul]
          exact NameL.rep (hdz (by omega)) (by omega) (by omega)
        · walk_at "my sts"
          exact ⟨_, rfl, nz8, hst8, f8, ho8⟩
      rintro σ9 H9 ⟨z9, rfl, nz9, hst9, f9, ho9⟩
      refine i_cut (NmM H s o many form start place stem (i : Int) (ns.map V.str)) ?_ ?_
      · walk_at "my sts"
        refine i_ite (fun h => ?_) fun h => ?_
        · walk_at "my sts"
          refine ⟨s, rfl, hst9, fun z H3 hz c d => ?_⟩
          walk_at "my sts"
          exact ⟨_, rfl, nameL_of hz, c, f9.trans d, d.1 _ _ ho9 no⟩
        · walk_at "my sts"
          exact ⟨_, rfl, nz9, hst9, f9, ho9⟩
      rintro σA HA ⟨zA, rfl, nzA, hstA, fA, hoA⟩
      have nA := nameB_of nzA
      have lA := nameB_len nA
      walk_at "my sts"
      refine ⟨zA, o, ns, rfl, hoA, by omega, by omega, fun y HB hy hyn _ sB => ?_⟩
      walk_at "my sts"
      refine i_append (sB _ _ hoA) (by rw [List.length_map]; omega) ?_
      obtain ⟨b1, b2, b3, b4⟩ := mut_all (ys := ns.map V.str ++ [V.str y]) hst (fA.trans (Fr.same sB)) (hstA.same sB) hno
      refine ⟨ns ++ [y], _, _, rfl, ?_, by rw [List.length_append, nl]; rfl, ?_, ?_, b1, b2⟩
      · rw [b3, List.map_append]
        rfl
      · rw [List.nodup_append]
        refine ⟨nd, by simp, fun a ha b hb e => ?_⟩
        rw [List.mem_singleton.mp hb] at e
        exact hy (e ▸ ha)
      · intro n hn
        rcases List.mem_append.mp hn with h | h
        · exact nm n h
        · rw [List.mem_singleton.mp h]
          exact hyn nA
    · rintro σ' H' ⟨ns, v, w, rfl, ho, nl, nd, nm, hst5, f5⟩
      walk_at "my sts"
      exact k o ns H' hno ho (by omega) nd nm hst5 f5
def sp_law_mixed (K : PySem.W.Frag) : Sp := fun vs H Q _ => ∃ (s p : Addr) (xs : List V), vs = [.ref s, .ref p] ∧ StOk H s ∧ Lt2 H p xs ∧ p ≠ s ∧ xs.length ≤ 1000 ∧ ∀ l ys H', H l = none → H' l = some (.lst ys) → ys.Perm xs → StOk H' s → Fr s H H' → Q (.ref l) H'
theorem ok_law_mixed {f : Addr} {fd : FuncData}
    {f_law_take : Addr} {fd_law_take : FuncData} (D_law_take : Dn K mg "_law_take" s_law_take p_law_take f_law_take fd_law_take) (G_law_take : FnOk P w K mg base CX0 2 f_law_take fd_law_take p_law_take (sp_law_take K))
    (T : Txt K mg) (D : Dn K mg "_law_mixed" s_law_mixed p_law_mixed f fd) : FnOk P w K mg base CX0 3 f fd p_law_mixed (sp_law_mixed K) := by
  refine D.F.ok sc_law_mixed (fun vs H Q E h => ?_) (fun cdv A outer s' H vs Q E hr h => ?_)
  · obtain ⟨s, p, xs, rfl, _⟩ := h
    rfl
  · obtain ⟨s, p, xs, rfl, hst, hp, np, hl, k⟩ := h
    refine ⟨_, (pss_cons (ps_set (i := 2) sc_law_mixed.nd rfl (Or.inl rfl) (pe_callTy (n_listK (K := K) rfl) (by rfl) T.b_list (by decide +kernel) (pa_cons (pv 1) pa_nil)))
  (pss_cons (ps_if (pt_cmpR op_lt (pe_callB (n_lenQK (K := K) rfl) (by rfl) T.b_len (by decide +kernel) (pa_cons (pv 2) pa_nil)) pe_int (nomark _)) (pss_one (ps_ret (pv 2))) pss_nil)
  (pss_cons (ps_set (i := 3) sc_law_mixed.nd rfl (Or.inl rfl) (pe_call G_law_take (hr.mono (by omega)) (by rfl) D_law_take.m D_law_take.F.kp D_law_take.b .nil pass0 (pa_cons (pv 0) (pa_cons pe_int pa_nil))))
  (pss_cons (ps_if (pt_cmpR op_eq (pv 3) pe_int (nomark _)) (pss_one (ps_ret (pv 2))) pss_nil)
  (pss_cons (ps_if (pt_cmpR op_eq (pv 3) pe_int (nomark _)) (pss_one (ps_ret (pe_revL (pv 2)))) pss_nil)
  (pss_cons (ps_set (i := 4) sc_law_mixed.nd rfl (Or.inl rfl) (pe_lst pa_nil))
  (pss_cons (ps_for PassesOwn.never rfl (pi_range1 (by rfl) T.b_range (pa_cons (pe_callB (n_lenVK (K := K) rfl) (by rfl) T.b_len (by decide +kernel) (pa_cons (pv 1) pa_nil)) pa_nil)) (pg_name (i := 5) sc_law_mixed.nd rfl (Or.inl rfl))
   (pss_one (ps_expr (pe_bm PySem.F.plainAttrs_list PySem.F.slot_list_append PySem.F.type_list_append mt_append (pv 4) (pa_cons (pe_bm PySem.F.plainAttrs_list PySem.F.slot_list_pop PySem.F.type_list_pop mt_popAt (pv 2) (pa_cons (pe_call G_law_take (hr.mono (by omega)) (by rfl) D_law_take.m D_law_take.F.kp D_law_take.b .nil pass0 (pa_cons (pv 0) (pa_cons (pe_callB (n_lenQK (K := K) rfl) (by rfl) T.b_len (by decide +kernel) (pa_cons (pv 2) pa_nil)) pa_nil))) pa_nil)) pa_nil)))))
  (pss_one (ps_ret (pv 4)))))))))), ?_⟩
    walk_at "my sts"
    refine list_endLt hp fun l H1 hl0 s1 h1 => ?_
    have nl : l ≠ s := hst.ne hl0
    walk_at "my sts"
    refine i_ite (fun _ => ?_) fun _ => ?_
    · walk_at "my sts"
      exact k l xs H1 hl0 h1 (List.Perm.refl _) (hst.same s1) (Fr.same s1)
    walk_at "my sts"
    refine ⟨s, _, rfl, hst.same s1, by decide, fun n H2 n0 n6 hst2 f2 => ?_⟩
    have h2 := f2.1 _ _ h1 nl
    have f2 := (Fr.same (s := s) s1).trans f2
    walk_at "my sts"
    refine i_ite (fun _ => ?_) fun _ => ?_
    · walk_at "my sts"
      exact k l xs H2 hl0 h2 (List.Perm.refl _) hst2 f2
    walk_at "my sts"
    refine i_ite (fun _ => ?_) fun _ => ?_
    · walk_at "my sts"
      refine rev_end (sqL h2) fun r H3 hr3 s3 h3 => ?_
      exact k r _ H3 (f2.free hr3 (hst2.ne hr3)) h3 (List.reverse_perm xs) (hst2.same s3) (f2.trans (Fr.same s3))
    walk_at "my sts"
    refine lst_end (by decide) fun o H3 ho3 s3 h3 => ?_
    have no : o ≠ s := hst2.ne ho3
    have hno : H o = none := f2.free ho3 no
    have nlo : o ≠ l := ne_none h2 ho3
    walk_at "my sts"
    have hp3 := (hp.fr np f2).same s3
    refine i_lenVLt hp3 ?_
    walk_at "my sts"
    refine fr1 (by omega) (by omega) (fun i σ' H' => ∃ (left out : List V) (v : Option V), σ' = [some (.ref s), some (.ref p), some (.ref l), some (.int n), some (.ref o), v] ∧ H' l = some (.lst left) ∧ H' o = some (.lst out) ∧ (out ++ left).Perm xs ∧ out.length = i ∧ StOk H' s ∧ Fr s H H')
      ⟨xs, [], none, rfl, s3 _ _ h2, h3, List.Perm.refl _, rfl, hst2.same s3, f2.trans (Fr.same s3)⟩ ?_ ?_
    · rintro i σ' H' hi ⟨left, out, v, rfl, g1, g2, pm, ol, hst4, f4⟩
      have len := pm.length_eq
      rw [List.length_append] at len
      walk_at "my sts"
      refine ⟨s, _, rfl, hst4, by omega, fun m H5 m0 m1 hst5 f5 => ?_⟩
      have f5' := f4.trans f5
      walk_at "my sts"
      refine i_popAt (f5.1 _ _ g1 nl) m0 (by omega) (by omega) fun y hy => ?_
      obtain ⟨a1, a2, a3, a4⟩ := mut_all (ys := left.eraseIdx m.toNat) hst f5' hst5 hl0
      have g2' := a4 _ _ nlo (f5.1 _ _ g2 no)
      generalize upd H5 l (.lst (left.eraseIdx m.toNat)) = H6 at a1 a2 a3 g2' ⊢
      walk_at "my sts"
      refine i_append g2' (by omega) ?_
      obtain ⟨b1, b2, b3, b4⟩ := mut_all (ys := out ++ [y]) hst a2 a1 hno
      refine ⟨_, _, _, rfl, b4 _ _ nlo.symm a3, b3, ?_, by rw [List.length_append, ol]; rfl, b1, b2⟩
      rw [List.append_assoc]
      exact ((perm_pop hy).append_left out).trans pm
    · rintro σ' H' ⟨left, out, v, rfl, g1, g2, pm, ol, hst4, f4⟩
      have len := pm.length_eq
      rw [List.length_append] at len
      have l0 : left = [] := List.eq_nil_of_length_eq_zero (by omega)
      rw [l0, List.append_nil] at pm
      walk_at "my sts"
      exact k o out H' hno g2 pm hst4 f4
def spPlainN (n : Nat) (K : PySem.W.Frag) : Sp := fun vs H Q _ => ∃ v, vs = [v] ∧ (atomB v = true ∨ ∃ (m : Nat) (p : Addr) (xs : List V), n = m + 1 ∧ v = .ref p ∧ (H p = some (.lst xs) ∨ H p = some (.tup xs)) ∧ xs.length ≤ 1000 ∧ ∀ x ∈ xs, atomB x = true) ∧ ∀ v' H', PlT H v H' v' → Same H H' → Q v' H'
def sp_plain (K : PySem.W.Frag) : Sp := fun vs H Q _ => ∃ v, vs = [v] ∧ Pl H v ∧ ∀ v' H', PlT H v H' v' → Same H H' → Q v' H'
theorem ok_plain0 {f : Addr} {fd : FuncData} (T : Txt K mg) (D_plain : Dn K mg "plain" s_plain p_plain f fd) : ∀ n : Nat, FnOk P w K mg base CX0 (n + 1) f fd p_plain (spPlainN n K) := by
  have body : ∀ (n : Nat) (sp : Sp), FnOk P w K mg base CX0 n f fd p_plain sp → (∀ m, n = m + 1 → sp = spPlainN m K) → FnOk P w K mg base CX0 (n + 1) f fd p_plain (spPlainN n K) := by
    intro n sp G_plain hsp
    refine D_plain.F.ok sc_plain (fun vs H Q E h => ?_) (fun cdv A outer s' H vs Q E hr h => ?_)
    · obtain ⟨v, rfl, _⟩ := h
      rfl
    · obtain ⟨v, rfl, h⟩ := h
      refine ⟨_, (pss_cons (ps_if (pt_val (pe_callB (call_isiTK (K := K) rfl) (by rfl) T.b_isinstance (by decide +kernel) (pa_cons (pv 0) (pa_cons (pe_tup (pa_cons (pe_bltn (v := .ty "list") (by rfl) T.b_list (by decide +kernel) rfl) (pa_cons (pe_bltn (v := .ty "tuple") (by rfl) T.b_tuple (by decide +kernel) rfl) pa_nil))) pa_nil)))) (pss_one (ps_ret (pe_callTy (n_tupleK (K := K) rfl) (by rfl) T.b_tuple (by decide +kernel) (pa_cons (pe_lc (own := [("part", 1)]) rfl sc_plain.nd (pi_any (K := K) rfl (pv 0)) (blkOk_by (own := [("part", 1)]) (N := n_plain) (sc := defScope s_plain) (by decide +kernel)) (fun _ _ _ _ _ => (pg_name (i := 1) sc_plain.nd rfl (Or.inl rfl))) (fun _ _ _ _ _ => pts_nil) (fun _ _ _ _ _ => (pe_call G_plain hr (by rfl) D_plain.m D_plain.F.kp D_plain.b .nil pass0 (pa_cons (pv 1) pa_nil)))) pa_nil)))) pss_nil)
  (pss_cons (ps_if (pt_val (pe_callB (call_isiK (K := K) rfl) (by rfl) T.b_isinstance (by decide +kernel) (pa_cons (pv 0) (pa_cons (pe_bltn (v := .ty "str") (by rfl) T.b_str (by decide +kernel) rfl) pa_nil)))) (pss_one (ps_ret (pe_callTy SkE.call_str_str (by rfl) T.b_str (by decide +kernel) (pa_cons (pv 0) pa_nil)))) pss_nil)
  (pss_cons (ps_if (PW.pt (pw_and (pt_val (pe_callB (call_isiK (K := K) rfl) (by rfl) T.b_isinstance (by decide +kernel) (pa_cons (pv 0) (pa_cons (pe_bltn (v := .ty "int") (by rfl) T.b_int (by decide +kernel) rfl) pa_nil)))) (pw_and1 (pt_not (pt_val (pe_callB (call_isiK (K := K) rfl) (by rfl) T.b_isinstance (by decide +kernel) (pa_cons (pv 0) (pa_cons (pe_bltn (v := .ty "bool") (by rfl) T.b_bool (by decide +kernel) rfl) pa_nil)))))))) (pss_one (ps_ret (pe_callTy n_int (by rfl) T.b_int (by decide +kernel) (pa_cons (pv 0) pa_nil)))) pss_nil)
  (pss_one (ps_ret (pv 0)))))), ?_⟩
      obtain ⟨h, k⟩ := h
      rcases h with hv | ⟨m, p, xs, rfl, rfl, hp, hl, hx⟩
      · cases v with
        | str a =>
          walk_at "my sts"
          refine tup_end (by decide) fun p H1 hp s1 h1 => ?_
          walk_at "my sts"
          refine ⟨_, rfl, ?_⟩
          walk_at "my sts"
          exact k _ _ (.inl ⟨rfl, rfl⟩) s1
        | int a =>
          walk_at "my sts"
          refine tup_end (by decide) fun p H1 hp s1 h1 => ?_
          walk_at "my sts"
          exact k _ _ (.inl ⟨rfl, rfl⟩) s1
        | bl a =>
          walk_at "my sts"
          refine tup_end (by decide) fun p H1 hp s1 h1 => ?_
          walk_at "my sts"
          exact k _ _ (.inl ⟨rfl, rfl⟩) s1
        | _ => exact Bool.noConfusion hv
      · cases hsp m rfl
        rcases hp with hp | hp
        · walk_at "my sts"
          refine tup_end (by decide) fun t H1 ht s1 h1 => ?_
          have hp1 := s1 _ _ hp
          walk_at "my sts"
          refine i_lcAL ?_
          walk_at "my sts"
          refine cl (xs := xs) (sqL hp1) (fun D i H' => Same H1 H' ∧ H' D = some (.lst (xs.take i))) (fun D hD => ⟨same_new hD, upd_same⟩) (fun D i H' _ _ g => sqL (g.1 _ _ hp1)) ?_ ?_
          · rintro D i x H' hD hx' ⟨g1, g2⟩
            refine ⟨rfl, ?_⟩
            walk_at "my sts"
            refine ⟨x, rfl, .inl (hx _ (List.mem_of_getElem? hx')), fun v' H2 pt s2 => ?_⟩
            rcases pt with ⟨_, rfl⟩ | ⟨_, _, _, rfl, _⟩
            case inr => exact Bool.noConfusion (hx _ (List.mem_of_getElem? hx'))
            refine ⟨_, s2 _ _ g2, Nat.lt_of_le_of_lt (Nat.le_trans (by rw [List.length_take]; exact Nat.min_le_right _ _) hl) (by decide), same_mut (g1.trans s2) hD, ?_⟩
            rw [upd_same, List.take_add_one, hx']
            rfl
          · rintro D H' hD ⟨g1, g2⟩
            rw [List.take_length] at g2
            walk_at "my sts"
            refine tuple_end (sqL g2) fun q H2 hq s2 h2 => ?_
            exact k _ _ (.inr ⟨_, _, q, rfl, .inl hp, rfl, h2⟩) (s1.trans (g1.trans s2))
        · walk_at "my sts"
          refine tup_end (by decide) fun t H1 ht s1 h1 => ?_
          have hp1 := s1 _ _ hp
          walk_at "my sts"
          refine i_lcAT ?_
          walk_at "my sts"
          refine ct_ (xs := xs) (sqT hp1) (fun D i H' => Same H1 H' ∧ H' D = some (.lst (xs.take i))) (fun D hD => ⟨same_new hD, upd_same⟩) (fun D i H' _ _ g => sqT (g.1 _ _ hp1)) ?_ ?_
          · rintro D i x H' hD hx' ⟨g1, g2⟩
            refine ⟨rfl, ?_⟩
            walk_at "my sts"
            refine ⟨x, rfl, .inl (hx _ (List.mem_of_getElem? hx')), fun v' H2 pt s2 => ?_⟩
            rcases pt with ⟨_, rfl⟩ | ⟨_, _, _, rfl, _⟩
            case inr => exact Bool.noConfusion (hx _ (List.mem_of_getElem? hx'))
            refine ⟨_, s2 _ _ g2, Nat.lt_of_le_of_lt (Nat.le_trans (by rw [List.length_take]; exact Nat.min_le_right _ _) hl) (by decide), same_mut (g1.trans s2) hD, ?_⟩
            rw [upd_same, List.take_add_one, hx']
            rfl
          · rintro D H' hD ⟨g1, g2⟩
            rw [List.take_length] at g2
            walk_at "my sts"
            refine tuple_end (sqL g2) fun q H2 hq s2 h2 => ?_
            exact k _ _ (.inr ⟨_, _, q, rfl, .inr hp, rfl, h2⟩) (s1.trans (g1.trans s2))
  intro n
  induction n with
  | zero => exact body 0 (fun _ _ _ _ => False) ⟨fun _ _ _ _ h => h.elim, fun _ _ _ _ _ _ _ _ _ _ _ _ _ h => h.elim⟩ fun m e => nomatch e
  | succ n ih => exact body (n + 1) _ ih fun m e => by cases e; rfl
theorem ok_plain {f : Addr} {fd : FuncData} (T : Txt K mg) (D_plain : Dn K mg "plain" s_plain p_plain f fd) : FnOk P w K mg base CX0 2 f fd p_plain (sp_plain K) := by
  have G : FnOk P w K mg base CX0 2 f fd p_plain (spPlainN 1 K) := ok_plain0 T D_plain 1
  have e : spPlainN 1 K = sp_plain K := by
    funext vs H Q E
    refine propext ⟨fun ⟨v, e, h, k⟩ => ⟨v, e, h.imp id fun ⟨m, p, xs, _, h⟩ => ⟨p, xs, h⟩, k⟩, fun ⟨v, e, h, k⟩ => ⟨v, e, h.imp id fun ⟨p, xs, h⟩ => ⟨0, p, xs, rfl, h⟩, k⟩⟩
  rw [← e]
  exact G
def sp_BadCount__init (K : PySem.W.Frag) : Sp := spInit2 "what" "number" K
theorem ok_BadCount__init {f : Addr} {fd : FuncData}
    {f_plain : Addr} {fd_plain : FuncData} (D_plain : Dn K mg "plain" s_plain p_plain f_plain fd_plain) (G_plain : FnOk P w K mg base CX0 2 f_plain fd_plain p_plain (sp_plain K))
    (T : Txt K mg) (D : Dm K "__init__" "BadCount.__init__" s_BadCount__init p_BadCount__init f fd) : FnOk P w K mg base CX0 3 f fd p_BadCount__init (sp_BadCount__init K) := by
  refine D.F.ok sc_BadCount__init (fun vs H Q E h => ?_) (fun cdv A outer s' H vs Q E hr h => ?_)
  · obtain ⟨a, C, v, u, rfl, _⟩ := h
    rfl
  · obtain ⟨a, C, v, u, rfl, hC, hf, hg, ha, hv, hu, k⟩ := h
    refine ⟨_, (pss_cons (ps_ostK (K := K) rfl (pv 0) (pe_call G_plain (hr.mono (by omega)) (by rfl) D_plain.m D_plain.F.kp D_plain.b .nil pass0 (pa_cons (pv 1) pa_nil)))
  (pss_one (ps_ostK (K := K) rfl (pv 0) (pe_call G_plain (hr.mono (by omega)) (by rfl) D_plain.m D_plain.F.kp D_plain.b .nil pass0 (pa_cons (pv 2) pa_nil))))), ?_⟩
    walk_at "my sts"
    refine i_ost ?_
    walk_at "my sts"
    refine ⟨v, rfl, .inl hv, fun v' H1 pt s1 => ?_⟩
    rcases pt with ⟨_, rfl⟩ | ⟨_, _, _, rfl, _⟩
    case inr => exact Bool.noConfusion hv
    walk_at "my sts"
    refine ost_first hC hf (s1 _ _ ha) fun dx hdx na => ?_
    refine i_ost ?_
    walk_at "my sts"
    refine ⟨u, rfl, .inl hu, fun u' H2 pt s2 => ?_⟩
    rcases pt with ⟨_, rfl⟩ | ⟨_, _, _, rfl, _⟩
    case inr => exact Bool.noConfusion hu
    walk_at "my sts"
    have e2 := s2 _ _ (show upd (upd H1 dx (exd dx [("what", v')])) a (exo a C (some dx)) a = _ from upd_same)
    have d2 := s2 _ _ (show upd (upd H1 dx (exd dx [("what", v')])) a (exo a C (some dx)) dx = _ by rw [upd_ne na]; exact upd_same)
    refine ost_next hC hg e2 d2 (by show 1 ≤ 900; decide) ?_
    refine k dx _ (s1.free hdx) ?_ upd_same fun b o nb hb => ?_
    · rw [upd_ne (Ne.symm na)]
      exact e2
    · have hb1 := s1 _ _ hb
      rw [upd_ne (ne_of_none hb1 hdx)]
      refine s2 _ _ ?_
      rw [upd_ne nb, upd_ne (ne_of_none hb1 hdx)]
      exact hb1
def sp_check_count (K : PySem.W.Frag) : Sp := fun vs H Q E => ∃ (a : Str) (n lo hi : Int), vs = [.str a, .int n, .int lo, .int hi] ∧ ((lo ≤ n ∧ n ≤ hi ∧ ∀ H', Same H H' → Q .non H') ∨
  (¬ (lo ≤ n ∧ n ≤ hi) ∧ ∀ d H', H d = none → H' d = some (.xd [("number", .int n), ("what", .str a)]) → Same H H' → E (.ref (gad K "BadCount")) (some d) H'))
theorem ok_check_count {f : Addr} {fd : FuncData}
    {f_BadCount__init : Addr} {fd_BadCount__init : FuncData} (D_BadCount__init : Dm K "__init__" "BadCount.__init__" s_BadCount__init p_BadCount__init f_BadCount__init fd_BadCount__init) (G_BadCount__init : FnOk P w K mg base CX0 3 f_BadCount__init fd_BadCount__init p_BadCount__init (sp_BadCount__init K))
    (X_BadCount : Dx K mg "BadCount" (gad K "BadCount") f_BadCount__init ["what", "number"])
    (T : Txt K mg) (D : Dn K mg "check_count" s_check_count p_check_count f fd) : FnOk P w K mg base (L2.CX P w) 5 f fd p_check_count (sp_check_count K) := by
  refine D.F.okX sc_check_count (fun vs H Q E h => ?_) (fun cdv A outer s' H vs Q E hr h => ?_)
  · obtain ⟨a, n, lo, hi, rfl, _⟩ := h
    rfl
  · obtain ⟨a, n, lo, hi, rfl, h⟩ := h
    refine ⟨_, (pss_one (ps_if (pt_not (pt_chain op_le op_le (pv 2) (pv 1) (pv 3))) (pss_one (ps_raise rfl (takes_of rfl rfl rfl rfl) (pmk_oex X_BadCount.oex X_BadCount.iC X_BadCount.tI G_BadCount__init (hr.mono (by omega)) D_BadCount__init.b .nil pass0 (by rfl) X_BadCount.g (pa_cons (pv 0) (pa_cons (pv 1) pa_nil))))) pss_nil)), ?_⟩
    walk_at "my sts"
    rcases h with ⟨h1, h2, k⟩ | ⟨h, k⟩
    · refine i_ite (fun _ => ?_) fun h => absurd h1 (of_decide_eq_false h)
      walk_at "my sts"
      rw [decide_eq_true h2]
      walk_at "my sts"
      exact k _ (Same.refl _)
    · have e : MkEnd (gad K "BadCount") (sp_BadCount__init K) [] (fun cls d H' => E cls d H') [.str a, .int n] H := mk2 X_BadCount.oex (X_BadCount.no "what" (by decide)) (X_BadCount.no "number" (by decide)) rfl rfl fun d H' hd ed s1 => k d H' hd ed s1
      refine i_ite (fun h1 => ?_) fun h1 => ?_
      · walk_at "my sts"
        rw [decide_eq_false fun h2 => h ⟨of_decide_eq_true h1, h2⟩]
        walk_at "my sts"
        exact e
      · walk_at "my sts"
        exact e
def sp_is_name (K : PySem.W.Frag) : Sp := fun vs H Q _ => ∃ (z : Str), vs = [.str z] ∧ z.length ≤ 1000 ∧ ∀ H', Same H H' → Q (.bl (nameB z)) H'
theorem ok_is_name {f : Addr} {fd : FuncData}
    (T : Txt K mg) (D : Dn K mg "is_name" s_is_name p_is_name f fd) : FnOk P w K mg base CX0 1 f fd p_is_name (sp_is_name K) := by
  refine D.F.ok sc_is_name (fun vs H Q E h => ?_) (fun cdv A outer s' H vs Q E hr h => ?_)
  · obtain ⟨z, rfl, _⟩ := h
    rfl
  · obtain ⟨z, rfl, hz, k⟩ := h
    refine ⟨_, (pss_cons (ps_if (pt_not (pt_chain op_le op_le pe_int (pe_callB n_lenZ (by rfl) T.b_len (by decide +kernel) (pa_cons (pv 0) pa_nil)) (pe_globE (by rfl) T.c_LONGEST_NAME))) (pss_one (ps_ret pe_bl)) pss_nil)
  (pss_one (ps_ret (pe_and (pe_cmpR n_inG (pe_ix ix_str (pv 0) pe_int (fun _ _ => rfl)) (pe_globE (by rfl) T.c_LETTERS) rfl) (pe_one (pe_callB (cr_allK (K := K) rfl rfl) (by rfl) T.b_all (by decide +kernel) (pa_cons (pe_lc (own := [("sign", 1)]) rfl sc_is_name.nd (pi_str (pv 0)) (blkOk_by (own := [("sign", 1)]) (N := n_is_name) (sc := defScope s_is_name) (by decide +kernel)) (fun _ _ _ _ _ => (pg_name (i := 1) sc_is_name.nd rfl (Or.inl rfl))) (fun _ _ _ _ _ => pts_nil) (fun _ _ _ _ _ => (pe_cmpR n_inG (pv 1) (pe_globE (by rfl) T.c_LETTERS_AND_DIGITS) rfl))) pa_nil))))))), ?_⟩
    walk_at "my sts"
    refine i_ite (fun h1 => ?_) fun h1 => ?_
    · have h1 : 1 ≤ z.length := by
        have := of_decide_eq_true h1
        omega
      walk_at "my sts"
      refine i_ite (fun h2 => ?_) fun h2 => ?_
      · walk_at "my sts"
        have h2 := of_decide_eq_false (nbT h2)
        rw [← nameB_9 (z := z) (by omega)]
        exact k _ (Same.refl _)
      · walk_at "my sts"
        have h2 : z.length ≤ 8 := by
          have := of_decide_eq_true (nbF h2)
          omega
        obtain ⟨c, hc, hf⟩ := first_of h1
        refine i_ixS (Nat.le_trans hz (by decide)) (atI_nat (j := 0) hc) ?_
        walk_at "my sts"
        refine i_ite (fun h3 => ?_) fun h3 => ?_
        · walk_at "my sts"
          refine cs (fun Dl i H' => Same H H' ∧ H' Dl = some (.lst (((z.cps.toList.take i).map fun c => decide (c ∈ AZ9)).map V.bl))) (fun Dl hD => ⟨same_new hD, upd_same⟩) ?_ ?_
          · rintro Dl i c H' hD hc' ⟨sm, hd⟩
            refine ⟨rfl, ?_⟩
            walk_at "my sts"
            refine ⟨_, hd, ?_, same_mut sm hD, ?_⟩
            · rw [List.length_map, List.length_map, List.length_take]
              exact Nat.lt_of_le_of_lt (m := 8) (by rw [Array.length_toList]; exact Nat.le_trans (Nat.min_le_right _ _) h2) (by decide)
            · rw [upd_same, take_map _ (of_arr hc'), List.map_append]
              rfl
          · rintro Dl H' hD ⟨sm, hd⟩
            walk_at "my sts"
            rw [← Array.length_toList, take_all] at hd
            refine i_all (sqL hd) ?_
            have e : nameB z = (z.cps.toList.map fun c => decide (c ∈ AZ9)).all id := by
              rw [nameB_ok h1 h2 (hf.trans h3), List.all_map]
              rfl
            rw [← e]
            exact k _ sm
        · rw [← nameB_f (hf.trans h3)]
          exact k _ (Same.refl _)
    · walk_at "my sts"
      have h1 := of_decide_eq_false h1
      rw [← nameB_0 (z := z) (by omega)]
      exact k _ (Same.refl _)
def sp_BadName__init (K : PySem.W.Frag) : Sp := spInit1 "name" K
theorem ok_BadName__init {f : Addr} {fd : FuncData}
    {f_plain : Addr} {fd_plain : FuncData} (D_plain : Dn K mg "plain" s_plain p_plain f_plain fd_plain) (G_plain : FnOk P w K mg base CX0 2 f_plain fd_plain p_plain (sp_plain K))
    (T : Txt K mg) (D : Dm K "__init__" "BadName.__init__" s_BadName__init p_BadName__init f fd) : FnOk P w K mg base CX0 3 f fd p_BadName__init (sp_BadName__init K) := by
  refine D.F.ok sc_BadName__init (fun vs H Q E h => ?_) (fun cdv A outer s' H vs Q E hr h => ?_)
  · obtain ⟨a, C, v, rfl, _⟩ := h
    rfl
  · obtain ⟨a, C, v, rfl, hC, hno, ha, hv, k⟩ := h
    refine ⟨_, (pss_one (ps_ostK (K := K) rfl (pv 0) (pe_call G_plain (hr.mono (by omega)) (by rfl) D_plain.m D_plain.F.kp D_plain.b .nil pass0 (pa_cons (pv 1) pa_nil)))), ?_⟩
    refine i_ost ?_
    walk_at "my sts"
    refine ⟨v, rfl, hv, fun v' H1 pt s1 => ?_⟩
    walk_at "my sts"
    refine ost_first hC hno (s1 _ _ ha) fun dx hdx na => ?_
    refine k v' dx _ (s1.free hdx) upd_same (by rw [upd_ne na]; exact upd_same) ?_ fun b o nb hb => ?_
    · rcases pt with pt | ⟨p, xs, q, e, hp, e', hq⟩
      · exact .inl pt
      · refine .inr ⟨p, xs, q, e, hp, e', ?_⟩
        rw [upd_ne (at_ne (s1 _ _ ha) hq exo_tup), upd_ne (ne_of_none hq hdx)]
        exact hq
    · rw [upd_ne nb, upd_ne (ne_of_none (s1 _ _ hb) hdx)]
      exact s1 _ _ hb
def sp_check_new_name (K : PySem.W.Frag) : Sp := fun vs H Q E => ∃ (z : Str), vs = [.str z] ∧ z.length ≤ 1000 ∧ ((nameB z = true ∧ ∀ H', Same H H' → Q .non H') ∨
  (nameB z = false ∧ ∀ d H', H d = none → H' d = some (.xd [("name", .str z)]) → Same H H' → E (.ref (gad K "BadName")) (some d) H'))
theorem ok_check_new_name {f : Addr} {fd : FuncData}
    {f_is_name : Addr} {fd_is_name : FuncData} (D_is_name : Dn K mg "is_name" s_is_name p_is_name f_is_name fd_is_name) (G_is_name : FnOk P w K mg base CX0 1 f_is_name fd_is_name p_is_name (sp_is_name K))
    {f_BadName__init : Addr} {fd_BadName__init : FuncData} (D_BadName__init : Dm K "__init__" "BadName.__init__" s_BadName__init p_BadName__init f_BadName__init fd_BadName__init) (G_BadName__init : FnOk P w K mg base CX0 3 f_BadName__init fd_BadName__init p_BadName__init (sp_BadName__init K))
    (X_BadName : Dx K mg "BadName" (gad K "BadName") f_BadName__init ["name"])
    (T : Txt K mg) (D : Dn K mg "check_new_name" s_check_new_name p_check_new_name f fd) : FnOk P w K mg base (L2.CX P w) 5 f fd p_check_new_name (sp_check_new_name K) := by
  refine D.F.okX sc_check_new_name (fun vs H Q E h => ?_) (fun cdv A outer s' H vs Q E hr h => ?_)
  · obtain ⟨z, rfl, _⟩ := h
    rfl
  · obtain ⟨z, rfl, hz, h⟩ := h
    refine ⟨_, (pss_one (ps_if (pt_not (pt_val (pe_call G_is_name (hr.mono (by omega)) (by rfl) D_is_name.m D_is_name.F.kp D_is_name.b .nil pass0 (pa_cons (pv 0) pa_nil)))) (pss_one (ps_raise rfl (takes_of rfl rfl rfl rfl) (pmk_oex X_BadName.oex X_BadName.iC X_BadName.tI G_BadName__init (hr.mono (by omega)) D_BadName__init.b .nil pass0 (by rfl) X_BadName.g (pa_cons (pv 0) pa_nil)))) pss_nil)), ?_⟩
    walk_at "my sts"
    refine ⟨z, rfl, hz, fun H1 s1 => ?_⟩
    rcases h with ⟨e, k⟩ | ⟨e, k⟩
    · rw [e]
      walk_at "my sts"
      exact k _ s1
    · rw [e]
      walk_at "my sts"
      exact mkA X_BadName.oex (X_BadName.no "name" (by decide)) rfl fun d H' hd ed s2 => k d H' (s1.free hd) ed (s1.trans s2)
def sp_is_number (K : PySem.W.Frag) : Sp := fun vs H Q _ => ∃ (x : V) (lo hi : Int), vs = [x, .int lo, .int hi] ∧ ((∃ n, x = .int n ∧ ∀ H', Same H H' → Q (.bl (decide (lo ≤ n) && decide (n ≤ hi))) H') ∨ (∃ b, x = .bl b ∧ ∀ H', Same H H' → Q (.bl false) H'))
theorem ok_is_number {f : Addr} {fd : FuncData}
    (T : Txt K mg) (D : Dn K mg "is_number" s_is_number p_is_number f fd) : FnOk P w K mg base CX0 1 f fd p_is_number (sp_is_number K) := by
  refine D.F.ok sc_is_number (fun vs H Q E h => ?_) (fun cdv A outer s' H vs Q E hr h => ?_)
  · obtain ⟨x, lo, hi, rfl, _⟩ := h
    rfl
  · obtain ⟨x, lo, hi, rfl, k⟩ := h
    refine ⟨_, (pss_one (ps_ret (pe_and (pe_callB (call_isiK (K := K) rfl) (by rfl) T.b_isinstance (by decide +kernel) (pa_cons (pv 0) (pa_cons (pe_bltn (v := .ty "int") (by rfl) T.b_int (by decide +kernel) rfl) pa_nil))) (pe_and (pe_not (pe_callB (call_isiK (K := K) rfl) (by rfl) T.b_isinstance (by decide +kernel) (pa_cons (pv 0) (pa_cons (pe_bltn (v := .ty "bool") (by rfl) T.b_bool (by decide +kernel) rfl) pa_nil)))) (pe_one (pe_chain op_le op_le (pv 1) (pv 0) (pv 2))))))), ?_⟩
    rcases k with ⟨n, rfl, k⟩ | ⟨b, rfl, k⟩
    · walk_at "my sts"
      refine i_ite (fun h1 => ?_) fun h1 => ?_
      · walk_at "my sts"
        rw [h1, Bool.true_and] at k
        exact k _ (Same.refl _)
      · rw [h1, Bool.false_and] at k
        exact k _ (Same.refl _)
    · walk_at "my sts"
      exact k _ (Same.refl _)
def sp_BadNumber__init (K : PySem.W.Frag) : Sp := spInit1 "value" K
theorem ok_BadNumber__init {f : Addr} {fd : FuncData}
    {f_plain : Addr} {fd_plain : FuncData} (D_plain : Dn K mg "plain" s_plain p_plain f_plain fd_plain) (G_plain : FnOk P w K mg base CX0 2 f_plain fd_plain p_plain (sp_plain K))
    (T : Txt K mg) (D : Dm K "__init__" "BadNumber.__init__" s_BadNumber__init p_BadNumber__init f fd) : FnOk P w K mg base CX0 3 f fd p_BadNumber__init (sp_BadNumber__init K) := by
  refine D.F.ok sc_BadNumber__init (fun vs H Q E h => ?_) (fun cdv A outer s' H vs Q E hr h => ?_)
  · obtain ⟨a, C, v, rfl, _⟩ := h
    rfl
  · obtain ⟨a, C, v, rfl, hC, hno, ha, hv, k⟩ := h
    refine ⟨_, (pss_one (ps_ostK (K := K) rfl (pv 0) (pe_call G_plain (hr.mono (by omega)) (by rfl) D_plain.m D_plain.F.kp D_plain.b .nil pass0 (pa_cons (pv 1) pa_nil)))), ?_⟩
    refine i_ost ?_
    walk_at "my sts"
    refine ⟨v, rfl, hv, fun v' H1 pt s1 => ?_⟩
    walk_at "my sts"
    refine ost_first hC hno (s1 _ _ ha) fun dx hdx na => ?_
    refine k v' dx _ (s1.free hdx) upd_same (by rw [upd_ne na]; exact upd_same) ?_ fun b o nb hb => ?_
    · rcases pt with pt | ⟨p, xs, q, e, hp, e', hq⟩
      · exact .inl pt
      · refine .inr ⟨p, xs, q, e, hp, e', ?_⟩
        rw [upd_ne (at_ne (s1 _ _ ha) hq exo_tup), upd_ne (ne_of_none hq hdx)]
        exact hq
    · rw [upd_ne nb, upd_ne (ne_of_none (s1 _ _ hb) hdx)]
      exact s1 _ _ hb
def sp_check_number (K : PySem.W.Frag) : Sp := fun vs H Q E => ∃ (x : V) (lo hi : Int), vs = [x, .int lo, .int hi] ∧ ((∃ n, x = .int n ∧ lo ≤ n ∧ n ≤ hi ∧ ∀ H', Same H H' → Q .non H') ∨
  (((∃ n, x = .int n ∧ ¬ (lo ≤ n ∧ n ≤ hi)) ∨ ∃ b, x = .bl b) ∧ ∀ d H', H d = none → H' d = some (.xd [("value", x)]) → Same H H' → E (.ref (gad K "BadNumber")) (some d) H'))
theorem ok_check_number {f : Addr} {fd : FuncData}
    {f_is_number : Addr} {fd_is_number : FuncData} (D_is_number : Dn K mg "is_number" s_is_number p_is_number f_is_number fd_is_number) (G_is_number : FnOk P w K mg base CX0 1 f_is_number fd_is_number p_is_number (sp_is_number K))
    {f_BadNumber__init : Addr} {fd_BadNumber__init : FuncData} (D_BadNumber__init : Dm K "__init__" "BadNumber.__init__" s_BadNumber__init p_BadNumber__init f_BadNumber__init fd_BadNumber__init) (G_BadNumber__init : FnOk P w K mg base CX0 3 f_BadNumber__init fd_BadNumber__init p_BadNumber__init (sp_BadNumber__init K))
    (X_BadNumber : Dx K mg "BadNumber" (gad K "BadNumber") f_BadNumber__init ["value"])
    (T : Txt K mg) (D : Dn K mg "check_number" s_check_number p_check_number f fd) : FnOk P w K mg base (L2.CX P w) 5 f fd p_check_number (sp_check_number K) := by
  refine D.F.okX sc_check_number (fun vs H Q E h => ?_) (fun cdv A outer s' H vs Q E hr h => ?_)
  · obtain ⟨x, lo, hi, rfl, _⟩ := h
    rfl
  · obtain ⟨x, lo, hi, rfl, h⟩ := h
    refine ⟨_, (pss_one (ps_if (pt_not (pt_val (pe_call G_is_number (hr.mono (by omega)) (by rfl) D_is_number.m D_is_number.F.kp D_is_number.b .nil pass0 (pa_cons (pv 0) (pa_cons (pv 1) (pa_cons (pv 2) pa_nil)))))) (pss_one (ps_raise rfl (takes_of rfl rfl rfl rfl) (pmk_oex X_BadNumber.oex X_BadNumber.iC X_BadNumber.tI G_BadNumber__init (hr.mono (by omega)) D_BadNumber__init.b .nil pass0 (by rfl) X_BadNumber.g (pa_cons (pv 0) pa_nil)))) pss_nil)), ?_⟩
    walk_at "my sts"
    rcases h with ⟨n, rfl, h1, h2, k⟩ | ⟨h, k⟩
    · refine ⟨.int n, lo, hi, rfl, .inl ⟨n, rfl, fun H1 s1 => ?_⟩⟩
      rw [decide_eq_true h1, decide_eq_true h2]
      walk_at "my sts"
      exact k _ s1
    · rcases h with ⟨n, rfl, hn⟩ | ⟨b, rfl⟩
      · refine ⟨.int n, lo, hi, rfl, .inl ⟨n, rfl, fun H1 s1 => ?_⟩⟩
        have : (decide (lo ≤ n) && decide (n ≤ hi)) = false := by
          rw [← Bool.decide_and]
          exact decide_eq_false hn
        rw [this]
        walk_at "my sts"
        exact mkA X_BadNumber.oex (X_BadNumber.no "value" (by decide)) rfl fun d H' hd ed s2 => k d H' (s1.free hd) ed (s1.trans s2)
      · refine ⟨.bl b, lo, hi, rfl, .inr ⟨b, rfl, fun H1 s1 => ?_⟩⟩
        walk_at "my sts"
        exact mkA X_BadNumber.oex (X_BadNumber.no "value" (by decide)) rfl fun d H' hd ed s2 => k d H' (s1.free hd) ed (s1.trans s2)
def sp_Repeated__init (K : PySem.W.Frag) : Sp := spInit1 "value" K
theorem ok_Repeated__init {f : Addr} {fd : FuncData}
    {f_plain : Addr} {fd_plain : FuncData} (D_plain : Dn K mg "plain" s_plain p_plain f_plain fd_plain) (G_plain : FnOk P w K mg base CX0 2 f_plain fd_plain p_plain (sp_plain K))
    (T : Txt K mg) (D : Dm K "__init__" "Repeated.__init__" s_Repeated__init p_Repeated__init f fd) : FnOk P w K mg base CX0 3 f fd p_Repeated__init (sp_Repeated__init K) := by
  refine D.F.ok sc_Repeated__init (fun vs H Q E h => ?_) (fun cdv A outer s' H vs Q E hr h => ?_)
  · obtain ⟨a, C, v, rfl, _⟩ := h
    rfl
  · obtain ⟨a, C, v, rfl, hC, hno, ha, hv, k⟩ := h
    refine ⟨_, (pss_one (ps_ostK (K := K) rfl (pv 0) (pe_call G_plain (hr.mono (by omega)) (by rfl) D_plain.m D_plain.F.kp D_plain.b .nil pass0 (pa_cons (pv 1) pa_nil)))), ?_⟩
    refine i_ost ?_
    walk_at "my sts"
    refine ⟨v, rfl, hv, fun v' H1 pt s1 => ?_⟩
    walk_at "my sts"
    refine ost_first hC hno (s1 _ _ ha) fun dx hdx na => ?_
    refine k v' dx _ (s1.free hdx) upd_same (by rw [upd_ne na]; exact upd_same) ?_ fun b o nb hb => ?_
    · rcases pt with pt | ⟨p, xs, q, e, hp, e', hq⟩
      · exact .inl pt
      · refine .inr ⟨p, xs, q, e, hp, e', ?_⟩
        rw [upd_ne (at_ne (s1 _ _ ha) hq exo_tup), upd_ne (ne_of_none hq hdx)]
        exact hq
    · rw [upd_ne nb, upd_ne (ne_of_none (s1 _ _ hb) hdx)]
      exact s1 _ _ hb
/-- the first fault of folk: class, attribute, value -/
def folkF : List Str → List (Str × Dt) → Option (Str × Str × V)
  | _, [] => none
  | seen, (a, d) :: r => if nameB a = true then (if inR 0 9999 d = true then (if a ∈ seen then some ("Repeated", "value", .str a) else folkF (seen ++ [a]) r) else some ("BadNumber", "value", atV d)) else some ("BadName", "name", .str a)
def folkD (fs : List (Str × Dt)) : Dt := .seq (fs.map fun q => .seq [.str q.1, q.2])
def kvf (l : List (Str × Dt)) : List (Key × V) := l.map fun q => (Sum.inr q.1, V.int (numI q.2))
theorem kvf_mem {l : List (Str × Dt)} {a : Str} : (Sum.inr a : Key) ∈ (kvf l).map (·.1) ↔ a ∈ l.map (·.1) := by
  unfold kvf
  rw [List.map_map]
  constructor
  · intro h
    obtain ⟨q, hq, e⟩ := List.mem_map.mp h
    have e' : (Sum.inr q.1 : Key) = Sum.inr a := e
    exact List.mem_map.mpr ⟨q, hq, Sum.inr.inj e'⟩
  · intro h
    obtain ⟨q, hq, e⟩ := List.mem_map.mp h
    exact List.mem_map.mpr ⟨q, hq, congrArg Sum.inr e⟩
theorem kvf_val {l : List (Str × Dt)} {a : Str} : (valV (kvf l) (Sum.inr a)).isSome = decide (a ∈ l.map (·.1)) := by
  by_cases h : a ∈ l.map (·.1)
  · rw [valV_some (kvf_mem.mpr h), decide_eq_true h]
  · rw [valV_none fun e => h (kvf_mem.mp e), decide_eq_false h]
    rfl
def sp_examined_folk (K : PySem.W.Frag) : Sp := fun vs H Q E => ∃ (P : Addr → Prop) (tp : Addr) (ts : List Str) (fs : List (Str × Dt)) (v : V), vs = [.ref tp, v] ∧ Rd H tp (.tup (ts.map V.str)) ∧ Rp P H 2 (folkD fs) v ∧ (∀ q ∈ fs, q.1.length ≤ 1000 ∧ isNum q.2 = true) ∧ fs.length ≤ 100 ∧
  (folkF ts fs = none → ∀ q rows H', H q = none → Same H H' → H' q = some (.tup rows) → Rows H' rows (fs.map fun q => frow (q.1, numI q.2)) → Q (.ref q) H') ∧
  (∀ c f x, folkF ts fs = some (c, f, x) → ∀ d H', H d = none → H' d = some (.xd [(f, x)]) → Same H H' → E (.ref (gad K c)) (some d) H')
theorem ok_examined_folk {f : Addr} {fd : FuncData}
    {f_check_new_name : Addr} {fd_check_new_name : FuncData} (D_check_new_name : Dn K mg "check_new_name" s_check_new_name p_check_new_name f_check_new_name fd_check_new_name) (G_check_new_name : FnOk P w K mg base (L2.CX P w) 5 f_check_new_name fd_check_new_name p_check_new_name (sp_check_new_name K))
    {f_check_number : Addr} {fd_check_number : FuncData} (D_check_number : Dn K mg "check_number" s_check_number p_check_number f_check_number fd_check_number) (G_check_number : FnOk P w K mg base (L2.CX P w) 5 f_check_number fd_check_number p_check_number (sp_check_number K))
    {f_Repeated__init : Addr} {fd_Repeated__init : FuncData} (D_Repeated__init : Dm K "__init__" "Repeated.__init__" s_Repeated__init p_Repeated__init f_Repeated__init fd_Repeated__init) (G_Repeated__init : FnOk P w K mg base CX0 3 f_Repeated__init fd_Repeated__init p_Repeated__init (sp_Repeated__init K))
    (X_Repeated : Dx K mg "Repeated" (gad K "Repeated") f_Repeated__init ["value"])
    (T : Txt K mg) (D : Dn K mg "examined_folk" s_examined_folk p_examined_folk f fd) : FnOk P w K mg base (L2.CX P w) 6 f fd p_examined_folk (sp_examined_folk K) := by
  refine D.F.okX sc_examined_folk (fun vs H Q E h => ?_) (fun cdv A outer s' H vs Q E hr h => ?_)
  · obtain ⟨_, _, _, _, v, rfl, _⟩ := h
    rfl
  · obtain ⟨P0, tp, ts, fs, v, rfl, htp, hr0, hat, hc, k1, k2⟩ := h
    obtain ⟨p, vs, rfl, hp, hl, hz, hrow⟩ := rp_seq hr0
    rw [List.length_map] at hl
    refine ⟨_, (pss_cons (ps_set (i := 2) sc_examined_folk.nd rfl (Or.inl rfl) pe_dnewK)
  (pss_cons (ps_for (passes_of rfl) rfl (pi_any (K := K) rfl (pv 1)) (pg_any rfl (pgs_cons (pg_name (i := 3) sc_examined_folk.nd rfl (Or.inl rfl)) (pgs_cons (pg_name (i := 4) sc_examined_folk.nd rfl (Or.inl rfl)) pgs_nil)))
   (pss_cons (ps_expr (pe_call G_check_new_name (hr.mono (by omega)) (by rfl) D_check_new_name.m D_check_new_name.F.kp D_check_new_name.b .nil (passes_call (takes_of rfl rfl rfl rfl) (fun _ _ _ _ h => h)) (pa_cons (pv 3) pa_nil)))
  (pss_cons (ps_expr (pe_call G_check_number (hr.mono (by omega)) (by rfl) D_check_number.m D_check_number.F.kp D_check_number.b .nil (passes_call (takes_of rfl rfl rfl rfl) (fun _ _ _ _ h => h)) (pa_cons (pv 4) (pa_cons pe_int (pa_cons (pe_globE (by rfl) T.c_MOST_NUMBER) pa_nil)))))
  (pss_cons (ps_if (PW.pt (pw_or (pt_cmpR (op_in_seqK (K := K) rfl) (pv 3) (pv 0) (by rfl)) (pw_or1 (pt_cmp (pc_din (hu_of hr) (pv 3) (pv 2)))))) (pss_one (ps_raise rfl (takes_of rfl rfl rfl rfl) (pmk_oex X_Repeated.oex X_Repeated.iC X_Repeated.tI G_Repeated__init (hr.mono (by omega)) D_Repeated__init.b .nil pass0 (by rfl) X_Repeated.g (pa_cons (pv 3) pa_nil)))) pss_nil)
  (pss_one (ps_dput (hu_of hr) (pv 2) (pe_callTy SkE.call_str_str (by rfl) T.b_str (by decide +kernel) (pa_cons (pv 3) pa_nil)) (pe_callTy n_int (by rfl) T.b_int (by decide +kernel) (pa_cons (pv 4) pa_nil)) rfl))))))
  (pss_one (ps_ret (pe_callTy (n_tupleK (K := K) rfl) (by rfl) T.b_tuple (by decide +kernel) (pa_cons (pe_lock (pe_lc (own := [("name", 3), ("need", 4)]) rfl sc_examined_folk.nd (pi_items (pv 2)) (blkOk_by (own := [("name", 3), ("need", 4)]) (N := n_examined_folk) (sc := defScope s_examined_folk) (by decide +kernel)) (fun _ _ _ _ _ => (by refine pg_tupK (K := K) (n := 2) (t := (gCons (gName 3) (gCons (gName 4) gNil))) rfl rfl ?_; refine pgs_cons (pg_name (i := 3) sc_examined_folk.nd rfl (Or.inl rfl)) ?_; refine pgs_cons (pg_name (i := 4) sc_examined_folk.nd rfl (Or.inl rfl)) ?_; exact pgs_nil)) (fun _ _ _ _ _ => pts_nil) (fun _ _ _ _ _ => (pe_tup (pa_cons (pv 3) (pa_cons (pv 4) pa_nil)))))) pa_nil)))))), ?_⟩
    obtain ⟨H1, hH1⟩ : ∃ H1, H1 = H := ⟨_, rfl⟩
    have s1 : Same H H1 := by rw [hH1]; exact Same.refl _
    rw [← hH1]
    have hp1 : H1 p = some (.lst vs) ∨ H1 p = some (.tup vs) := hp.imp (s1 _ _) (s1 _ _)
    have htp1 : Rd H1 tp (.tup (ts.map V.str)) := rd_same s1 htp
    walk_at "my sts"
    refine fun Da hD => ?_
    walk_at "my sts"
    refine fa (xs := vs) rfl (hp1.imp (fun h => same_new hD _ _ h) (fun h => same_new hD _ _ h)) (fun i σ' H' => Same H1 H' ∧ (∃ x y, σ' = [some (.ref tp), some (.ref p), some (.ref Da), x, y]) ∧ H' Da = some (.dK (kvf (fs.take i))) ∧ folkF ts fs = folkF (ts ++ (fs.take i).map (·.1)) (fs.drop i) ∧ ((fs.take i).map (·.1)).Nodup)
      ⟨same_new hD, ⟨none, none, rfl⟩, upd_same, by simp, List.nodup_nil⟩ ?_ ?_ ?_
    · rintro i σ' H' u ⟨g, _⟩ hu
      rw [upd_ne (fun e => by rw [e] at hp1; rw [hD] at hp1; rcases hp1 with h | h <;> cases h)] at hu
      exact g _ _ hu
    · rintro i x σ' H' hx ⟨g, ⟨x0, y0, rfl⟩, gd, gf, gn⟩
      have hi := (List.getElem?_eq_some_iff.mp hx).1
      have hi' : i < fs.length := by omega
      obtain ⟨⟨a, d⟩, hq⟩ : ∃ q, fs[i]? = some q := ⟨_, List.getElem?_eq_getElem hi'⟩
      have hmem := hat _ (List.mem_of_getElem? hq)
      have dr : fs.drop i = (a, d) :: fs.drop (i + 1) := by
        rw [List.drop_eq_getElem_cons hi']
        rw [List.getElem?_eq_getElem hi'] at hq
        rw [Option.some.inj hq]
      have tk : fs.take (i + 1) = fs.take i ++ [(a, d)] := by
        rw [List.take_add_one, hq]
        rfl
      rw [dr] at gf
      have hd1 : isAt d = true := by
        cases d with
        | seq _ => exact Bool.noConfusion (show false = true from hmem.2)
        | _ => rfl
      obtain ⟨q, rfl, hrw⟩ := rp_row (hrow i (.seq [.str a, d]) x (by rw [List.getElem?_map, hq]; rfl) hx) (fun d' hd' => by
        rcases List.mem_cons.mp hd' with rfl | hd'
        · rfl
        · rw [List.mem_singleton.mp hd']
          exact hd1)
      have sH := s1.trans g
      refine gany2 (x := .str a) (y := atV d) (hrw.imp (sH _ _) (sH _ _)) ?_
      walk_at "my sts"
      refine ⟨a, rfl, hmem.1, ?_⟩
      cases ha : nameB a with
      | false =>
        refine .inr ⟨rfl, fun e H2 he ed s2 => k2 "BadName" "name" (.str a) ?_ e H2 (sH.free he) ed (sH.trans s2)⟩
        rw [gf]
        unfold folkF
        rw [if_neg (by rw [ha]; decide)]
      | true =>
        refine .inl ⟨rfl, fun H2 s2 => ?_⟩
        have sH2 := sH.trans s2
        walk_at "my sts"
        refine ⟨_, 0, 9999, rfl, ?_⟩
        cases hn : inR 0 9999 d with
        | false =>
          have ef : folkF ts fs = some (("BadNumber" : Str), ("value" : Str), atV d) := by
            rw [gf]
            unfold folkF
            rw [if_pos ha, if_neg (by rw [hn]; decide)]
          cases d with
          | int n =>
            refine .inr ⟨.inl ⟨n, rfl, fun h => ?_⟩, fun e H3 he ed s3 => k2 _ _ _ ef e H3 (sH2.free he) ed (sH2.trans s3)⟩
            have : (decide (0 ≤ n) && decide (n ≤ 9999)) = false := hn
            rw [decide_eq_true h.1, decide_eq_true h.2] at this
            cases this
          | bl b => exact .inr ⟨.inr ⟨b, rfl⟩, fun e H3 he ed s3 => k2 _ _ _ ef e H3 (sH2.free he) ed (sH2.trans s3)⟩
          | str _ => exact Bool.noConfusion (show false = true from hmem.2)
          | seq _ => exact Bool.noConfusion (show false = true from hmem.2)
        | true =>
          cases d with
          | int n =>
            have hn' : (decide (0 ≤ n) && decide (n ≤ 9999)) = true := hn
            rw [Bool.and_eq_true] at hn'
            refine .inl ⟨n, rfl, of_decide_eq_true hn'.1, of_decide_eq_true hn'.2, fun H3 s3 => ?_⟩
            have g3 := s2.trans s3
            have sH3 := sH.trans g3
            have gd3 := g3 _ _ gd
            walk_at "my sts"
            have rep : a ∈ ts ∨ a ∈ (fs.take i).map (·.1) → MkEnd (gad K "Repeated") (sp_Repeated__init K) [] (fun cls d H' => E cls d H') [V.str a] H3 := fun h => by
              refine mkA X_Repeated.oex (X_Repeated.no "value" (by decide)) rfl fun e H4 he ed s4 => k2 "Repeated" "value" (.str a) ?_ e H4 (sH3.free he) ed (sH3.trans s4)
              rw [gf]
              unfold folkF
              rw [if_pos ha, if_pos hn, if_pos (List.mem_append.mpr h)]
            refine i_inStrT (rd_sq (rd_same sH3 htp)) ?_
            walk_at "my sts"
            refine i_ite (fun h => ?_) fun h0 => ?_
            · walk_at "my sts"
              exact rep (.inl (of_decide_eq_true h))
            have h0 := of_decide_eq_false h0
            walk_at "my sts"
            refine dinK gd3 ?_
            rw [kvf_val]
            walk_at "my sts"
            refine i_ite (fun h => ?_) fun h => ?_
            · have h := of_decide_eq_true h
              walk_at "my sts"
              exact rep (.inr h)
            · have h := of_decide_eq_false h
              walk_at "my sts"
              refine .inl ⟨n, rfl, ?_⟩
              walk_at "my sts"
              refine ⟨_, rfl, ?_⟩
              refine dputK gd3 ?_ ?_
              · unfold kvf
                rw [List.length_map, List.length_take]
                omega
              · rw [putK_new fun e => h (kvf_mem.mp e)]
                refine ⟨same_mut (g.trans g3) hD, ⟨_, _, rfl⟩, ?_, ?_, ?_⟩
                · rw [upd_same, tk]
                  unfold kvf
                  rw [List.map_append]
                  rfl
                · rw [gf, tk, List.map_append]
                  conv => lhs; unfold folkF
                  rw [if_pos ha, if_pos hn, if_neg fun e => (List.mem_append.mp e).elim h0 h, List.append_assoc]
                  rfl
                · rw [tk, List.map_append]
                  refine List.nodup_append.mpr ⟨gn, List.nodup_cons.mpr ⟨List.not_mem_nil, List.nodup_nil⟩, fun x hx y hy e => ?_⟩
                  rw [List.mem_singleton.mp hy] at e
                  exact h (by rw [← show x = a from e]; exact hx)
          | bl b => cases hn
          | str _ => cases hn
          | seq _ => cases hn
    · rintro σ' H' ⟨g, ⟨x0, y0, rfl⟩, gd, gf, gn⟩
      rw [hl, List.take_length] at gd
      rw [hl, List.drop_length] at gf
      have k1 := k1 gf
      walk_at "my sts"
      refine i_lockE gd fun od => ?_
      have lockS : ∀ {a : Addr} {u : HO}, H1 a = some u → upd H' Da (.frz od (.dK (kvf fs))) a = some u := fun {a u} h => by
        rw [upd_ne (ne_of_none h hD)]
        exact g _ _ h
      walk_at "my sts"
      refine ci upd_same (fun Dl i H2 => Same (upd H' Da (.frz od (.dK (kvf fs)))) H2 ∧ ∃ acc, H2 Dl = some (.lst acc) ∧ Rows H2 acc ((fs.take i).map fun q => frow (q.1, numI q.2))) (fun Dl hDl => ⟨same_new hDl, [], upd_same, rfl⟩) (fun Dl i H2 hDl h => h.1 _ _ upd_same) ?_ ?_
      · rintro Dl i T kv H2 hDl hkv ⟨g2, acc, g3, g4⟩ hT
        unfold kvf at hkv
        rw [List.getElem?_map] at hkv
        obtain ⟨q, hq, rfl⟩ := Option.map_eq_some_iff.mp hkv
        have nT : T ≠ Dl := ne_none g3 hT
        refine ⟨T, _, rfl, sqT upd_same, rfl, _, _, rfl, _, _, rfl, rfl, rfl, ?_⟩
        walk_at "my sts"
        refine tup_end (show 2 ≤ 100000 by decide) fun t H3 ht s3 h3 => ?_
        have g3' := s3 _ _ (show upd H2 T (.tup [kV (Sum.inr q.1), V.int (numI q.2)]) Dl = _ by rw [upd_ne (Ne.symm nT)]; exact g3)
        have sm : Same H2 H3 := (same_new hT).trans s3
        have al : acc.length ≤ 1000 := by
          have := g4.len
          rw [List.length_map, List.length_take] at this
          omega
        refine ⟨acc, g3', Nat.lt_of_le_of_lt al (by decide), same_mut (g2.trans sm) hDl, _, upd_same, ?_⟩
        rw [List.take_add_one, hq, List.map_append]
        exact ((g4.keep (Tk.same sm)).app (Rows.one h3)).keep (Tk.lst g3')
      · rintro Dl H2 hDl ⟨g2, acc, g3, g4⟩
        have lk : (kvf fs).length = fs.length := List.length_map _
        rw [lk, List.take_length] at g4
        refine ⟨g2 _ _ upd_same, ?_⟩
        have nD : Dl ≠ Da := ne_none upd_same hDl
        have dD : H1 Dl = none := by
          cases e : H1 Dl with
          | none => rfl
          | some u =>
            rw [lockS e] at hDl
            cases hDl
        walk_at "my sts"
        refine tuple_end (sqL (xs := acc) (by rw [upd_ne nD]; exact g3)) fun q H3 hq s3 h3 => ?_
        have hq' : H2 q = none := by
          by_cases e : q = Da
          · rw [e, upd_same] at hq
            cases hq
          · rw [upd_ne e] at hq
            exact hq
        have sA : Same H1 H3 := fun b u hb => by
          refine s3 _ _ ?_
          rw [upd_ne (ne_of_none hb hD)]
          exact g2 _ _ (lockS hb)
        have sB : Same H1 H2 := fun b u hb => g2 _ _ (lockS hb)
        have tk : Tk H2 H3 := fun t d e => s3 _ _ (by
          rw [upd_ne fun z => by rw [z, g2 _ _ upd_same] at e; cases e]
          exact e)
        exact k1 q acc H3 (s1.free (sB.free hq')) (s1.trans sA) h3 (g4.keep tk)
def sp_UnknownFolk__init (K : PySem.W.Frag) : Sp := spInit1 "name" K
theorem ok_UnknownFolk__init {f : Addr} {fd : FuncData}
    {f_plain : Addr} {fd_plain : FuncData} (D_plain : Dn K mg "plain" s_plain p_plain f_plain fd_plain) (G_plain : FnOk P w K mg base CX0 2 f_plain fd_plain p_plain (sp_plain K))
    (T : Txt K mg) (D : Dm K "__init__" "UnknownFolk.__init__" s_UnknownFolk__init p_UnknownFolk__init f fd) : FnOk P w K mg base CX0 3 f fd p_UnknownFolk__init (sp_UnknownFolk__init K) := by
  refine D.F.ok sc_UnknownFolk__init (fun vs H Q E h => ?_) (fun cdv A outer s' H vs Q E hr h => ?_)
  · obtain ⟨a, C, v, rfl, _⟩ := h
    rfl
  · obtain ⟨a, C, v, rfl, hC, hno, ha, hv, k⟩ := h
    refine ⟨_, (pss_one (ps_ostK (K := K) rfl (pv 0) (pe_call G_plain (hr.mono (by omega)) (by rfl) D_plain.m D_plain.F.kp D_plain.b .nil pass0 (pa_cons (pv 1) pa_nil)))), ?_⟩
    refine i_ost ?_
    walk_at "my sts"
    refine ⟨v, rfl, hv, fun v' H1 pt s1 => ?_⟩
    walk_at "my sts"
    refine ost_first hC hno (s1 _ _ ha) fun dx hdx na => ?_
    refine k v' dx _ (s1.free hdx) upd_same (by rw [upd_ne na]; exact upd_same) ?_ fun b o nb hb => ?_
    · rcases pt with pt | ⟨p, xs, q, e, hp, e', hq⟩
      · exact .inl pt
      · refine .inr ⟨p, xs, q, e, hp, e', ?_⟩
        rw [upd_ne (at_ne (s1 _ _ ha) hq exo_tup), upd_ne (ne_of_none hq hdx)]
        exact hq
    · rw [upd_ne nb, upd_ne (ne_of_none (s1 _ _ hb) hdx)]
      exact s1 _ _ hb
def sp_place_in (K : PySem.W.Frag) : Sp := fun vs H Q E => ∃ (p : Addr) (ns : List Str) (z : Str), vs = [.ref p, .str z] ∧ Nt H p ns ∧ ((z ∈ ns ∧ ∀ H', Same H H' → Q (.int (plc ns z : Nat)) H') ∨
  (z ∉ ns ∧ ∀ d H', H d = none → H' d = some (.xd [("name", .str z)]) → Same H H' → E (.ref (gad K "UnknownFolk")) (some d) H'))
theorem ok_place_in {f : Addr} {fd : FuncData}
    {f_UnknownFolk__init : Addr} {fd_UnknownFolk__init : FuncData} (D_UnknownFolk__init : Dm K "__init__" "UnknownFolk.__init__" s_UnknownFolk__init p_UnknownFolk__init f_UnknownFolk__init fd_UnknownFolk__init) (G_UnknownFolk__init : FnOk P w K mg base CX0 3 f_UnknownFolk__init fd_UnknownFolk__init p_UnknownFolk__init (sp_UnknownFolk__init K))
    (X_UnknownFolk : Dx K mg "UnknownFolk" (gad K "UnknownFolk") f_UnknownFolk__init ["name"])
    (T : Txt K mg) (D : Dn K mg "place_in" s_place_in p_place_in f fd) : FnOk P w K mg base (L2.CX P w) 5 f fd p_place_in (sp_place_in K) := by
  refine D.F.okX sc_place_in (fun vs H Q E h => ?_) (fun cdv A outer s' H vs Q E hr h => ?_)
  · obtain ⟨p, ns, z, rfl, _⟩ := h
    rfl
  · obtain ⟨p, ns, z, rfl, hp, h⟩ := h
    refine ⟨_, (pss_cons (ps_if (pt_cmpR (op_notIn_seqK (K := K) rfl) (pv 1) (pv 0) (by rfl)) (pss_one (ps_raise rfl (takes_of rfl rfl rfl rfl) (pmk_oex X_UnknownFolk.oex X_UnknownFolk.iC X_UnknownFolk.tI G_UnknownFolk__init (hr.mono (by omega)) D_UnknownFolk__init.b .nil pass0 (by rfl) X_UnknownFolk.g (pa_cons (pv 1) pa_nil)))) pss_nil)
  (pss_one (ps_ret (pe_bmF PySem.F.plainAttrs_tuple PySem.F.slot_tuple_index PySem.F.type_tuple_index (mt_tupIdxK (K := K) rfl) (pv 0) (pa_cons (pv 1) pa_nil))))), ?_⟩
    walk_at "my sts"
    refine i_notInStrT hp.sq ?_
    walk_at "my sts"
    rcases h with ⟨e, k⟩ | ⟨e, k⟩
    · rw [decide_eq_true e]
      walk_at "my sts"
      refine hp.bm ?_
      walk_at "my sts"
      refine i_tupIdx hp.sq e ?_
      exact k _ (Same.refl _)
    · rw [decide_eq_false e]
      walk_at "my sts"
      exact mkA X_UnknownFolk.oex (X_UnknownFolk.no "name" (by decide)) rfl fun d H' hd ed s2 => k d H' hd ed s2
def sp_SelfWatch__init (K : PySem.W.Frag) : Sp := spInit1 "name" K
theorem ok_SelfWatch__init {f : Addr} {fd : FuncData}
    {f_plain : Addr} {fd_plain : FuncData} (D_plain : Dn K mg "plain" s_plain p_plain f_plain fd_plain) (G_plain : FnOk P w K mg base CX0 2 f_plain fd_plain p_plain (sp_plain K))
    (T : Txt K mg) (D : Dm K "__init__" "SelfWatch.__init__" s_SelfWatch__init p_SelfWatch__init f fd) : FnOk P w K mg base CX0 3 f fd p_SelfWatch__init (sp_SelfWatch__init K) := by
  refine D.F.ok sc_SelfWatch__init (fun vs H Q E h => ?_) (fun cdv A outer s' H vs Q E hr h => ?_)
  · obtain ⟨a, C, v, rfl, _⟩ := h
    rfl
  · obtain ⟨a, C, v, rfl, hC, hno, ha, hv, k⟩ := h
    refine ⟨_, (pss_one (ps_ostK (K := K) rfl (pv 0) (pe_call G_plain (hr.mono (by omega)) (by rfl) D_plain.m D_plain.F.kp D_plain.b .nil pass0 (pa_cons (pv 1) pa_nil)))), ?_⟩
    refine i_ost ?_
    walk_at "my sts"
    refine ⟨v, rfl, hv, fun v' H1 pt s1 => ?_⟩
    walk_at "my sts"
    refine ost_first hC hno (s1 _ _ ha) fun dx hdx na => ?_
    refine k v' dx _ (s1.free hdx) upd_same (by rw [upd_ne na]; exact upd_same) ?_ fun b o nb hb => ?_
    · rcases pt with pt | ⟨p, xs, q, e, hp, e', hq⟩
      · exact .inl pt
      · refine .inr ⟨p, xs, q, e, hp, e', ?_⟩
        rw [upd_ne (at_ne (s1 _ _ ha) hq exo_tup), upd_ne (ne_of_none hq hdx)]
        exact hq
    · rw [upd_ne nb, upd_ne (ne_of_none (s1 _ _ hb) hdx)]
      exact s1 _ _ hb
def sp_BorderWatch__init (K : PySem.W.Frag) : Sp := spInit2 "watcher" "watched" K
theorem ok_BorderWatch__init {f : Addr} {fd : FuncData}
    {f_plain : Addr} {fd_plain : FuncData} (D_plain : Dn K mg "plain" s_plain p_plain f_plain fd_plain) (G_plain : FnOk P w K mg base CX0 2 f_plain fd_plain p_plain (sp_plain K))
    (T : Txt K mg) (D : Dm K "__init__" "BorderWatch.__init__" s_BorderWatch__init p_BorderWatch__init f fd) : FnOk P w K mg base CX0 3 f fd p_BorderWatch__init (sp_BorderWatch__init K) := by
  refine D.F.ok sc_BorderWatch__init (fun vs H Q E h => ?_) (fun cdv A outer s' H vs Q E hr h => ?_)
  · obtain ⟨a, C, v, u, rfl, _⟩ := h
    rfl
  · obtain ⟨a, C, v, u, rfl, hC, hf, hg, ha, hv, hu, k⟩ := h
    refine ⟨_, (pss_cons (ps_ostK (K := K) rfl (pv 0) (pe_call G_plain (hr.mono (by omega)) (by rfl) D_plain.m D_plain.F.kp D_plain.b .nil pass0 (pa_cons (pv 1) pa_nil)))
  (pss_one (ps_ostK (K := K) rfl (pv 0) (pe_call G_plain (hr.mono (by omega)) (by rfl) D_plain.m D_plain.F.kp D_plain.b .nil pass0 (pa_cons (pv 2) pa_nil))))), ?_⟩
    walk_at "my sts"
    refine i_ost ?_
    walk_at "my sts"
    refine ⟨v, rfl, .inl hv, fun v' H1 pt s1 => ?_⟩
    rcases pt with ⟨_, rfl⟩ | ⟨_, _, _, rfl, _⟩
    case inr => exact Bool.noConfusion hv
    walk_at "my sts"
    refine ost_first hC hf (s1 _ _ ha) fun dx hdx na => ?_
    refine i_ost ?_
    walk_at "my sts"
    refine ⟨u, rfl, .inl hu, fun u' H2 pt s2 => ?_⟩
    rcases pt with ⟨_, rfl⟩ | ⟨_, _, _, rfl, _⟩
    case inr => exact Bool.noConfusion hu
    walk_at "my sts"
    have e2 := s2 _ _ (show upd (upd H1 dx (exd dx [("watcher", v')])) a (exo a C (some dx)) a = _ from upd_same)
    have d2 := s2 _ _ (show upd (upd H1 dx (exd dx [("watcher", v')])) a (exo a C (some dx)) dx = _ by rw [upd_ne na]; exact upd_same)
    refine ost_next hC hg e2 d2 (by show 1 ≤ 900; decide) ?_
    refine k dx _ (s1.free hdx) ?_ upd_same fun b o nb hb => ?_
    · rw [upd_ne (Ne.symm na)]
      exact e2
    · have hb1 := s1 _ _ hb
      rw [upd_ne (ne_of_none hb1 hdx)]
      refine s2 _ _ ?_
      rw [upd_ne nb, upd_ne (ne_of_none hb1 hdx)]
      exact hb1
inductive Flt where
  | at (c f : Str) (x : V)
  | rep (a b : Str)
/-- the first fault of watches -/
def watchF (ns : List Str) : List (Str × Str) → List (Str × Str × Dt) → Option Flt
  | _, [] => none
  | seen, (a, b, d) :: r => if a ∈ ns then (if b ∈ ns then (if inR 1 9999 d = true then (if a = b then some (.at "SelfWatch" "name" (.str a)) else if (a, b) ∈ seen then some (.rep a b) else watchF ns (seen ++ [(a, b)]) r) else some (.at "BadNumber" "value" (atV d))) else some (.at "UnknownFolk" "name" (.str b))) else some (.at "UnknownFolk" "name" (.str a))
def watchD (ws : List (Str × Str × Dt)) : Dt := .seq (ws.map fun t => .seq [.str t.1, .str t.2.1, t.2.2])
def kW (ns : List Str) (a b : Str) : List Key := [Sum.inl ((plc ns b : Nat) : Int), Sum.inl ((plc ns a : Nat) : Int)]
def kvw (ns : List Str) (l : List (Str × Str × Dt)) : List (List Key × V) := l.map fun t => (kW ns t.1 t.2.1, V.int (numI t.2.2))
theorem plc_inj {ns : List Str} {a b : Str} (ha : a ∈ ns) (hb : b ∈ ns) (e : plc ns a = plc ns b) : a = b := by
  have h := plc_at ha
  rw [e, plc_at hb] at h
  exact (Option.some.inj h).symm
theorem kW_inj {ns : List Str} {a b c d : Str} (ha : a ∈ ns) (hb : b ∈ ns) (hc : c ∈ ns) (hd : d ∈ ns) (e : kW ns a b = kW ns c d) : a = c ∧ b = d := by
  unfold kW at e
  injection e with e1 e2
  injection e2 with e2 _
  have e1 := Sum.inl.inj e1
  have e2 := Sum.inl.inj e2
  exact ⟨plc_inj ha hc (by omega), plc_inj hb hd (by omega)⟩
theorem kvw_val {ns : List Str} {l : List (Str × Str × Dt)} {a b : Str} (ha : a ∈ ns) (hb : b ∈ ns) (hl : ∀ t ∈ l, t.1 ∈ ns ∧ t.2.1 ∈ ns) : (valV (kvw ns l) (kW ns a b)).isSome = decide ((a, b) ∈ l.map fun t => (t.1, t.2.1)) := by
  have key : kW ns a b ∈ (kvw ns l).map (·.1) ↔ (a, b) ∈ l.map fun t => (t.1, t.2.1) := by
    unfold kvw
    rw [List.map_map]
    constructor
    · intro h
      obtain ⟨t, ht, e⟩ := List.mem_map.mp h
      obtain ⟨e1, e2⟩ := kW_inj (hl t ht).1 (hl t ht).2 ha hb e
      exact List.mem_map.mpr ⟨t, ht, by rw [e1, e2]⟩
    · intro h
      obtain ⟨t, ht, e⟩ := List.mem_map.mp h
      injection e with e1 e2
      exact List.mem_map.mpr ⟨t, ht, by show kW ns t.1 t.2.1 = _; rw [e1, e2]⟩
  by_cases h : (a, b) ∈ l.map fun t => (t.1, t.2.1)
  · rw [valV_some (key.mpr h), decide_eq_true h]
  · rw [valV_none fun e => h (key.mp e), decide_eq_false h]
    rfl
theorem valV_mem {κ : Type} [DecidableEq κ] : ∀ {kvs : List (κ × V)} {k : κ} {v : V}, (k, v) ∈ kvs → (kvs.map (·.1)).Nodup → valV kvs k = some v := by
  intro kvs
  induction kvs with
  | nil => intro k v h; exact nomatch h
  | cons kv r ih =>
    intro k v h nd
    rw [List.map_cons, List.nodup_cons] at nd
    unfold valV
    rcases List.mem_cons.mp h with e | h
    · rw [← e, List.find?_cons_of_pos (p := fun kv : κ × V => decide (kv.1 = k)) (decide_eq_true rfl)]
      rfl
    · have ne : kv.1 ≠ k := fun e => nd.1 (by rw [e]; exact List.mem_map_of_mem h)
      rw [List.find?_cons_of_neg (p := fun kv : κ × V => decide (kv.1 = k)) (by rw [decide_eq_false ne]; decide)]
      exact ih h nd.2
def wI (t : Str × Str × Dt) : Str × Str × Int := (t.1, t.2.1, numI t.2.2)
/-- pair order -/
def PairS (ns : List Str) (ws : List (Str × Str × Int)) : Prop := ws.Pairwise fun s t => plc ns s.2.1 < plc ns t.2.1 ∨ (plc ns s.2.1 = plc ns t.2.1 ∧ plc ns s.1 ≤ plc ns t.1)
theorem zip_of {α β γ : Type} {F : γ → β → Prop} {f : α → γ} : ∀ {l : List α} {bs : List β}, Paired F (l.map f) bs → ∃ zs : List (α × β), zs.map (·.1) = l ∧ zs.map (·.2) = bs ∧ ∀ z ∈ zs, F (f z.1) z.2
  | [], bs, h => by
    cases h
    exact ⟨[], rfl, rfl, fun z hz => nomatch hz⟩
  | a :: l, bs, h => by
    cases h with
    | cons h1 h2 =>
      obtain ⟨zs, e1, e2, e3⟩ := zip_of h2
      refine ⟨(a, _) :: zs, by rw [List.map_cons, e1], by rw [List.map_cons, e2], fun z hz => ?_⟩
      rcases List.mem_cons.mp hz with rfl | hz
      · exact h1
      · exact e3 z hz
def keyAt (H : Hp) : V → Int × Int
  | .ref t => match H t with
    | some (.tup [.int i, .int j]) => (i, j)
    | _ => (0, 0)
  | _ => (0, 0)
theorem keyAt_of {H : Hp} {t : Addr} {i j : Int} (h : H t = some (.tup [.int i, .int j])) : keyAt H (.ref t) = (i, j) := by
  show (match H t with
    | some (.tup [.int i, .int j]) => (i, j)
    | _ => (0, 0)) = _
  rw [h]
def sp_examined_watches (K : PySem.W.Frag) : Sp := fun vs H Q E => ∃ (P : Addr → Prop) (tb p : Addr) (ns : List Str) (ws : List (Str × Str × Dt)) (v : V), vs = [.ref tb, .ref p, v] ∧ Rd H tb (.tup []) ∧ Nt H p ns ∧ ns.length ≤ 1000 ∧ (Rp P H 2 (watchD ws) v ∨ (ws = [] ∧ ∃ t, v = .ref t ∧ ∀ H', SqT K H' t [])) ∧ (∀ t ∈ ws, isNum t.2.2 = true) ∧
  (ws.length ≤ 24 → watchF ns [] ws = none → ∀ q rows ds H', H q = none → Same H H' → H' q = some (.tup rows) → Rows H' rows (ds.map trow) → ds.Perm (ws.map wI) → PairS ns ds → Q (.ref q) H') ∧
  (ws.length ≤ 24 → ∀ c f x, watchF ns [] ws = some (.at c f x) → ∀ d H', H d = none → H' d = some (.xd [(f, x)]) → Same H H' → E (.ref (gad K c)) (some d) H') ∧
  (ws.length ≤ 24 → ∀ a b, watchF ns [] ws = some (.rep a b) → ∀ d q H', H d = none → H' d = some (.xd [("value", .ref q)]) → H' q = some (.tup [.str a, .str b]) → Same H H' → E (.ref (gad K "Repeated")) (some d) H') ∧
  (¬ ws.length ≤ 24 → ∀ d H', H d = none → H' d = some (.xd [("number", .int ws.length), ("what", .str "watches")]) → Same H H' → E (.ref (gad K "BadCount")) (some d) H')
theorem ok_examined_watches {f : Addr} {fd : FuncData}
    {f_check_count : Addr} {fd_check_count : FuncData} (D_check_count : Dn K mg "check_count" s_check_count p_check_count f_check_count fd_check_count) (G_check_count : FnOk P w K mg base (L2.CX P w) 5 f_check_count fd_check_count p_check_count (sp_check_count K))
    {f_place_in : Addr} {fd_place_in : FuncData} (D_place_in : Dn K mg "place_in" s_place_in p_place_in f_place_in fd_place_in) (G_place_in : FnOk P w K mg base (L2.CX P w) 5 f_place_in fd_place_in p_place_in (sp_place_in K))
    {f_check_number : Addr} {fd_check_number : FuncData} (D_check_number : Dn K mg "check_number" s_check_number p_check_number f_check_number fd_check_number) (G_check_number : FnOk P w K mg base (L2.CX P w) 5 f_check_number fd_check_number p_check_number (sp_check_number K))
    {f_SelfWatch__init : Addr} {fd_SelfWatch__init : FuncData} (D_SelfWatch__init : Dm K "__init__" "SelfWatch.__init__" s_SelfWatch__init p_SelfWatch__init f_SelfWatch__init fd_SelfWatch__init) (G_SelfWatch__init : FnOk P w K mg base CX0 3 f_SelfWatch__init fd_SelfWatch__init p_SelfWatch__init (sp_SelfWatch__init K))
    (X_SelfWatch : Dx K mg "SelfWatch" (gad K "SelfWatch") f_SelfWatch__init ["name"])
    {f_BorderWatch__init : Addr} {fd_BorderWatch__init : FuncData} (D_BorderWatch__init : Dm K "__init__" "BorderWatch.__init__" s_BorderWatch__init p_BorderWatch__init f_BorderWatch__init fd_BorderWatch__init) (G_BorderWatch__init : FnOk P w K mg base CX0 3 f_BorderWatch__init fd_BorderWatch__init p_BorderWatch__init (sp_BorderWatch__init K))
    (X_BorderWatch : Dx K mg "BorderWatch" (gad K "BorderWatch") f_BorderWatch__init ["watcher", "watched"])
    {f_Repeated__init : Addr} {fd_Repeated__init : FuncData} (D_Repeated__init : Dm K "__init__" "Repeated.__init__" s_Repeated__init p_Repeated__init f_Repeated__init fd_Repeated__init) (G_Repeated__init : FnOk P w K mg base CX0 3 f_Repeated__init fd_Repeated__init p_Repeated__init (sp_Repeated__init K))
    (X_Repeated : Dx K mg "Repeated" (gad K "Repeated") f_Repeated__init ["value"])
    (T : Txt K mg) (D : Dn K mg "examined_watches" s_examined_watches p_examined_watches f fd) : FnOk P w K mg base (L2.CX P w) 6 f fd p_examined_watches (sp_examined_watches K) := by
  refine D.F.okX sc_examined_watches (fun vs H Q E h => ?_) (fun cdv A outer s' H vs Q E hr h => ?_)
  · obtain ⟨_, _, _, _, _, v, rfl, _⟩ := h
    rfl
  · obtain ⟨P0, tb, p, ns, ws, v, rfl, htb, hns, nsl, hr0, hat, k1, k2, k4, k3⟩ := h
    obtain ⟨pw, vs, rfl, hp, hl, hrow⟩ : ∃ (pw : Addr) (vs : List V), v = .ref pw ∧ Sq2 K H pw vs ∧ vs.length = ws.length ∧ ∀ (i : Nat) (d : Dt) (v : V), (ws.map fun t => Dt.seq [.str t.1, .str t.2.1, t.2.2])[i]? = some d → vs[i]? = some v → Rp P0 H 1 d v := by
      rcases hr0 with hr0 | ⟨rfl, t, rfl, ht⟩
      · obtain ⟨pw, vs, rfl, hp, hl, hz, hrow⟩ := rp_seq hr0
        rw [List.length_map] at hl
        exact ⟨pw, vs, rfl, hp.imp id .inl, hl, hrow⟩
      · exact ⟨t, [], rfl, .inr (.inr ht), rfl, fun i d v _ e => by simp at e⟩
    refine ⟨_, (pss_cons (ps_expr (pe_call G_check_count (hr.mono (by omega)) (by rfl) D_check_count.m D_check_count.F.kp D_check_count.b .nil (passes_call (takes_of rfl rfl rfl rfl) (fun _ _ _ _ h => h)) (pa_cons pe_str (pa_cons (pe_callB (n_lenVK (K := K) rfl) (by rfl) T.b_len (by decide +kernel) (pa_cons (pv 2) pa_nil)) (pa_cons pe_int (pa_cons (pe_globE (by rfl) T.c_MOST_WATCHES) pa_nil))))))
  (pss_cons (ps_set (i := 3) sc_examined_watches.nd rfl (Or.inr rfl) (pe_op (op_catAK (K := K) rfl) (pv 0) (pv 1)))
  (pss_cons (ps_set (i := 4) sc_examined_watches.nd rfl (Or.inr rfl) pe_dnewT)
  (pss_cons (ps_for (passes_of rfl) rfl (pi_any (K := K) rfl (pv 2)) (pg_any rfl (pgs_cons (pg_name (i := 5) sc_examined_watches.nd rfl (Or.inl rfl)) (pgs_cons (pg_name (i := 6) sc_examined_watches.nd rfl (Or.inl rfl)) (pgs_cons (pg_name (i := 7) sc_examined_watches.nd rfl (Or.inl rfl)) pgs_nil))))
   (pss_cons (ps_set (i := 8) sc_examined_watches.nd rfl (Or.inl rfl) (pe_call G_place_in (hr.mono (by omega)) (by rfl) D_place_in.m D_place_in.F.kp D_place_in.b .nil (passes_call (takes_of rfl rfl rfl rfl) (fun _ _ _ _ h => h)) (pa_cons (pv 3) (pa_cons (pv 5) pa_nil))))
  (pss_cons (ps_set (i := 9) sc_examined_watches.nd rfl (Or.inl rfl) (pe_call G_place_in (hr.mono (by omega)) (by rfl) D_place_in.m D_place_in.F.kp D_place_in.b .nil (passes_call (takes_of rfl rfl rfl rfl) (fun _ _ _ _ h => h)) (pa_cons (pv 3) (pa_cons (pv 6) pa_nil))))
  (pss_cons (ps_expr (pe_call G_check_number (hr.mono (by omega)) (by rfl) D_check_number.m D_check_number.F.kp D_check_number.b .nil (passes_call (takes_of rfl rfl rfl rfl) (fun _ _ _ _ h => h)) (pa_cons (pv 7) (pa_cons pe_int (pa_cons (pe_globE (by rfl) T.c_MOST_NUMBER) pa_nil)))))
  (pss_cons (ps_if (pt_cmpR op_eq (pv 8) (pv 9) (nomark _)) (pss_one (ps_raise rfl (takes_of rfl rfl rfl rfl) (pmk_oex X_SelfWatch.oex X_SelfWatch.iC X_SelfWatch.tI G_SelfWatch__init (hr.mono (by omega)) D_SelfWatch__init.b .nil pass0 (by rfl) X_SelfWatch.g (pa_cons (pv 5) pa_nil)))) pss_nil)
  (pss_cons (ps_if (PW.pt (pw_and (pt_cmpR (op_in_seqK (K := K) rfl) (pv 5) (pv 0) (by rfl)) (pw_and1 (pt_cmpR (op_in_seqK (K := K) rfl) (pv 6) (pv 0) (by rfl))))) (pss_one (ps_raise rfl (takes_of rfl rfl rfl rfl) (pmk_oex X_BorderWatch.oex X_BorderWatch.iC X_BorderWatch.tI G_BorderWatch__init (hr.mono (by omega)) D_BorderWatch__init.b .nil pass0 (by rfl) X_BorderWatch.g (pa_cons (pv 5) (pa_cons (pv 6) pa_nil))))) pss_nil)
  (pss_cons (ps_if (pt_cmp (pc_din (hu_of hr) (pe_tup (pa_cons (pv 9) (pa_cons (pv 8) pa_nil))) (pv 4))) (pss_one (ps_raise rfl (takes_of rfl rfl rfl rfl) (pmk_oex X_Repeated.oex X_Repeated.iC X_Repeated.tI G_Repeated__init (hr.mono (by omega)) D_Repeated__init.b .nil pass0 (by rfl) X_Repeated.g (pa_cons (pe_tup (pa_cons (pv 5) (pa_cons (pv 6) pa_nil))) pa_nil)))) pss_nil)
  (pss_one (ps_dput (hu_of hr) (pv 4) (pe_tup (pa_cons (pv 9) (pa_cons (pv 8) pa_nil))) (pe_callTy n_int (by rfl) T.b_int (by decide +kernel) (pa_cons (pv 7) pa_nil)) rfl)))))))))
  (pss_one (ps_ret (pe_callTy (n_tupleK (K := K) rfl) (by rfl) T.b_tuple (by decide +kernel) (pa_cons (pe_lc (own := [("pair", 10)]) rfl sc_examined_watches.nd (pi_list (pe_callB (cr_sortedPOK (K := K) rfl) (by rfl) T.b_sorted (by decide +kernel) (pa_cons (pe_callTy (call_list_dT rfl) (by rfl) T.b_list (by decide +kernel) (pa_cons (pv 4) pa_nil)) pa_nil))) (blkOk_by (own := [("pair", 10)]) (N := n_examined_watches) (sc := defScope s_examined_watches) (by decide +kernel)) (fun _ _ _ _ _ => (pg_name (i := 10) sc_examined_watches.nd rfl (Or.inl rfl))) (fun _ _ _ _ _ => pts_nil) (fun _ _ _ _ _ => (pe_tup (pa_cons (pe_ix (ix_tupK (K := K) rfl) (pv 3) (pe_ix (ix_tupK (K := K) rfl) (pv 10) pe_int (fun _ _ => rfl)) (fun _ _ => rfl)) (pa_cons (pe_ix (ix_tupK (K := K) rfl) (pv 3) (pe_ix (ix_tupK (K := K) rfl) (pv 10) pe_int (fun _ _ => rfl)) (fun _ _ => rfl)) (pa_cons (pe_dget (hu_of hr) (pv 4) (pv 10) (fun _ _ => rfl)) pa_nil)))))) pa_nil)))))))), ?_⟩
    walk_at "my sts"
    refine i_lenV2 hp ?_
    walk_at "my sts"
    refine ⟨_, _, _, _, rfl, ?_⟩
    by_cases hc : ws.length ≤ 24
    · refine .inl ⟨by omega, by omega, fun H1 s1 => ?_⟩
      have k2 := k2 hc
      have k1 := k1 hc
      have k4 := k4 hc
      walk_at "my sts"
      refine i_catNil (rd_sq (rd_same s1 htb)) (hns.same s1).sq (by rw [List.length_map]; omega) ?_
      walk_at "my sts"
      refine fun Da hD => ?_
      have hp1 : Sq2 K H1 pw vs := hp.keep fun u h => s1 _ _ h
      walk_at "my sts"
      refine fa2 (xs := vs) rfl (hp1.keep fun u h => same_new hD _ _ h) (fun i σ' H' => Same H1 H' ∧ (∃ x1 x2 x3 x4 x5, σ' = [some (.ref tb), some (.ref p), some (.ref pw), some (.ref p), some (.ref Da), x1, x2, x3, x4, x5, none]) ∧ H' Da = some (.dT (kvw ns (ws.take i))) ∧ watchF ns [] ws = watchF ns ((ws.take i).map fun t => (t.1, t.2.1)) (ws.drop i) ∧ ((ws.take i).map fun t => (t.1, t.2.1)).Nodup ∧ ∀ t ∈ ws.take i, t.1 ∈ ns ∧ t.2.1 ∈ ns)
        ⟨same_new hD, ⟨none, none, none, none, none, rfl⟩, upd_same, rfl, List.nodup_nil, fun t h => nomatch h⟩ ?_ ?_ ?_
      · rintro i σ' H' ⟨g, _⟩ u hu' hu
        by_cases e : pw = Da
        · rw [e, upd_same] at hu
          rcases hu' with rfl | rfl <;> cases hu
        · rw [upd_ne e] at hu
          exact g _ _ hu
      · rintro i x σ' H' hx ⟨g, ⟨x1, x2, x3, x4, x5, rfl⟩, gd, gf, gn, gm⟩
        have hi := (List.getElem?_eq_some_iff.mp hx).1
        have hi' : i < ws.length := by omega
        obtain ⟨⟨a, b, d⟩, hq⟩ : ∃ q, ws[i]? = some q := ⟨_, List.getElem?_eq_getElem hi'⟩
        have hmem := hat _ (List.mem_of_getElem? hq)
        have dr : ws.drop i = (a, b, d) :: ws.drop (i + 1) := by
          rw [List.drop_eq_getElem_cons hi']
          rw [List.getElem?_eq_getElem hi'] at hq
          rw [Option.some.inj hq]
        have tk : ws.take (i + 1) = ws.take i ++ [(a, b, d)] := by
          rw [List.take_add_one, hq]
          rfl
        rw [dr] at gf
        have hd1 : isAt d = true := by
          cases d with
          | seq _ => exact Bool.noConfusion (show false = true from hmem)
          | _ => rfl
        obtain ⟨q, rfl, hrw⟩ := rp_row (hrow i (.seq [.str a, .str b, d]) x (by rw [List.getElem?_map, hq]; rfl) hx) (fun d' hd' => by
          rcases List.mem_cons.mp hd' with rfl | hd'
          · rfl
          · rcases List.mem_cons.mp hd' with rfl | hd'
            · rfl
            · rw [List.mem_singleton.mp hd']
              exact hd1)
        have sH := s1.trans g
        refine gany3 (x := .str a) (y := .str b) (z := atV d) (hrw.imp (sH _ _) (sH _ _)) ?_
        walk_at "my sts"
        refine ⟨p, ns, a, rfl, hns.same sH, ?_⟩
        by_cases ha : a ∈ ns
        case neg =>
          refine .inr ⟨ha, fun e H2 he ed s2 => k2 "UnknownFolk" "name" (.str a) ?_ e H2 (sH.free he) ed (sH.trans s2)⟩
          rw [gf]
          unfold watchF
          rw [if_neg ha]
        refine .inl ⟨ha, fun H2 s2 => ?_⟩
        walk_at "my sts"
        refine ⟨p, ns, b, rfl, hns.same (sH.trans s2), ?_⟩
        by_cases hb : b ∈ ns
        case neg =>
          refine .inr ⟨hb, fun e H3 he ed s3 => k2 "UnknownFolk" "name" (.str b) ?_ e H3 ((sH.trans s2).free he) ed ((sH.trans s2).trans s3)⟩
          rw [gf]
          unfold watchF
          rw [if_pos ha, if_neg hb]
        refine .inl ⟨hb, fun H3 s3 => ?_⟩
        have sH3 := (sH.trans s2).trans s3
        walk_at "my sts"
        refine ⟨_, 1, 9999, rfl, ?_⟩
        cases hn : inR 1 9999 d with
        | false =>
          have ef : watchF ns [] ws = some (.at "BadNumber" "value" (atV d)) := by
            rw [gf]
            unfold watchF
            rw [if_pos ha, if_pos hb, if_neg (by rw [hn]; decide)]
          cases d with
          | int n =>
            refine .inr ⟨.inl ⟨n, rfl, fun h => ?_⟩, fun e H4 he ed s4 => k2 _ _ _ ef e H4 (sH3.free he) ed (sH3.trans s4)⟩
            have : (decide (1 ≤ n) && decide (n ≤ 9999)) = false := hn
            rw [decide_eq_true h.1, decide_eq_true h.2] at this
            cases this
          | bl b => exact .inr ⟨.inr ⟨b, rfl⟩, fun e H4 he ed s4 => k2 _ _ _ ef e H4 (sH3.free he) ed (sH3.trans s4)⟩
          | str _ => exact Bool.noConfusion (show false = true from hmem)
          | seq _ => exact Bool.noConfusion (show false = true from hmem)
        | true =>
          cases d with
          | int n =>
            have hn' : (decide (1 ≤ n) && decide (n ≤ 9999)) = true := hn
            rw [Bool.and_eq_true] at hn'
            refine .inl ⟨n, rfl, of_decide_eq_true hn'.1, of_decide_eq_true hn'.2, fun H4 s4 => ?_⟩
            have g4 := (s2.trans s3).trans s4
            have sH4 := sH.trans g4
            have gd4 := g4 _ _ gd
            walk_at "my sts"
            refine i_ite (fun h => ?_) fun h => ?_
            · have h : a = b := plc_inj ha hb (by
                have := of_decide_eq_true h
                injection this with this
                omega)
              walk_at "my sts"
              refine mkA X_SelfWatch.oex (X_SelfWatch.no "name" (by decide)) rfl fun e H5 he ed s5 => k2 "SelfWatch" "name" (.str a) ?_ e H5 (sH4.free he) ed (sH4.trans s5)
              rw [gf]
              unfold watchF
              rw [if_pos ha, if_pos hb, if_pos hn, if_pos h]
            · have h : ¬ a = b := fun e => of_decide_eq_false h (by rw [e])
              walk_at "my sts"
              refine i_inStrT (ns := []) (rd_sq (rd_same sH4 htb)) ?_
              rw [show decide (a ∈ ([] : List Str)) = false from rfl]
              walk_at "my sts"
              refine tup_end (show 2 ≤ 100000 by decide) fun T H5 hT s5 h5 => ?_
              have gd5 := s5 _ _ gd4
              walk_at "my sts"
              refine dinT (k := kW ns a b) gd5 h5 ?_
              rw [kvw_val ha hb gm]
              walk_at "my sts"
              refine i_ite (fun h2 => ?_) fun h2 => ?_
              · have h2 := of_decide_eq_true h2
                walk_at "my sts"
                refine tup_end (show 2 ≤ 100000 by decide) fun T2 H6 hT2 s6 h6 => ?_
                walk_at "my sts"
                have sH6 := (sH4.trans s5).trans s6
                refine mk1 X_Repeated.oex (X_Repeated.no "value" (by decide)) (.inr ⟨T2, _, rfl, .inr h6, (show 2 ≤ 1000 by decide), fun x hx => ?_⟩) fun v' e H7 he ed pt s7 => ?_
                · rcases List.mem_cons.mp hx with rfl | hx
                  · rfl
                  · rw [List.mem_singleton.mp hx]
                    rfl
                · rcases pt with ⟨h, _⟩ | ⟨p', xs', q', e1, e2, rfl, e4⟩
                  · exact Bool.noConfusion (show false = true from h)
                  · injection e1 with e1
                    subst e1
                    rcases e2 with e2 | e2
                    · rw [h6] at e2
                      cases e2
                    · rw [h6] at e2
                      cases e2
                      refine k4 a b ?_ e q' H7 (sH6.free he) ed e4 (sH6.trans s7)
                      rw [gf]
                      unfold watchF
                      rw [if_pos ha, if_pos hb, if_pos hn, if_neg h, if_pos h2]
              · have h2 := of_decide_eq_false h2
                walk_at "my sts"
                refine .inl ⟨n, rfl, ?_⟩
                walk_at "my sts"
                refine tup_end (show 2 ≤ 100000 by decide) fun T2 H6 hT2 s6 h6 => ?_
                refine dputT (k := kW ns a b) (s6 _ _ gd5) h6 ?_ ?_
                · unfold kvw
                  rw [List.length_map, List.length_take]
                  omega
                · have kn : kW ns a b ∉ (kvw ns (ws.take i)).map (·.1) := fun e => by
                    have := valV_some e
                    rw [kvw_val ha hb gm, decide_eq_false h2] at this
                    cases this
                  rw [putK_new kn]
                  refine ⟨same_mut (((g.trans g4).trans s5).trans s6) hD, ⟨_, _, _, _, _, rfl⟩, ?_, ?_, ?_, ?_⟩
                  · rw [upd_same, tk]
                    unfold kvw
                    rw [List.map_append]
                    rfl
                  · rw [gf, tk, List.map_append]
                    conv => lhs; unfold watchF
                    rw [if_pos ha, if_pos hb, if_pos hn, if_neg h, if_neg h2]
                    rfl
                  · rw [tk, List.map_append]
                    refine List.nodup_append.mpr ⟨gn, List.nodup_cons.mpr ⟨List.not_mem_nil, List.nodup_nil⟩, fun x hx y hy e => ?_⟩
                    rw [List.mem_singleton.mp hy] at e
                    exact h2 (by rw [← show x = (a, b) from e]; exact hx)
                  · intro t ht
                    rw [tk] at ht
                    rcases List.mem_append.mp ht with ht | ht
                    · exact gm t ht
                    · rw [List.mem_singleton.mp ht]
                      exact ⟨ha, hb⟩
          | bl b => cases hn
          | str _ => cases hn
          | seq _ => cases hn
      · rintro σ' H' ⟨g, ⟨x1, x2, x3, x4, x5, rfl⟩, gd, gf, gn, gm⟩
        rw [hl, List.take_length] at gd gn gm
        rw [hl, List.drop_length] at gf
        have k1 := k1 gf
        walk_at "my sts"
        refine ⟨Da, _, rfl, .inl gd, fun l bs hl' hk => ?_⟩
        obtain ⟨zs, z1, z2, z3⟩ := zip_of (f := fun t : Str × Str × Dt => (kW ns t.1 t.2.1, V.int (numI t.2.2))) hk
        have z3 : ∀ z ∈ zs, H' z.2 = some (.tup [.int ((plc ns z.1.2.1 : Nat) : Int), .int ((plc ns z.1.1 : Nat) : Int)]) := z3
        have zm : ∀ z ∈ zs, z.1 ∈ ws := fun z hz => by
          rw [← z1]
          exact List.mem_map_of_mem hz
        have zb : bs.map V.ref = zs.map fun z => V.ref z.2 := by
          rw [← z2, List.map_map]
          rfl
        have sl : Same H' (upd H' l (.lst (bs.map V.ref))) := same_new hl'
        walk_at "my sts"
        refine ⟨l, _, keyAt H', rfl, sqL upd_same, fun x hx => ?_, fun ys q sr sb hq => ?_⟩
        · rw [zb] at hx
          obtain ⟨z, hz, rfl⟩ := List.mem_map.mp hx
          refine ⟨z.2, rfl, ?_⟩
          rw [keyAt_of (z3 z hz)]
          exact sl _ _ (z3 z hz)
        obtain ⟨zs', pz, rfl⟩ := perm_map_inv (fun z : (Str × Str × Dt) × Addr => V.ref z.2) (zb ▸ sb.perm)
        have sq : Same H' (upd (upd H' l (.lst (bs.map V.ref))) q (.lst (zs'.map fun z => V.ref z.2))) := sl.trans (same_new hq)
        have nd : ((kvw ns ws).map (·.1)).Nodup := by
          unfold kvw
          rw [List.map_map]
          have e : ((fun kv : List Key × V => kv.1) ∘ fun t : Str × Str × Dt => (kW ns t.1 t.2.1, V.int (numI t.2.2))) = (fun ab : Str × Str => kW ns ab.1 ab.2) ∘ fun t : Str × Str × Dt => (t.1, t.2.1) := rfl
          rw [e, ← List.map_map]
          refine List.pairwise_map.mpr (List.Pairwise.imp_of_mem (fun {s t} hs ht h e => h ?_) gn)
          obtain ⟨s', hs', rfl⟩ := List.mem_map.mp hs
          obtain ⟨t', ht', rfl⟩ := List.mem_map.mp ht
          obtain ⟨e1, e2⟩ := kW_inj (gm _ hs').1 (gm _ hs').2 (gm _ ht').1 (gm _ ht').2 e
          rw [e1, e2]
        refine cl (xs := zs'.map fun z => V.ref z.2) (sqL upd_same) (fun Dl i H4 => Same (upd (upd H' l (.lst (bs.map V.ref))) q (.lst (zs'.map fun z => V.ref z.2))) H4 ∧ ∃ acc, H4 Dl = some (.lst acc) ∧ Rows H4 acc ((zs'.take i).map fun z => trow (wI z.1))) (fun Dl hDl => ⟨same_new hDl, [], upd_same, rfl⟩) (fun Dl i H4 _ _ h => sqL (h.1 _ _ upd_same)) ?_ ?_
        · rintro Dl i x H4 hDl hx ⟨g2, acc, g3, g4⟩
          rw [List.getElem?_map] at hx
          obtain ⟨z, hz, rfl⟩ := Option.map_eq_some_iff.mp hx
          have hz' : z ∈ zs := pz.mem_iff.mp (List.mem_of_getElem? hz)
          have s4 := sq.trans g2
          have ht := s4 _ _ (z3 z hz')
          have hm := gm _ (zm z hz')
          have hn4 := hns.same ((s1.trans g).trans s4)
          refine ⟨rfl, ?_⟩
          walk_at "my sts"
          refine i_ixT hn4.sq (atI_nat (by rw [List.getElem?_map, plc_at hm.1]; rfl)) ?_
          walk_at "my sts"
          refine i_ixT hn4.sq (atI_nat (by rw [List.getElem?_map, plc_at hm.2]; rfl)) ?_
          walk_at "my sts"
          refine dgetT (k := kW ns z.1.1 z.1.2.1) (s4 _ _ gd) ht (valV_mem (v := .int (numI z.1.2.2)) (List.mem_map.mpr ⟨z.1, zm z hz', rfl⟩) nd) ?_
          walk_at "my sts"
          refine tup_end (show 3 ≤ 100000 by decide) fun t H5 ht5 s5 h5 => ?_
          have g3' := s5 _ _ g3
          have al : acc.length ≤ 1000 := by
            have e1 := g4.len
            have e2 := pz.length_eq
            have e3 := congrArg List.length z1
            rw [List.length_map] at e3
            rw [List.length_map, List.length_take] at e1
            omega
          refine ⟨acc, g3', Nat.lt_of_le_of_lt al (by decide), same_mut (g2.trans s5) hDl, _, upd_same, ?_⟩
          rw [List.take_add_one, hz, List.map_append]
          exact ((g4.keep (Tk.same s5)).app (Rows.one h5)).keep (Tk.lst g3')
        · rintro Dl H4 hDl ⟨g2, acc, g3, g4⟩
          rw [List.length_map, List.take_length] at g4
          walk_at "my sts"
          refine tuple_end (sqL g3) fun q2 H5 hq2 s5 h5 => ?_
          have sA := (g.trans (sq.trans g2))
          refine k1 q2 acc (zs'.map fun z => wI z.1) H5 (s1.free (sA.free hq2)) (s1.trans (sA.trans s5)) h5 ?_ ?_ ?_
          · rw [List.map_map]
            exact g4.keep (Tk.same s5)
          · have := pz.map fun z => wI z.1
            rw [← z1, List.map_map]
            exact this
          · refine List.pairwise_map.mpr (List.Pairwise.imp_of_mem (fun {s t} hs ht h => ?_) (List.pairwise_map.mp sr))
            have h : SrtO.lexB (keyAt H' (.ref t.2)) (keyAt H' (.ref s.2)) = false := h
            rw [keyAt_of (z3 _ (pz.mem_iff.mp hs)), keyAt_of (z3 _ (pz.mem_iff.mp ht))] at h
            have h := SrtO.lexB_no.mp h
            show plc ns s.1.2.1 < plc ns t.1.2.1 ∨ (plc ns s.1.2.1 = plc ns t.1.2.1 ∧ plc ns s.1.1 ≤ plc ns t.1.1)
            dsimp only at h
            omega
    · refine .inr ⟨by omega, fun d H' hd ed s => ?_⟩
      rw [hl] at ed
      exact k3 hc d H' hd ed s
def bitN (ns : List Str) (a : Str) : Int := 1 * 2 ^ plc ns a
def qrow (ns : List Str) (t : Str × Str × Int) : List V := [.int (bitN ns t.1), .int t.2.2]
/-- the pulls on each of ns -/
def PullsAt (H : Hp) (ns : List Str) (ws : List (Str × Str × Int)) (rp : List V) : Prop := rp.length = ns.length ∧ ∀ (i : Nat) (n : Str) (v : V), ns[i]? = some n → rp[i]? = some v → ∃ q ys, v = .ref q ∧ H q = some (.tup ys) ∧ Rows H ys ((ws.filter fun t => decide (t.2.1 = n)).map (qrow ns))
theorem PullsAt.keep {H H' : Hp} {ns : List Str} {ws : List (Str × Str × Int)} {rp : List V} (h : PullsAt H ns ws rp) (k : Tk H H') : PullsAt H' ns ws rp := ⟨h.1, fun i n v e1 e2 => by
  obtain ⟨q, ys, e, h1, h2⟩ := h.2 i n v e1 e2
  exact ⟨q, ys, e, k _ _ h1, h2.keep k⟩⟩
def sp_all_pulls (K : PySem.W.Frag) : Sp := fun vs H Q _ => ∃ (p w : Addr) (ns : List Str) (rows : List V) (ws : List (Str × Str × Int)), vs = [.ref p, .ref w] ∧ Nt H p ns ∧ H w = some (.tup rows) ∧ Rows H rows (ws.map trow) ∧ ws.length ≤ 1000 ∧ ns.length ≤ 1000 ∧ (∀ t ∈ ws, t.1 ∈ ns) ∧
  ∀ q rp H', H q = none → Same H H' → H' q = some (.tup rp) → PullsAt H' ns ws rp → Q (.ref q) H'
theorem ok_all_pulls {f : Addr} {fd : FuncData}
    (T : Txt K mg) (D : Dn K mg "all_pulls" s_all_pulls p_all_pulls f fd) : FnOk P w K mg base CX0 1 f fd p_all_pulls (sp_all_pulls K) := by
  refine D.F.ok sc_all_pulls (fun vs H Q E h => ?_) (fun cdv A outer s' H vs Q E hr h => ?_)
  · obtain ⟨p, w, ns, rows, ws, rfl, _⟩ := h
    rfl
  · obtain ⟨p, w, ns, rows, ws, rfl, hp, hw, rw0, wl, nl, wm, k⟩ := h
    refine ⟨_, (pss_one (ps_ret (pe_callTy (n_tupleK (K := K) rfl) (by rfl) T.b_tuple (by decide +kernel) (pa_cons (pe_lc (own := [("name", 2)]) rfl sc_all_pulls.nd (pi_tup (pv 0)) (blkOk_by (own := [("name", 2)]) (N := n_all_pulls) (sc := defScope s_all_pulls) (by decide +kernel)) (fun _ _ _ _ _ => (pg_name (i := 2) sc_all_pulls.nd rfl (Or.inr rfl))) (fun _ _ _ _ _ => pts_nil) (fun _ _ _ _ _ => (by refine' (pe_callTy (n_tupleK (K := K) rfl) (by rfl) T.b_tuple (by decide +kernel) (pa_cons ?_ pa_nil)); exact (pe_lc (own := [("row", 3)]) rfl sc_all_pulls.nd (pi_tupK (K := K) rfl (pv 1)) (blkOk_by (own := [("row", 3)]) (by kernel_rfl)) (fun _ _ _ _ _ => (pg_name (i := 3) sc_all_pulls.nd rfl (Or.inl rfl))) (fun _ _ _ _ _ => (pts_one (pt_cmpR op_eq (pe_ix (ix_tupK (K := K) rfl) (pv 3) pe_int (fun _ _ => rfl)) (pv 2) (nomark _)))) (fun _ _ _ _ _ => (pe_tup (pa_cons (pe_op op_shl pe_int (pe_bmF PySem.F.plainAttrs_tuple PySem.F.slot_tuple_index PySem.F.type_tuple_index (mt_tupIdxK (K := K) rfl) (pv 0) (pa_cons (pe_ix (ix_tupK (K := K) rfl) (pv 3) pe_int (fun _ _ => rfl)) pa_nil))) (pa_cons (pe_ix (ix_tupK (K := K) rfl) (pv 3) pe_int (fun _ _ => rfl)) pa_nil)))))))) pa_nil)))), ?_⟩
    have lx := rw0.len
    rw [List.length_map] at lx
    walk_at "my sts"
    refine ct_ (xs := ns.map V.str) hp.sq (fun Dl i H' => Same H H' ∧ ∃ acc : List V, H' Dl = some (.lst acc) ∧ acc.length = i ∧ ∀ (j : Nat) (n : Str) (v : V), ns[j]? = some n → acc[j]? = some v → ∃ q ys, v = .ref q ∧ H' q = some (.tup ys) ∧ Rows H' ys ((ws.filter fun t => decide (t.2.1 = n)).map (qrow ns)))
      (fun Dl hD => ⟨same_new hD, [], upd_same, rfl, fun j n v _ e => by simp at e⟩) (fun Dl i H' _ _ g => (hp.same g.1).sq) ?_ ?_
    · rintro D0 i y H0 hD0 hy ⟨g0, acc0, g1, g2, g3⟩
      have hi := (List.getElem?_eq_some_iff.mp hy).1
      rw [List.length_map] at hi
      rw [List.getElem?_map] at hy
      obtain ⟨a, hn, rfl⟩ := Option.map_eq_some_iff.mp hy
      refine ⟨rfl, ?_⟩
      walk_at "my sts"
      refine ct_ (xs := rows) (sqT (g0 _ _ hw)) (fun Dl i H' => Same H0 H' ∧ ∃ acc, H' Dl = some (.lst acc) ∧ Rows H' acc (((ws.take i).filter fun t => decide (t.2.1 = a)).map (qrow ns))) (fun Dl hD => ⟨same_new hD, [], upd_same, rfl⟩) (fun Dl i H' _ _ g => sqT (g.1 _ _ (g0 _ _ hw))) ?_ ?_
      · rintro Dl i x H' hD hx ⟨g, acc, g3, g4⟩
        obtain ⟨t, d, rfl, hd, ht⟩ := rw0.get hx
        rw [List.getElem?_map] at hd
        obtain ⟨q, hq, rfl⟩ := Option.map_eq_some_iff.mp hd
        have ht := g _ _ (g0 _ _ ht)
        have hm := wm q (List.mem_of_getElem? hq)
        have hn := hp.same (g0.trans g)
        have pl := plc_lt hm
        have al : acc.length ≤ 1000 := by
          have e1 := g4.len
          rw [List.length_map] at e1
          have e2 := List.length_filter_le (fun t : Str × Str × Int => decide (t.2.1 = a)) (ws.take i)
          rw [List.length_take] at e2
          omega
        refine ⟨rfl, ?_⟩
        walk_at "my sts"
        refine i_ite (fun h => ?_) fun h => ?_
        · have h : q.2.1 = a := by
            have := of_decide_eq_true h
            injection this
          walk_at "my sts"
          refine hn.bm ?_
          walk_at "my sts"
          refine i_tupIdx hn.sq hm ?_
          walk_at "my sts"
          refine i_I (show CPow _ _ from ⟨by omega, by omega, by decide⟩) ?_
          walk_at "my sts"
          refine tup_end (show 2 ≤ 100000 by decide) fun T H5 hT s5 h5 => ?_
          have g3' := s5 _ _ g3
          refine ⟨acc, g3', Nat.lt_of_le_of_lt al (by decide), same_mut (g.trans s5) hD, _, upd_same, ?_⟩
          rw [take_filter _ hq, if_pos (decide_eq_true h), List.map_append]
          exact ((g4.keep (Tk.same s5)).app (Rows.one h5)).keep (Tk.lst g3')
        · have h : ¬ q.2.1 = a := fun e => of_decide_eq_false h (by rw [e])
          refine ⟨g, acc, g3, ?_⟩
          rw [take_filter _ hq, if_neg (by rw [decide_eq_false h]; decide), List.append_nil]
          exact g4
      · rintro Dl H' hD ⟨g, acc, g3', g4⟩
        rw [lx, List.take_length] at g4
        walk_at "my sts"
        refine tuple_end (sqL g3') fun q H2 hq s2 h2 => ?_
        have s02 := g.trans s2
        refine ⟨acc0, s02 _ _ g1, Nat.lt_of_le_of_lt (show acc0.length ≤ 1000 by omega) (by decide), same_mut (g0.trans s02) hD0, _, upd_same, by rw [List.length_append, g2]; rfl, fun j m v ej ev => ?_⟩
        have tkl : Tk H2 (upd H2 D0 (.lst (acc0 ++ [V.ref q]))) := Tk.lst (s02 _ _ g1)
        rcases Nat.lt_or_ge j acc0.length with h | h
        · rw [List.getElem?_append_left h] at ev
          obtain ⟨q', ys', e, h', hr'⟩ := g3 j m v ej ev
          exact ⟨q', ys', e, tkl _ _ (s02 _ _ h'), (hr'.keep (Tk.same s02)).keep tkl⟩
        · have hj := (List.getElem?_eq_some_iff.mp ev).1
          rw [List.length_append] at hj
          have ej' : j = i := by
            have : j < acc0.length + 1 := hj
            omega
          subst ej'
          rw [List.getElem?_append_right h, g2, Nat.sub_self] at ev
          cases ev
          rw [hn] at ej
          cases ej
          exact ⟨q, acc, rfl, tkl _ _ h2, (g4.keep (Tk.same s2)).keep tkl⟩
    · rintro D0 H' hD ⟨g, acc, g1, g2, g3⟩
      walk_at "my sts"
      refine tuple_end (sqL g1) fun q H2 hq s2 h2 => ?_
      exact k q acc H2 (g.free hq) (g.trans s2) h2 (PullsAt.keep (H := H') ⟨by rw [g2, List.length_map], g3⟩ (Tk.same s2))
/-- all but x stands -/
def Sx (x : Addr) (H H' : Hp) : Prop := ∀ b o, H b = some o → b ≠ x → H' b = some o
theorem Sx.trans {x : Addr} {H H1 H2 : Hp} (a : Sx x H H1) (b : Sx x H1 H2) : Sx x H H2 := fun c o h n => b c o (a c o h n) n
theorem Sx.same {x : Addr} {H H1 : Hp} (a : Same H H1) : Sx x H H1 := fun c o h _ => a c o h
theorem Sx.set {x : Addr} {H : Hp} {o : HO} : Sx x H (upd H x o) := fun c u h n => by
  rw [upd_ne n]
  exact h
theorem Sx.free {x a : Addr} {H H1 : Hp} (s : Sx x H H1) (h : H1 a = none) (n : a ≠ x) : H a = none := by
  cases e : H a with
  | none => rfl
  | some u =>
    rw [s a u e n] at h
    cases h
theorem ins_set {H : Hp} {x C dx : Addr} {l l' : List (Str × V)} (h : H x = some (.ins C dx l)) : Tk H (upd H x (.ins C dx l')) := fun t d e => by
  rw [upd_ne fun z => by rw [z, h] at e; cases e]
  exact e
theorem Nt.set {H : Hp} {x C dx p : Addr} {l l' : List (Str × V)} {ns : List Str} (hn : Nt H p ns) (h : H x = some (.ins C dx l)) : Nt (upd H x (.ins C dx l')) p ns := by
  obtain ⟨o, h1, h2⟩ := hn
  exact ⟨o, by rw [upd_ne fun z => by rw [z, h] at h1; cases h1]; exact h1, h2⟩
theorem Rp.set {P : Addr → Prop} {H : Hp} {x C dx : Addr} {l l' : List (Str × V)} {n : Nat} {d : Dt} {v : V} (r : Rp P H n d v) (h : H x = some (.ins C dx l)) : Rp P (upd H x (.ins C dx l')) n d v :=
  r.keep (fun _ p => p) (fun a xs _ e => by rw [upd_ne fun z => by rw [z, h] at e; cases e]; exact e) (ins_set h)
/-- a web of these folk and watches stands at x -/
def WebAt (K : PySem.W.Frag) (H : Hp) (x : Addr) (fs : List (Str × Int)) (ws : List (Str × Str × Int)) : Prop := ∃ (dx pf pn pw pp : Addr) (rf rw rp : List V), H x = some (.ins (gad K "Web") dx (wf (.ref pf) (.ref pn) (.ref pw) (.ref pp))) ∧
  H pf = some (.tup rf) ∧ Rows H rf (fs.map frow) ∧ Nt H pn (fs.map (·.1)) ∧ H pw = some (.tup rw) ∧ Rows H rw (ws.map trow) ∧ H pp = some (.tup rp) ∧ PullsAt H (fs.map (·.1)) ws rp
theorem WebAt.same {K : PySem.W.Frag} {H H' : Hp} {x : Addr} {fs : List (Str × Int)} {ws : List (Str × Str × Int)} (h : WebAt K H x fs ws) (s : Same H H') : WebAt K H' x fs ws := by
  obtain ⟨dx, pf, pn, pw, pp, rf, rw, rp, h1, h2, h3, h4, h5, h6, h7, h8⟩ := h
  exact ⟨dx, pf, pn, pw, pp, rf, rw, rp, s _ _ h1, s _ _ h2, h3.keep (Tk.same s), h4.same s, s _ _ h5, h6.keep (Tk.same s), s _ _ h7, h8.keep (Tk.same s)⟩
def fI (q : Str × Dt) : Str × Int := (q.1, numI q.2)
def sp_Web__init (K : PySem.W.Frag) : Sp := fun vs H Q E => ∃ (x dx : Addr) (P : Addr → Prop) (fs : List (Str × Dt)) (ws : List (Str × Str × Dt)) (v u : V), vs = [.ref x, v, u] ∧ H x = some (.ins (gad K "Web") dx []) ∧
  Rp P H 2 (folkD fs) v ∧ (∀ q ∈ fs, q.1.length ≤ 1000 ∧ isNum q.2 = true) ∧ (Rp P H 2 (watchD ws) u ∨ (ws = [] ∧ ∃ t, u = .ref t ∧ ∀ H', SqT K H' t [])) ∧ (∀ t ∈ ws, isNum t.2.2 = true) ∧
  (1 ≤ fs.length → fs.length ≤ 10 → folkF [] fs = none → ws.length ≤ 24 → watchF (fs.map (·.1)) [] ws = none → ∀ ds H', WebAt K H' x (fs.map fI) ds → ds.Perm (ws.map wI) → PairS (fs.map (·.1)) ds → Sx x H H' → Q .non H') ∧
  (¬ (1 ≤ fs.length ∧ fs.length ≤ 10) → ∀ d H', H d = none → H' d = some (.xd [("number", .int fs.length), ("what", .str "folk")]) → Sx x H H' → E (.ref (gad K "BadCount")) (some d) H') ∧
  (1 ≤ fs.length → fs.length ≤ 10 → ∀ c f y, folkF [] fs = some (c, f, y) → ∀ d H', H d = none → H' d = some (.xd [(f, y)]) → Sx x H H' → E (.ref (gad K c)) (some d) H') ∧
  (1 ≤ fs.length → fs.length ≤ 10 → folkF [] fs = none → ¬ ws.length ≤ 24 → ∀ d H', H d = none → H' d = some (.xd [("number", .int ws.length), ("what", .str "watches")]) → Sx x H H' → E (.ref (gad K "BadCount")) (some d) H') ∧
  (1 ≤ fs.length → fs.length ≤ 10 → folkF [] fs = none → ws.length ≤ 24 → ∀ c f y, watchF (fs.map (·.1)) [] ws = some (.at c f y) → ∀ d H', H d = none → H' d = some (.xd [(f, y)]) → Sx x H H' → E (.ref (gad K c)) (some d) H') ∧
  (1 ≤ fs.length → fs.length ≤ 10 → folkF [] fs = none → ws.length ≤ 24 → ∀ a b, watchF (fs.map (·.1)) [] ws = some (.rep a b) → ∀ d q H', H d = none → H' d = some (.xd [("value", .ref q)]) → H' q = some (.tup [.str a, .str b]) → Sx x H H' → E (.ref (gad K "Repeated")) (some d) H')
theorem watchF_in {ns : List Str} : ∀ {seen : List (Str × Str)} {ws : List (Str × Str × Dt)}, watchF ns seen ws = none → ∀ t ∈ ws, t.1 ∈ ns ∧ t.2.1 ∈ ns := by
  intro seen ws
  induction ws generalizing seen with
  | nil => intro _ t h; exact nomatch h
  | cons q r ih =>
    obtain ⟨a, b, d⟩ := q
    intro h t ht
    unfold watchF at h
    by_cases ha : a ∈ ns
    case neg => rw [if_neg ha] at h; cases h
    by_cases hb : b ∈ ns
    case neg => rw [if_pos ha, if_neg hb] at h; cases h
    rw [if_pos ha, if_pos hb] at h
    rcases List.mem_cons.mp ht with rfl | ht
    · exact ⟨ha, hb⟩
    · split at h
      · split at h
        · cases h
        · split at h
          · cases h
          · exact ih h t ht
      · cases h
theorem ok_Web__init {f : Addr} {fd : FuncData} {dv_Web__init_0 : V}
    {f_check_count : Addr} {fd_check_count : FuncData} (D_check_count : Dn K mg "check_count" s_check_count p_check_count f_check_count fd_check_count) (G_check_count : FnOk P w K mg base (L2.CX P w) 5 f_check_count fd_check_count p_check_count (sp_check_count K))
    {f_examined_folk : Addr} {fd_examined_folk : FuncData} (D_examined_folk : Dn K mg "examined_folk" s_examined_folk p_examined_folk f_examined_folk fd_examined_folk) (G_examined_folk : FnOk P w K mg base (L2.CX P w) 6 f_examined_folk fd_examined_folk p_examined_folk (sp_examined_folk K))
    {f_examined_watches : Addr} {fd_examined_watches : FuncData} (D_examined_watches : Dn K mg "examined_watches" s_examined_watches p_examined_watches f_examined_watches fd_examined_watches) (G_examined_watches : FnOk P w K mg base (L2.CX P w) 6 f_examined_watches fd_examined_watches p_examined_watches (sp_examined_watches K))
    {f_all_pulls : Addr} {fd_all_pulls : FuncData} (D_all_pulls : Dn K mg "all_pulls" s_all_pulls p_all_pulls f_all_pulls fd_all_pulls) (G_all_pulls : FnOk P w K mg base CX0 1 f_all_pulls fd_all_pulls p_all_pulls (sp_all_pulls K))
    (X_Web : Ci K mg "Web" ["_folk", "_names", "_watches", "_pulls"])
    (T : Txt K mg) (D : Dw K "__init__" "Web.__init__" s_Web__init [dv_Web__init_0] p_Web__init f fd) : FnOk P w K mg base (L2.CX P w) 7 f fd p_Web__init (sp_Web__init K) := by
  refine D.okX sc_Web__init (fun vs H Q E h => ?_) (fun cdv A outer s' H vs Q E hr h => ?_)
  · obtain ⟨_, _, _, _, _, _, _, rfl, _⟩ := h
    rfl
  · obtain ⟨x, dx, P0, fs, ws, v, u, rfl, hx, hv, hfa, hu, hwa, k1, k2, k3, k4, k5, k6⟩ := h
    have n1 := X_Web.no "_folk" (by decide)
    have n2 := X_Web.no "_names" (by decide)
    have n3 := X_Web.no "_watches" (by decide)
    have n4 := X_Web.no "_pulls" (by decide)
    refine ⟨_, (pss_cons (ps_expr (pe_call G_check_count (hr.mono (by omega)) (by rfl) D_check_count.m D_check_count.F.kp D_check_count.b .nil (passes_call (takes_of rfl rfl rfl rfl) (fun _ _ _ _ h => h)) (pa_cons pe_str (pa_cons (pe_callB (n_lenVK (K := K) rfl) (by rfl) T.b_len (by decide +kernel) (pa_cons (pv 1) pa_nil)) (pa_cons pe_int (pa_cons (pe_globE (by rfl) T.c_MOST_FOLK) pa_nil))))))
  (pss_cons (ps_fldK (K := K) rfl (pv 0) (pe_call G_examined_folk (hr.mono (by omega)) (by rfl) D_examined_folk.m D_examined_folk.F.kp D_examined_folk.b .nil (passes_call (takes_of rfl rfl rfl rfl) (fun _ _ _ _ h => h)) (pa_cons (pe_tup pa_nil) (pa_cons (pv 1) pa_nil))) rfl)
  (pss_cons (ps_fldK (K := K) rfl (pv 0) (pe_callTy (n_tupF (K := K) rfl) (by rfl) T.b_tuple (by decide +kernel) (pa_cons (pe_lc (own := [("row", 3)]) rfl sc_Web__init.nd (pi_tup (pe_fldK (K := K) rfl (pv 0) rfl)) (blkOk_by (own := [("row", 3)]) (N := n_Web__init) (sc := defScope s_Web__init) (by decide +kernel)) (fun _ _ _ _ _ => (pg_name (i := 3) sc_Web__init.nd rfl (Or.inl rfl))) (fun _ _ _ _ _ => pts_nil) (fun _ _ _ _ _ => (pe_ix (ix_tupK (K := K) rfl) (pv 3) pe_int (fun _ _ => rfl)))) pa_nil)) rfl)
  (pss_cons (ps_fldK (K := K) rfl (pv 0) (pe_call G_examined_watches (hr.mono (by omega)) (by rfl) D_examined_watches.m D_examined_watches.F.kp D_examined_watches.b .nil (passes_call (takes_of rfl rfl rfl rfl) (fun _ _ _ _ h => h)) (pa_cons (pe_tup pa_nil) (pa_cons (pe_fldK (K := K) rfl (pv 0) rfl) (pa_cons (pv 2) pa_nil)))) rfl)
  (pss_one (ps_fldK (K := K) rfl (pv 0) (pe_call G_all_pulls (hr.mono (by omega)) (by rfl) D_all_pulls.m D_all_pulls.F.kp D_all_pulls.b .nil pass0 (pa_cons (pe_fldK (K := K) rfl (pv 0) rfl) (pa_cons (pe_fldK (K := K) rfl (pv 0) rfl) pa_nil))) rfl)))))), ?_⟩
    obtain ⟨pv0, vs0, rfl, hp0, hl0, _, _⟩ := rp_seq hv
    rw [List.length_map] at hl0
    walk_at "my sts"
    refine i_lenVA hp0 ?_
    walk_at "my sts"
    refine ⟨_, _, _, _, rfl, ?_⟩
    by_cases hc0 : ¬ (1 ≤ fs.length ∧ fs.length ≤ 10)
    · refine .inr ⟨by omega, fun d H' hd ed s => ?_⟩
      rw [hl0] at ed
      exact k2 hc0 d H' hd ed (Sx.same s)
    have hc0 := Classical.not_not.mp hc0
    have l1 := hc0.1
    have l2 := hc0.2
    refine .inl ⟨by omega, by omega, fun Ha sa => ?_⟩
    walk_at "my sts"
    refine tup_end (show 0 ≤ 100000 by decide) fun tb Hb htb sb hb => ?_
    have sab := sa.trans sb
    walk_at "my sts"
    refine ⟨P0, tb, [], fs, _, rfl, .inl hb, hv.same sab, hfa, by omega, fun hf q1 rows H1 hq1 s1' h1 hr1 => ?_, fun c f y hf d H' hd ed s => k3 l1 l2 c f y hf d H' (sab.free hd) ed (Sx.same (sab.trans s))⟩
    have s1 := sab.trans s1'
    have k1 := k1 l1 l2 hf
    have k4 := k4 l1 l2 hf
    have k5 := k5 l1 l2 hf
    have k6 := k6 l1 l2 hf
    have hx1 := s1 _ _ hx
    walk_at "my sts"
    refine sfld_end hx1 X_Web.cl n1 (by show 0 ≤ 900; decide) ?_
    rw [put1]
    obtain ⟨H2, hH2⟩ : ∃ H2, H2 = upd H1 x (.ins (gad K "Web") dx [(("_folk" : Str), V.ref q1)]) := ⟨_, rfl⟩
    rw [← hH2]
    have hx2 : H2 x = some (.ins (gad K "Web") dx [(("_folk" : Str), V.ref q1)]) := by rw [hH2]; exact upd_same
    have tk2 : Tk H1 H2 := by rw [hH2]; exact ins_set hx1
    have sx2 : Sx x H H2 := by rw [hH2]; exact (Sx.same s1).trans Sx.set
    have hu2 : Rp P0 H 2 (watchD ws) u → Rp P0 H2 2 (watchD ws) u := fun r => by rw [hH2]; exact (r.same s1).set hx1
    have h2 := tk2 _ _ h1
    have hr2 := hr1.keep tk2
    have lr := hr2.len
    rw [List.length_map] at lr
    walk_at "my sts"
    refine fld_end hx2 X_Web.cl n1 lk_folk ?_
    refine ct_ (xs := rows) (sqT h2) (fun Dl i H' => Same H2 H' ∧ H' Dl = some (.lst ((fs.take i).map fun q => V.str q.1))) (fun Dl hD => ⟨same_new hD, upd_same⟩) (fun Dl i H' _ _ g => sqT (g.1 _ _ h2)) ?_ ?_
    · rintro Dl i y H' hD hy ⟨g, gl⟩
      obtain ⟨t, d, rfl, hd, ht⟩ := hr2.get hy
      rw [List.getElem?_map] at hd
      obtain ⟨q, hq, rfl⟩ := Option.map_eq_some_iff.mp hd
      have ht := g _ _ ht
      refine ⟨rfl, ?_⟩
      walk_at "my sts"
      refine ⟨_, gl, Nat.lt_of_le_of_lt (show _ ≤ 1000 by rw [List.length_map, List.length_take]; omega) (by decide), same_mut g hD, ?_⟩
      rw [upd_same, take_map _ hq]
    rintro Dl H' hD ⟨g, gl⟩
    rw [lr, List.take_length] at gl
    walk_at "my sts"
    refine tupF_end (sqL gl) fun q2 o H3 hq2 ho s3 h3 => ?_
    have hx3 := s3 _ _ (g _ _ hx2)
    have s23 := g.trans s3
    walk_at "my sts"
    refine sfld_end hx3 X_Web.cl n2 (by show 1 ≤ 900; decide) ?_
    rw [put2]
    have nt3 : Nt H3 q2 (fs.map (·.1)) := ⟨o, by rw [h3, List.map_map]; rfl, ho⟩
    obtain ⟨H4, hH4⟩ : ∃ H4, H4 = upd H3 x (.ins (gad K "Web") dx [(("_folk" : Str), V.ref q1), (("_names" : Str), V.ref q2)]) := ⟨_, rfl⟩
    rw [← hH4]
    have hx4 : H4 x = some (.ins (gad K "Web") dx [(("_folk" : Str), V.ref q1), (("_names" : Str), V.ref q2)]) := by rw [hH4]; exact upd_same
    have tk4 : Tk H2 H4 := by rw [hH4]; exact (Tk.same s23).trans (ins_set hx3)
    have sx4 : Sx x H H4 := by rw [hH4]; exact sx2.trans ((Sx.same s23).trans Sx.set)
    have nt4 : Nt H4 q2 (fs.map (·.1)) := by rw [hH4]; exact nt3.set hx3
    have hu4 : Rp P0 H 2 (watchD ws) u → Rp P0 H4 2 (watchD ws) u := fun r => by rw [hH4]; exact ((hu2 r).same s23).set hx3
    have fr4 : ∀ {d : Addr}, H4 d = none → H d = none := fun {d} hd => sx4.free hd (ne_none hx4 hd)
    walk_at "my sts"
    refine tup_end (show 0 ≤ 100000 by decide) fun tb4 Hc htc sc hc => ?_
    walk_at "my sts"
    refine fld_end (sc _ _ hx4) X_Web.cl n2 lk_names ?_
    walk_at "my sts"
    refine ⟨P0, tb4, q2, fs.map (·.1), ws, u, rfl, .inl hc, nt4.same sc, (by rw [List.length_map]; omega), hu.imp (fun r => (hu4 r).same sc) id, hwa, fun lw hwf q3 rows3 ds H5 hq3 s5' h5 hr5 hpm hps => ?_, fun lw c f y hf d H' hd ed s => k5 lw c f y hf d H' (fr4 (sc.free hd)) ed (sx4.trans (Sx.same (sc.trans s))), fun lw a b hf d q H' hd ed eq s => k6 lw a b hf d q H' (fr4 (sc.free hd)) ed eq (sx4.trans (Sx.same (sc.trans s))), fun lw d H' hd ed s => k4 lw d H' (fr4 (sc.free hd)) ed (sx4.trans (Sx.same (sc.trans s)))⟩
    have s5 := sc.trans s5'
    have k1 := k1 lw hwf
    have win : ∀ t ∈ ds, t.1 ∈ fs.map (·.1) := fun t ht => by
      obtain ⟨t', ht', rfl⟩ := List.mem_map.mp (hpm.mem_iff.mp ht)
      exact (watchF_in hwf t' ht').1
    have dl : ds.length = ws.length := by
      have := hpm.length_eq
      rw [List.length_map] at this
      exact this
    have hx5 := s5 _ _ hx4
    walk_at "my sts"
    refine sfld_end hx5 X_Web.cl n3 (by show 2 ≤ 900; decide) ?_
    rw [put3]
    obtain ⟨H6, hH6⟩ : ∃ H6, H6 = upd H5 x (.ins (gad K "Web") dx [(("_folk" : Str), V.ref q1), (("_names" : Str), V.ref q2), (("_watches" : Str), V.ref q3)]) := ⟨_, rfl⟩
    rw [← hH6]
    have hx6 : H6 x = some (.ins (gad K "Web") dx [(("_folk" : Str), V.ref q1), (("_names" : Str), V.ref q2), (("_watches" : Str), V.ref q3)]) := by rw [hH6]; exact upd_same
    have tk56 : Tk H5 H6 := by rw [hH6]; exact ins_set hx5
    have tk6 : Tk H4 H6 := (Tk.same s5).trans tk56
    have sx6 : Sx x H H6 := by rw [hH6]; exact sx4.trans ((Sx.same s5).trans Sx.set)
    have nt6 : Nt H6 q2 (fs.map (·.1)) := by rw [hH6]; exact (nt4.same s5).set hx5
    have h6 := tk56 _ _ h5
    have hr6 := hr5.keep tk56
    walk_at "my sts"
    refine fld_end hx6 X_Web.cl n2 lk_names ?_
    walk_at "my sts"
    refine fld_end hx6 X_Web.cl n3 lk_watches ?_
    walk_at "my sts"
    refine ⟨q2, q3, fs.map (·.1), rows3, ds, rfl, nt6, h6, hr6, by omega, (by rw [List.length_map]; omega), win, fun q4 acc H8 hq4 s8 h8 hpa => ?_⟩
    have s68 := s8
    have hx8 := s68 _ _ hx6
    walk_at "my sts"
    refine sfld_end hx8 X_Web.cl n4 (by show 3 ≤ 900; decide) ?_
    rw [put4]
    have tk8 : Tk H6 (upd H8 x (.ins (gad K "Web") dx (wf (.ref q1) (.ref q2) (.ref q3) (.ref q4)))) := (Tk.same s68).trans (ins_set hx8)
    have tk24 := tk4.trans (tk6.trans tk8)
    refine k1 ds _ ⟨dx, q1, q2, q3, q4, rows, rows3, acc, upd_same, tk24 _ _ h2, ?_, ?_, tk8 _ _ h6, hr6.keep tk8, ins_set hx8 _ _ h8, ?_⟩ hpm hps (sx6.trans ((Sx.same s68).trans Sx.set))
    · rw [List.map_map]
      exact hr2.keep tk24
    · rw [List.map_map]
      exact (nt6.same s68).set hx8
    · have e : (fs.map fI).map (·.1) = fs.map (·.1) := by rw [List.map_map]; rfl
      rw [e]
      exact hpa.keep (ins_set hx8)
theorem WebAt.nk {K : PySem.W.Frag} {H H' : Hp} {x : Addr} {fs : List (Str × Int)} {ws : List (Str × Str × Int)} (h : WebAt K H x fs ws) (k : Nk H H') : WebAt K H' x fs ws := by
  obtain ⟨dx, pf, pn, pw, pp, rf, rw, rp, h1, h2, h3, ⟨o, h4, h4'⟩, h5, h6, h7, h8⟩ := h
  exact ⟨dx, pf, pn, pw, pp, rf, rw, rp, k _ _ h1 (fun _ z => nomatch z), k.tk _ _ h2, h3.keep k.tk, ⟨o, k _ _ h4 (fun _ z => nomatch z), h4'⟩, k.tk _ _ h5, h6.keep k.tk, k.tk _ _ h7, h8.keep k.tk⟩
def fD (f : Str × Int) : Str × Dt := (f.1, .int f.2)
def wD (t : Str × Str × Int) : Str × Str × Dt := (t.1, t.2.1, .int t.2.2)
theorem folkD_rows (fs : List (Str × Int)) : folkD (fs.map fD) = rowsD (fs.map frow) := by
  unfold folkD rowsD
  rw [List.map_map, List.map_map]
  rfl
theorem watchD_rows (ws : List (Str × Str × Int)) : watchD (ws.map wD) = rowsD (ws.map trow) := by
  unfold watchD rowsD
  rw [List.map_map, List.map_map]
  rfl
theorem folkF_good : ∀ {fs : List (Str × Int)} {seen : List Str}, (∀ f ∈ fs, nameB f.1 = true ∧ 0 ≤ f.2 ∧ f.2 ≤ 9999) → (fs.map (·.1)).Nodup → (∀ a ∈ seen, a ∉ fs.map (·.1)) → folkF seen (fs.map fD) = none
  | [], _, _, _, _ => rfl
  | (a, d) :: r, seen, h, nd, hs => by
    have h0 := h (a, d) List.mem_cons_self
    rw [List.map_cons, List.nodup_cons] at nd
    show folkF seen ((a, Dt.int d) :: r.map fD) = none
    unfold folkF
    have hi : inR 0 9999 (Dt.int d) = true := by
      show (decide (0 ≤ d) && decide (d ≤ 9999)) = true
      rw [decide_eq_true h0.2.1, decide_eq_true h0.2.2]
      rfl
    rw [if_pos h0.1, if_pos hi, if_neg fun e => hs a e List.mem_cons_self]
    refine folkF_good (fun f hf => h f (List.mem_cons_of_mem _ hf)) nd.2 fun b hb hb' => ?_
    rcases List.mem_append.mp hb with hb | hb
    · exact hs b hb (List.mem_cons_of_mem _ hb')
    · rw [List.mem_singleton.mp hb] at hb'
      exact nd.1 hb'
theorem watchF_good {ns : List Str} : ∀ {ws : List (Str × Str × Int)} {seen : List (Str × Str)}, (ws.map fun t => (t.1, t.2.1)).Nodup → (∀ t ∈ ws, t.1 ∈ ns ∧ t.2.1 ∈ ns ∧ t.1 ≠ t.2.1 ∧ 1 ≤ t.2.2 ∧ t.2.2 ≤ 9999) → (∀ p ∈ seen, p ∉ ws.map fun t => (t.1, t.2.1)) → watchF ns seen (ws.map wD) = none
  | [], _, _, _, _ => rfl
  | (a, b, d) :: r, seen, nd, h, hs => by
    have h0 := h (a, b, d) List.mem_cons_self
    rw [List.map_cons, List.nodup_cons] at nd
    show watchF ns seen ((a, b, Dt.int d) :: r.map wD) = none
    unfold watchF
    have hi : inR 1 9999 (Dt.int d) = true := by
      show (decide (1 ≤ d) && decide (d ≤ 9999)) = true
      rw [decide_eq_true h0.2.2.2.1, decide_eq_true h0.2.2.2.2]
      rfl
    rw [if_pos h0.1, if_pos h0.2.1, if_pos hi, if_neg h0.2.2.1, if_neg fun e => hs (a, b) e List.mem_cons_self]
    refine watchF_good nd.2 (fun t ht => h t (List.mem_cons_of_mem _ ht)) fun p hp hp' => ?_
    rcases List.mem_append.mp hp with hp | hp
    · exact hs p hp (List.mem_cons_of_mem _ hp')
    · rw [List.mem_singleton.mp hp] at hp'
      exact nd.1 hp'
theorem web_made {K : PySem.W.Frag} {E : XK} {Q : VK} {H : Hp} {P : Addr → Prop} {v u : V} {us dvs : List V} {fs : List (Str × Int)} {ws : List (Str × Str × Int)} (e : us ++ dvs = [v, u]) (hv : Rp P H 2 (rowsD (fs.map frow)) v) (hu : Rp P H 2 (rowsD (ws.map trow)) u ∨ (ws = [] ∧ ∃ t, u = .ref t ∧ ∀ H', SqT K H' t []))
    (nm : ∀ f ∈ fs, nameB f.1 = true ∧ 0 ≤ f.2 ∧ f.2 ≤ 9999) (nd : (fs.map (·.1)).Nodup) (l1 : 1 ≤ fs.length) (l10 : fs.length ≤ 10) (wn : (ws.map fun t => (t.1, t.2.1)).Nodup) (wm : ∀ t ∈ ws, t.1 ∈ fs.map (·.1) ∧ t.2.1 ∈ fs.map (·.1) ∧ t.1 ≠ t.2.1 ∧ 1 ≤ t.2.2 ∧ t.2.2 ≤ 9999) (wl : ws.length ≤ 24)
    (k : ∀ x ds H', WebAt K H' x fs ds → ds.Perm ws → PairS (fs.map (·.1)) ds → Same H H' → H x = none → Q (.ref x) H') : MakeEnd (gad K "Web") (sp_Web__init K) dvs E Q us H := by
  intro x dx hx hdx nx
  rw [e]
  have nf : (fs.map fD).map fI = fs := by
    rw [List.map_map]
    conv => rhs; rw [← List.map_id fs]
    exact List.map_congr_left fun f _ => rfl
  have nw : (ws.map wD).map wI = ws := by
    rw [List.map_map]
    conv => rhs; rw [← List.map_id ws]
    exact List.map_congr_left fun f _ => rfl
  have n1 : (fs.map fD).map (·.1) = fs.map (·.1) := by rw [List.map_map]; rfl
  have fF := folkF_good nm nd (seen := []) (fun _ h => nomatch h)
  have wF := watchF_good (ns := fs.map (·.1)) wn wm (seen := []) (fun _ h => nomatch h)
  have sm : Same H (upd (upd H dx (.own x)) x (.ins (gad K "Web") dx [])) := fun b o h => by
    rw [upd_ne (ne_of_none h hx), upd_ne (ne_of_none h hdx)]
    exact h
  have len : (fs.map fD).length = fs.length := List.length_map _
  have lenw : (ws.map wD).length = ws.length := List.length_map _
  refine ⟨x, dx, P, fs.map fD, ws.map wD, v, u, rfl, upd_same, by rw [folkD_rows]; exact hv.same sm, fun q hq => ?_, ?_, fun t ht => ?_, fun _ _ _ _ _ ds H' hw pm ps sx => ?_, fun h => absurd ⟨by omega, by omega⟩ h, fun _ _ c f y h => ?_, fun _ _ _ h => absurd (by omega) h, fun _ _ _ _ c f y h => ?_, fun _ _ _ _ a b h => ?_⟩
  · obtain ⟨f, hf, rfl⟩ := List.mem_map.mp hq
    have := nameB_len (nm f hf).1
    exact ⟨by show f.1.length ≤ 1000; omega, rfl⟩
  · rcases hu with hu | ⟨e2, t, rfl, ht⟩
    · exact .inl (by rw [watchD_rows]; exact hu.same sm)
    · exact .inr ⟨by rw [e2]; rfl, t, rfl, ht⟩
  · obtain ⟨w, hw, rfl⟩ := List.mem_map.mp ht
    rfl
  · rw [nf] at hw
    rw [nw] at pm
    rw [n1] at ps
    exact ⟨rfl, k x ds H' hw pm ps (fun b o h => sx b o (sm b o h) (ne_of_none h hx)) hx⟩
  · rw [fF] at h
    cases h
  · rw [n1, wF] at h
    cases h
  · rw [n1, wF] at h
    cases h
theorem atomF (fs : List (Str × Int)) : ∀ r ∈ fs.map frow, r.length ≤ 1000 ∧ ∀ v ∈ r, atomB v = true := by
  intro r hr
  obtain ⟨f, _, rfl⟩ := List.mem_map.mp hr
  refine ⟨show 2 ≤ 1000 by decide, fun v hv => ?_⟩
  rcases List.mem_cons.mp hv with rfl | hv
  · rfl
  · rw [List.mem_singleton.mp hv]
    rfl
def sp_law_size (K : PySem.W.Frag) : Sp := fun vs H Q _ => ∃ (s : Addr) (a b c : Int), vs = [.ref s, .int a, .int b, .int c] ∧ StOk H s ∧ a ≤ b ∧ b ≤ c ∧ c - a < 10 ^ 69 ∧ ∀ n H', a ≤ n → n ≤ c → StOk H' s → Fr s H H' → Q (.int n) H'
theorem ok_law_size {f : Addr} {fd : FuncData}
    {f_law_take : Addr} {fd_law_take : FuncData} (D_law_take : Dn K mg "_law_take" s_law_take p_law_take f_law_take fd_law_take) (G_law_take : FnOk P w K mg base CX0 2 f_law_take fd_law_take p_law_take (sp_law_take K))
    (T : Txt K mg) (D : Dn K mg "_law_size" s_law_size p_law_size f fd) : FnOk P w K mg base CX0 3 f fd p_law_size (sp_law_size K) := by
  refine D.F.ok sc_law_size (fun vs H Q E h => ?_) (fun cdv A outer s' H vs Q E hr h => ?_)
  · obtain ⟨s, a, b, c, rfl, _⟩ := h
    rfl
  · obtain ⟨s, a, b, c, rfl, hst, hab, hbc, hm, k⟩ := h
    refine ⟨_, (pss_cons (ps_set (i := 4) sc_law_size.nd rfl (Or.inl rfl) (pe_call G_law_take (hr.mono (by omega)) (by rfl) D_law_take.m D_law_take.F.kp D_law_take.b .nil pass0 (pa_cons (pv 0) (pa_cons pe_int pa_nil))))
  (pss_cons (ps_if (pt_cmpR op_lt (pv 4) pe_int (nomark _)) (pss_one (ps_ret (pv 1))) pss_nil)
  (pss_cons (ps_if (pt_cmpR op_eq (pv 4) pe_int (nomark _)) (pss_one (ps_ret (pv 3))) pss_nil)
  (pss_cons (ps_if (pt_cmpR op_eq (pv 4) pe_int (nomark _)) (pss_one (ps_ret (pe_op op_add (pv 1) (pe_call G_law_take (hr.mono (by omega)) (by rfl) D_law_take.m D_law_take.F.kp D_law_take.b .nil pass0 (pa_cons (pv 0) (pa_cons (pe_op op_add (pe_op op_sub (pv 3) (pv 1)) pe_int) pa_nil)))))) pss_nil)
  (pss_one (ps_ret (pe_op op_add (pv 1) (pe_call G_law_take (hr.mono (by omega)) (by rfl) D_law_take.m D_law_take.F.kp D_law_take.b .nil pass0 (pa_cons (pv 0) (pa_cons (pe_op op_add (pe_op op_sub (pv 2) (pv 1)) pe_int) pa_nil)))))))))), ?_⟩
    walk_at "my sts"
    refine ⟨s, _, rfl, hst, by decide, fun n H1 n0 n6 hst1 f1 => ?_⟩
    walk_at "my sts"
    refine i_ite (fun _ => ?_) fun _ => ?_
    · walk_at "my sts"
      exact k _ _ (by omega) (by omega) hst1 f1
    walk_at "my sts"
    refine i_ite (fun _ => ?_) fun _ => ?_
    · walk_at "my sts"
      exact k _ _ (by omega) (by omega) hst1 f1
    walk_at "my sts"
    refine i_ite (fun _ => ?_) fun _ => ?_
    · walk_at "my sts"
      refine ⟨s, _, rfl, hst1, by omega, fun n2 H2 m0 m1 hst2 f2 => ?_⟩
      walk_at "my sts"
      exact k _ _ (by omega) (by omega) hst2 (f1.trans f2)
    · walk_at "my sts"
      refine ⟨s, _, rfl, hst1, by omega, fun n2 H2 m0 m1 hst2 f2 => ?_⟩
      walk_at "my sts"
      exact k _ _ (by omega) (by omega) hst2 (f1.trans f2)
def sp_law_some_of (K : PySem.W.Frag) : Sp := fun vs H Q _ => ∃ (s p : Addr) (xs : List V), vs = [.ref s, .ref p] ∧ StOk H s ∧ Lt2 H p xs ∧ p ≠ s ∧ xs.length ≤ 1000 ∧ ∀ l ys H', H l = none → H' l = some (.lst ys) → ys.Sublist xs → StOk H' s → Fr s H H' → Q (.ref l) H'
theorem ok_law_some_of {f : Addr} {fd : FuncData}
    {f_law_take : Addr} {fd_law_take : FuncData} (D_law_take : Dn K mg "_law_take" s_law_take p_law_take f_law_take fd_law_take) (G_law_take : FnOk P w K mg base CX0 2 f_law_take fd_law_take p_law_take (sp_law_take K))
    {f_law_pick : Addr} {fd_law_pick : FuncData} (D_law_pick : Dn K mg "_law_pick" s_law_pick p_law_pick f_law_pick fd_law_pick) (G_law_pick : FnOk P w K mg base CX0 3 f_law_pick fd_law_pick p_law_pick (sp_law_pick K))
    (T : Txt K mg) (D : Dn K mg "_law_some_of" s_law_some_of p_law_some_of f fd) : FnOk P w K mg base CX0 4 f fd p_law_some_of (sp_law_some_of K) := by
  refine D.F.ok sc_law_some_of (fun vs H Q E h => ?_) (fun cdv A outer s' H vs Q E hr h => ?_)
  · obtain ⟨s, p, xs, rfl, _⟩ := h
    rfl
  · obtain ⟨s, p, xs, rfl, hst, hp, np, hl, k⟩ := h
    refine ⟨_, (pss_cons (ps_if (pt_cmpR op_eq (pe_callB (n_lenVK (K := K) rfl) (by rfl) T.b_len (by decide +kernel) (pa_cons (pv 1) pa_nil)) pe_int (nomark _)) (pss_one (ps_ret (pe_lst pa_nil))) pss_nil)
  (pss_cons (ps_set (i := 2) sc_law_some_of.nd rfl (Or.inl rfl) (pe_call G_law_take (hr.mono (by omega)) (by rfl) D_law_take.m D_law_take.F.kp D_law_take.b .nil pass0 (pa_cons (pv 0) (pa_cons pe_int pa_nil))))
  (pss_cons (ps_if (pt_cmpR op_eq (pv 2) pe_int (nomark _)) (pss_one (ps_ret (pe_lst pa_nil))) pss_nil)
  (pss_cons (ps_if (pt_cmpR op_eq (pv 2) pe_int (nomark _)) (pss_one (ps_ret (pe_callTy (n_listK (K := K) rfl) (by rfl) T.b_list (by decide +kernel) (pa_cons (pv 1) pa_nil)))) pss_nil)
  (pss_cons (ps_if (pt_cmpR op_eq (pv 2) pe_int (nomark _)) (pss_one (ps_ret (pe_lst (pa_cons (pe_call G_law_pick (hr.mono (by omega)) (by rfl) D_law_pick.m D_law_pick.F.kp D_law_pick.b .nil pass0 (pa_cons (pv 0) (pa_cons (pv 1) pa_nil))) pa_nil)))) pss_nil)
  (pss_one (ps_ret (pe_lc (own := [("item", 3)]) rfl sc_law_some_of.nd (pi_any (K := K) rfl (pv 1)) (blkOk_by (own := [("item", 3)]) (N := n_law_some_of) (sc := defScope s_law_some_of) (by decide +kernel)) (fun _ _ _ _ _ => (pg_name (i := 3) sc_law_some_of.nd rfl (Or.inl rfl))) (fun _ _ _ _ _ => (pts_one (pt_cmpR op_eq (pe_call G_law_take (hr.mono (by omega)) (by rfl) D_law_take.m D_law_take.F.kp D_law_take.b .nil pass0 (pa_cons (pv 0) (pa_cons pe_int pa_nil))) pe_int (nomark _)))) (fun _ _ _ _ _ => (pv 3)))))))))), ?_⟩
    walk_at "my sts"
    refine i_lenVLt hp ?_
    walk_at "my sts"
    refine i_ite (fun _ => ?_) fun h0 => ?_
    · walk_at "my sts"
      exact lst_end (by decide) fun l H1 hl0 s1 h1 => k l [] H1 hl0 h1 (List.nil_sublist _) (hst.same s1) (Fr.same s1)
    have hx : ¬ xs.length = 0 := fun e => by
      have := of_decide_eq_false h0
      rw [e] at this
      exact this rfl
    walk_at "my sts"
    refine ⟨s, _, rfl, hst, by decide, fun n H2 n0 n6 hst2 f2 => ?_⟩
    have hp2 := hp.fr np f2
    walk_at "my sts"
    refine i_ite (fun _ => ?_) fun _ => ?_
    · walk_at "my sts"
      exact lst_end (by decide) fun l H1 hl0 s1 h1 => k l [] H1 (f2.free hl0 (hst2.ne hl0)) h1 (List.nil_sublist _) (hst2.same s1) (f2.trans (Fr.same s1))
    walk_at "my sts"
    refine i_ite (fun _ => ?_) fun _ => ?_
    · walk_at "my sts"
      exact list_endLt hp2 fun l H1 hl0 s1 h1 => k l xs H1 (f2.free hl0 (hst2.ne hl0)) h1 (List.Sublist.refl _) (hst2.same s1) (f2.trans (Fr.same s1))
    walk_at "my sts"
    refine i_ite (fun _ => ?_) fun _ => ?_
    · walk_at "my sts"
      refine ⟨s, .ref p, rfl, hst2, .inr (.inr ⟨p, xs, rfl, hp2, np, by omega, by omega, fun v H3 hv hst3 f3 => ?_⟩)⟩
      walk_at "my sts"
      exact lst_end (show 1 ≤ 100000 by decide) fun l H1 hl0 s1 h1 => k l [v] H1 (f2.free (f3.free hl0 (hst3.ne hl0)) (hst3.ne hl0)) h1 (List.singleton_sublist.mpr hv) (hst3.same s1) (f2.trans (f3.trans (Fr.same s1)))
    walk_at "my sts"
    refine lcLt (xs := xs) rfl hp2 (fun D i H' => StOk H' s ∧ Fr s H2 H' ∧ ∃ acc, H' D = some (.lst acc) ∧ acc.Sublist (xs.take i)) (fun D hD => ⟨hst2.new hD, Fr.new Fr.refl hD, [], upd_same, List.nil_sublist _⟩) (fun D i H' u hD g hu => g.2.1.1 _ _ hu np) ?_ ?_
    · rintro D i x H' hD hx ⟨g1, g2, acc, g3, g4⟩
      have nD : D ≠ s := hst2.ne hD
      have hi := (List.getElem?_eq_some_iff.mp hx).1
      have tk : xs.take (i + 1) = xs.take i ++ [x] := by
        rw [List.take_add_one, hx]
        rfl
      refine ⟨rfl, ?_⟩
      walk_at "my sts"
      refine ⟨s, 2, rfl, g1, by decide, fun n H4 n0 n1 hst4 f4 => ?_⟩
      have g5 := f4.1 _ _ g3 nD
      walk_at "my sts"
      refine i_ite (fun _ => ?_) fun _ => ?_
      · walk_at "my sts"
        obtain ⟨a1, a2, a3, _⟩ := mut_all (ys := acc ++ [x]) hst2 (g2.trans f4) hst4 hD
        have gl := g4.length_le
        rw [List.length_take] at gl
        refine ⟨acc, g5, Nat.lt_of_le_of_lt (show acc.length ≤ 1000 by omega) (by decide), a1, a2, _, a3, ?_⟩
        rw [tk]
        exact g4.append (List.Sublist.refl _)
      · refine ⟨hst4, g2.trans f4, acc, g5, ?_⟩
        rw [tk]
        exact g4.trans (List.sublist_append_left _ _)
    · rintro D H' hD ⟨g1, g2, acc, g3, g4⟩
      walk_at "my sts"
      rw [List.take_length] at g4
      exact k D acc H' (f2.free hD (hst2.ne hD)) g3 g4 g1 (f2.trans g2)
def sp_law_awake (K : PySem.W.Frag) : Sp := fun vs H Q _ => ∃ (s p : Addr) (ns : List Str), vs = [.ref s, .ref p] ∧ StOk H s ∧ H p = some (.lst (ns.map V.str)) ∧ p ≠ s ∧ ns.length ≤ 1000 ∧
  ∀ o (row ms : List Str) H', H o = none → H' o = some (.lst (row.map V.str)) → ms.Sublist ns → row.Perm ms → StOk H' s → Fr s H H' → Q (.ref o) H'
theorem ok_law_awake {f : Addr} {fd : FuncData}
    {f_law_mixed : Addr} {fd_law_mixed : FuncData} (D_law_mixed : Dn K mg "_law_mixed" s_law_mixed p_law_mixed f_law_mixed fd_law_mixed) (G_law_mixed : FnOk P w K mg base CX0 3 f_law_mixed fd_law_mixed p_law_mixed (sp_law_mixed K))
    {f_law_some_of : Addr} {fd_law_some_of : FuncData} (D_law_some_of : Dn K mg "_law_some_of" s_law_some_of p_law_some_of f_law_some_of fd_law_some_of) (G_law_some_of : FnOk P w K mg base CX0 4 f_law_some_of fd_law_some_of p_law_some_of (sp_law_some_of K))
    (T : Txt K mg) (D : Dn K mg "_law_awake" s_law_awake p_law_awake f fd) : FnOk P w K mg base CX0 5 f fd p_law_awake (sp_law_awake K) := by
  refine D.F.ok sc_law_awake (fun vs H Q E h => ?_) (fun cdv A outer s' H vs Q E hr h => ?_)
  · obtain ⟨_, _, _, rfl, _⟩ := h
    rfl
  · obtain ⟨s, p, ns, rfl, hst, hp, np, l, k⟩ := h
    refine ⟨_, (pss_one (ps_ret (pe_call G_law_mixed (hr.mono (by omega)) (by rfl) D_law_mixed.m D_law_mixed.F.kp D_law_mixed.b .nil pass0 (pa_cons (pv 0) (pa_cons (pe_call G_law_some_of (hr.mono (by omega)) (by rfl) D_law_some_of.m D_law_some_of.F.kp D_law_some_of.b .nil pass0 (pa_cons (pv 0) (pa_cons (pv 1) pa_nil))) pa_nil))))), ?_⟩
    walk_at "my sts"
    refine ⟨s, p, _, rfl, hst, .inl hp, np, by rw [List.length_map]; exact l, fun a ys H1 ha h1 sub hst1 f1 => ?_⟩
    have la := sub.length_le
    rw [List.length_map] at la
    walk_at "my sts"
    refine ⟨s, a, ys, rfl, hst1, .inl h1, hst.ne ha, by omega, fun o zs H2 ho h2 pm hst2 f2 => ?_⟩
    obtain ⟨ms, hm, rfl⟩ := List.sublist_map_iff.mp sub
    obtain ⟨row, pr, rfl⟩ := perm_map_inv V.str pm
    walk_at "my sts"
    exact k o row ms H2 (f1.free ho (hst1.ne ho)) h2 hm pr hst2 (f1.trans f2)
def sp_law_bad_name (K : PySem.W.Frag) : Sp := fun vs H Q _ => ∃ (s : Addr), vs = [.ref s] ∧ StOk H s ∧ ∀ (z : Str) H', z.length ≤ 1000 → StOk H' s → Fr s H H' → Q (.str z) H'
theorem ok_law_bad_name {f : Addr} {fd : FuncData}
    {f_law_name : Addr} {fd_law_name : FuncData} (D_law_name : Dn K mg "_law_name" s_law_name p_law_name f_law_name fd_law_name) (G_law_name : FnOk P w K mg base CX0 4 f_law_name fd_law_name p_law_name (sp_law_name K))
    {f_law_take : Addr} {fd_law_take : FuncData} (D_law_take : Dn K mg "_law_take" s_law_take p_law_take f_law_take fd_law_take) (G_law_take : FnOk P w K mg base CX0 2 f_law_take fd_law_take p_law_take (sp_law_take K))
    {f_law_some : Addr} {fd_law_some : FuncData} (D_law_some : Dn K mg "_law_some" s_law_some p_law_some f_law_some fd_law_some) (G_law_some : FnOk P w K mg base CX0 3 f_law_some fd_law_some p_law_some (sp_law_some K))
    (T : Txt K mg) (D : Dn K mg "_law_bad_name" s_law_bad_name p_law_bad_name f fd) : FnOk P w K mg base CX0 5 f fd p_law_bad_name (sp_law_bad_name K) := by
  refine D.F.ok sc_law_bad_name (fun vs H Q E h => ?_) (fun cdv A outer s' H vs Q E hr h => ?_)
  · obtain ⟨s, rfl, _⟩ := h
    rfl
  · obtain ⟨s, rfl, hst, k⟩ := h
    refine ⟨_, (pss_cons (ps_set (i := 1) sc_law_bad_name.nd rfl (Or.inl rfl) pe_str)
  (pss_cons (ps_set (i := 2) sc_law_bad_name.nd rfl (Or.inl rfl) (pe_call G_law_name (hr.mono (by omega)) (by rfl) D_law_name.m D_law_name.F.kp D_law_name.b .nil pass0 (pa_cons (pv 0) pa_nil)))
  (pss_cons (ps_set (i := 3) sc_law_bad_name.nd rfl (Or.inl rfl) (pe_call G_law_take (hr.mono (by omega)) (by rfl) D_law_take.m D_law_take.F.kp D_law_take.b .nil pass0 (pa_cons (pv 0) (pa_cons pe_int pa_nil))))
  (pss_cons (ps_if (pt_cmpR op_eq (pv 3) pe_int (nomark _)) (pss_one (ps_ret pe_str)) pss_nil)
  (pss_cons (ps_if (pt_cmpR op_eq (pv 3) pe_int (nomark _)) (pss_one (ps_ret (pe_op n_addZ (pe_ix ix_str pe_str (pe_call G_law_take (hr.mono (by omega)) (by rfl) D_law_take.m D_law_take.F.kp D_law_take.b .nil pass0 (pa_cons (pv 0) (pa_cons pe_int pa_nil))) (fun _ _ => rfl)) (pe_slice sl_str (pv 2) po_none (po_some pe_int))))) pss_nil)
  (pss_cons (ps_if (pt_cmpR op_eq (pv 3) pe_int (nomark _)) (pss_one (ps_ret (pe_slice sl_str (pe_op op_mul_str (pv 2) pe_int) po_none (po_some (pe_op op_add pe_int (pe_call G_law_some (hr.mono (by omega)) (by rfl) D_law_some.m D_law_some.F.kp D_law_some.b .nil pass0 (pa_cons (pv 0) (pa_cons pe_int (pa_cons pe_int pa_nil))))))))) pss_nil)
  (pss_cons (ps_if (pt_cmpR op_eq (pv 3) pe_int (nomark _)) (pss_one (ps_ret (pe_op n_addZ (pe_bm0 PySem.F.plainAttrs_str PySem.F.slot_str_upper PySem.F.type_str_upper n_upper (pe_slice sl_str (pv 2) po_none (po_some pe_int))) (pe_slice sl_str (pv 2) (po_some pe_int) po_none)))) pss_nil)
  (pss_cons (ps_set (i := 4) sc_law_bad_name.nd rfl (Or.inl rfl) (pe_call G_law_take (hr.mono (by omega)) (by rfl) D_law_take.m D_law_take.F.kp D_law_take.b .nil pass0 (pa_cons (pv 0) (pa_cons (pe_callB n_lenZ (by rfl) T.b_len (by decide +kernel) (pa_cons (pv 2) pa_nil)) pa_nil))))
  (pss_cons (ps_set (i := 5) sc_law_bad_name.nd rfl (Or.inl rfl) (pe_ix ix_str (pv 1) (pe_call G_law_take (hr.mono (by omega)) (by rfl) D_law_take.m D_law_take.F.kp D_law_take.b .nil pass0 (pa_cons (pv 0) (pa_cons (pe_callB n_lenZ (by rfl) T.b_len (by decide +kernel) (pa_cons (pv 1) pa_nil)) pa_nil))) (fun _ _ => rfl)))
  (pss_cons (ps_if (pt_cmpR op_eq (pv 3) pe_int (nomark _)) (pss_one (ps_ret (pe_op n_addZ (pe_op n_addZ (pe_slice sl_str (pv 2) po_none (po_some (pv 4))) (pv 5)) (pe_slice sl_str (pv 2) (po_some (pe_op op_add (pv 4) pe_int)) po_none)))) pss_nil)
  (pss_one (ps_ret (pe_op n_addZ (pe_op n_addZ (pe_slice sl_str (pv 2) po_none (po_some (pe_op op_add (pv 4) pe_int))) (pv 5)) (pe_slice sl_str (pv 2) (po_some (pe_op op_add (pv 4) pe_int)) po_none)))))))))))))), ?_⟩
    walk_at "my sts"
    refine ⟨s, rfl, hst, fun z H1 hz hst1 f1 => ?_⟩
    obtain ⟨z0, z1⟩ := nameB_len hz
    walk_at "my sts"
    refine ⟨s, _, rfl, hst1, by decide, fun n H2 n0 n1 hst2 f2 => ?_⟩
    have f2 := f1.trans f2
    walk_at "my sts"
    refine i_ite (fun _ => ?_) fun _ => ?_
    · walk_at "my sts"
      exact k _ _ (by decide) hst2 f2
    walk_at "my sts"
    refine i_ite (fun _ => ?_) fun _ => ?_
    · have ls : ("0123456789" : Str).length = 10 := by decide +kernel
      walk_at "my sts"
      refine ⟨s, _, rfl, hst2, by decide, fun n3 H3 c0 c1 hst3 f3 => ?_⟩
      obtain ⟨c, hc, _⟩ := at_str (z := "0123456789") (i := n3) c0 (by omega)
      refine i_ixS (by rw [ls]; decide) hc ?_
      have := len_one c
      walk_at "my abs"
      exact k _ _ (by omega) hst3 (f2.trans f3)
    walk_at "my sts"
    refine i_ite (fun _ => ?_) fun _ => ?_
    · walk_at "my sts"
      refine a_mul (by decide) (by omega) fun w hw => ?_
      have hw : w.length = 60 * z.length := hw
      walk_at "my sts"
      refine ⟨s, 0, 51, rfl, hst2, by decide, fun n3 H3 b0 b1 hst3 f3 => ?_⟩
      walk_at "my abs"
      exact k _ _ (by omega) hst3 (f2.trans f3)
    walk_at "my sts"
    refine i_ite (fun _ => ?_) fun _ => ?_
    · walk_at "my abs"
      exact k _ _ (by omega) hst2 f2
    have ls : (" !\"#$&'()*+,-./:;<=>?@ABCDEFGHIJKLMNOPQRSTUVWXYZ[\\]^_`{|}~" : Str).length = 58 := by decide +kernel
    walk_at "my sts"
    refine ⟨s, _, rfl, hst2, by omega, fun n3 H3 b0 b1 hst3 f3 => ?_⟩
    walk_at "my sts"
    refine ⟨s, _, rfl, hst3, by rw [ls]; decide, fun n4 H4 d0 d1 hst4 f4 => ?_⟩
    rw [ls] at d1
    obtain ⟨c, hc, _⟩ := at_str (z := " !\"#$&'()*+,-./:;<=>?@ABCDEFGHIJKLMNOPQRSTUVWXYZ[\\]^_`{|}~") (i := n4) d0 (by rw [ls]; omega)
    refine i_ixS (by rw [ls]; decide) hc ?_
    have := len_one c
    have f4 := f2.trans (f3.trans f4)
    walk_at "my sts"
    refine i_ite (fun _ => ?_) fun _ => ?_
    · walk_at "my abs"
      exact k _ _ (by omega) hst4 f4
    · walk_at "my abs"
      exact k _ _ (by omega) hst4 f4
def sp_law_stranger (K : PySem.W.Frag) : Sp := fun vs H Q _ => ∃ (s p : Addr) (ns : List Str), vs = [.ref s, .ref p] ∧ StOk H s ∧ H p = some (.lst (ns.map V.str)) ∧ p ≠ s ∧ ns.length ≤ 20 ∧ (∀ n ∈ ns, nameB n = true) ∧ ∀ (z : Str) H', z ∉ ns → z.length ≤ 1000 → StOk H' s → Fr s H H' → Q (.str z) H'
theorem ok_law_stranger {f : Addr} {fd : FuncData}
    {f_law_take : Addr} {fd_law_take : FuncData} (D_law_take : Dn K mg "_law_take" s_law_take p_law_take f_law_take fd_law_take) (G_law_take : FnOk P w K mg base CX0 2 f_law_take fd_law_take p_law_take (sp_law_take K))
    {f_law_unlike : Addr} {fd_law_unlike : FuncData} (D_law_unlike : Dn K mg "_law_unlike" s_law_unlike p_law_unlike f_law_unlike fd_law_unlike) (G_law_unlike : FnOk P w K mg base CX0 1 f_law_unlike fd_law_unlike p_law_unlike (sp_law_unlike K))
    {f_law_pick : Addr} {fd_law_pick : FuncData} (D_law_pick : Dn K mg "_law_pick" s_law_pick p_law_pick f_law_pick fd_law_pick) (G_law_pick : FnOk P w K mg base CX0 3 f_law_pick fd_law_pick p_law_pick (sp_law_pick K))
    {f_law_name : Addr} {fd_law_name : FuncData} (D_law_name : Dn K mg "_law_name" s_law_name p_law_name f_law_name fd_law_name) (G_law_name : FnOk P w K mg base CX0 4 f_law_name fd_law_name p_law_name (sp_law_name K))
    {f_law_bad_name : Addr} {fd_law_bad_name : FuncData} (D_law_bad_name : Dn K mg "_law_bad_name" s_law_bad_name p_law_bad_name f_law_bad_name fd_law_bad_name) (G_law_bad_name : FnOk P w K mg base CX0 5 f_law_bad_name fd_law_bad_name p_law_bad_name (sp_law_bad_name K))
    (T : Txt K mg) (D : Dn K mg "_law_stranger" s_law_stranger p_law_stranger f fd) : FnOk P w K mg base CX0 6 f fd p_law_stranger (sp_law_stranger K) := by
  refine D.F.ok sc_law_stranger (fun vs H Q E h => ?_) (fun cdv A outer s' H vs Q E hr h => ?_)
  · obtain ⟨s, p, ns, rfl, _⟩ := h
    rfl
  · obtain ⟨s, p, ns, rfl, hst, hp, np, l20, nm, k⟩ := h
    refine ⟨_, (pss_cons (ps_set (i := 2) sc_law_stranger.nd rfl (Or.inl rfl) (pe_call G_law_take (hr.mono (by omega)) (by rfl) D_law_take.m D_law_take.F.kp D_law_take.b .nil pass0 (pa_cons (pv 0) (pa_cons pe_int pa_nil))))
  (pss_cons (ps_if (pt_cmpR op_eq (pv 2) pe_int (nomark _)) (pss_one (ps_ret (pe_call G_law_unlike (hr.mono (by omega)) (by rfl) D_law_unlike.m D_law_unlike.F.kp D_law_unlike.b .nil pass0 (pa_cons (pe_call G_law_bad_name (hr.mono (by omega)) (by rfl) D_law_bad_name.m D_law_bad_name.F.kp D_law_bad_name.b .nil pass0 (pa_cons (pv 0) pa_nil)) (pa_cons (pv 1) pa_nil))))) pss_nil)
  (pss_cons (ps_if (PW.pt (pw_and (pt_cmpR op_lt (pv 2) pe_int (nomark _)) (pw_and1 (pt_cmpR op_gt (pe_callB (n_lenQK (K := K) rfl) (by rfl) T.b_len (by decide +kernel) (pa_cons (pv 1) pa_nil)) pe_int (nomark _))))) (pss_cons (ps_set (i := 3) sc_law_stranger.nd rfl (Or.inl rfl) (pe_call G_law_pick (hr.mono (by omega)) (by rfl) D_law_pick.m D_law_pick.F.kp D_law_pick.b .nil pass0 (pa_cons (pv 0) (pa_cons (pv 1) pa_nil))))
  (pss_cons (ps_set (i := 3) sc_law_stranger.nd rfl (Or.inl rfl) (pe_ix (ix_listK (K := K) rfl) (pe_lst (pa_cons (pe_op n_addZ (pv 3) pe_str) (pa_cons (pe_slice sl_str (pv 3) po_none (po_some (pe_un un_neg pe_int))) (pa_cons (pe_bm0 PySem.F.plainAttrs_str PySem.F.slot_str_upper PySem.F.type_str_upper n_upper (pv 3)) (pa_cons (pe_op n_addZ pe_str (pv 3)) (pa_cons (pe_op n_addZ (pv 3) pe_str) (pa_cons (pe_op n_addZ (pv 3) (pv 3)) pa_nil))))))) (pe_call G_law_take (hr.mono (by omega)) (by rfl) D_law_take.m D_law_take.F.kp D_law_take.b .nil pass0 (pa_cons (pv 0) (pa_cons pe_int pa_nil))) (fun _ _ => rfl)))
  (pss_one (ps_ret (pe_call G_law_unlike (hr.mono (by omega)) (by rfl) D_law_unlike.m D_law_unlike.F.kp D_law_unlike.b .nil pass0 (pa_cons (pv 3) (pa_cons (pv 1) pa_nil))))))) pss_nil)
  (pss_one (ps_ret (pe_call G_law_unlike (hr.mono (by omega)) (by rfl) D_law_unlike.m D_law_unlike.F.kp D_law_unlike.b .nil pass0 (pa_cons (pe_call G_law_name (hr.mono (by omega)) (by rfl) D_law_name.m D_law_name.F.kp D_law_name.b .nil pass0 (pa_cons (pv 0) pa_nil)) (pa_cons (pv 1) pa_nil)))))))), ?_⟩
    have un : ∀ (z : Str) (H1 : Hp) (R : VK), z.length ≤ 1000 → StOk H1 s → Fr s H H1 → (∀ (y : Str) H2, y ∉ ns → y.length ≤ 1000 → StOk H2 s → Fr s H H2 → R (.str y) H2) → sp_law_unlike K [.str z, .ref p] H1 R E0 := fun z H1 R hz a b g =>
      ⟨z, p, ns, rfl, b.1 _ _ hp np, l20, hz, fun y H2 hy _ hl s2 => g y H2 hy hl (a.same s2) (b.trans (Fr.same s2))⟩
    walk_at "my sts"
    refine ⟨s, _, rfl, hst, by decide, fun pk H1 n0 n1 hst1 f1 => ?_⟩
    walk_at "my sts"
    refine i_ite (fun _ => ?_) fun _ => ?_
    · walk_at "my sts"
      refine ⟨s, rfl, hst1, fun z H2 hz hst2 f2 => ?_⟩
      walk_at "my sts"
      exact un _ _ _ hz hst2 (f1.trans f2) k
    have hp1 := f1.1 _ _ hp np
    walk_at "my ots"
    refine i_ite (fun hc => ?_) fun _ => ?_
    · have hlen : 0 < ns.length := by
        have := of_decide_eq_true (and_split hc).2
        rw [List.length_map] at this
        omega
      walk_at "my sts"
      refine ⟨s, _, rfl, hst1, .inl ⟨p, _, rfl, hp1, np, by rw [List.length_map]; exact hlen, by rw [List.length_map]; omega, fun v H2 hv hst2 f2 => ?_⟩⟩
      obtain ⟨z, hz, rfl⟩ := List.mem_map.mp hv
      have nz := nameB_len (nm z hz)
      have l1 : ("a" : Str).length = 1 := by decide +kernel
      have l2 : (" " : Str).length = 1 := by decide +kernel
      have f2 := f1.trans f2
      walk_at "my abs"
      refine lst_short (n := 1000) (m := 6) ?_ rfl (by decide) fun q xs H3 hq s3 h3 lx sh => ?_
      · repeat (first | exact Short.nil | refine Short.cons (by omega) ?_)
      have nq : q ≠ s := hst2.ne hq
      walk_at "my sts"
      refine ⟨s, _, rfl, hst2.same s3, by decide, fun m H4 m0 m1 hst4 f4 => ?_⟩
      have h4 := f4.1 _ _ h3 nq
      have hm : m.toNat < xs.length := by omega
      obtain ⟨y, e, ly⟩ := sh _ (List.getElem_mem hm)
      refine i_ixL (sqL h4) (at_of (j := m.toNat) (by omega) ((List.getElem?_eq_getElem hm).trans (congrArg some e))) ?_
      walk_at "my sts"
      exact un _ _ _ ly hst4 (f2.trans ((Fr.same s3).trans f4)) k
    · walk_at "my sts"
      refine ⟨s, rfl, hst1, fun z H2 hz hst2 f2 => ?_⟩
      walk_at "my sts"
      exact un _ _ _ (by have := nameB_len hz; omega) hst2 (f1.trans f2) k
def sp_Web_names (K : PySem.W.Frag) : Sp := fun vs H Q _ => ∃ (x : Addr) (fs : List (Str × Int)) (ws : List (Str × Str × Int)), vs = [.ref x] ∧ WebAt K H x fs ws ∧ ∀ p H', Same H H' → Nt H' p (fs.map (·.1)) → Q (.ref p) H'
theorem ok_Web_names {f : Addr} {fd : FuncData}
    (X_Web : Ci K mg "Web" ["_folk", "_names", "_watches", "_pulls"])
    (T : Txt K mg) (D : Dm K "names" "Web.names" s_Web_names p_Web_names f fd) : FnOk P w K mg base CX0 1 f fd p_Web_names (sp_Web_names K) := by
  refine D.F.ok sc_Web_names (fun vs H Q E h => ?_) (fun cdv A outer s' H vs Q E hr h => ?_)
  · obtain ⟨_, _, _, rfl, _⟩ := h
    rfl
  · obtain ⟨x, fs, ws, rfl, hw, k⟩ := h
    obtain ⟨dx, pf, pn, pw, pp, rf, rw, rp, h1, h2, h3, h4, h5, h6, h7, h8⟩ := hw
    refine ⟨_, (pss_one (ps_ret (pe_fldK (K := K) rfl (pv 0) rfl))), ?_⟩
    walk_at "my sts"
    refine fld_end h1 X_Web.cl (X_Web.no "_names" (by decide)) lk_names ?_
    exact k _ _ (Same.refl _) h4
/-- the first fault of a row of names: class, attribute, name -/
def rowF (ns : List Str) : List Str → List Str → Option (Str × Str × Str)
  | _, [] => none
  | seen, a :: r => if a ∈ ns then (if a ∈ seen then some ("Repeated", "value", a) else rowF ns (seen ++ [a]) r) else some ("UnknownFolk", "name", a)
theorem rowF_pre {ns : List Str} : ∀ {pre seen : List Str} (r : List Str), (∀ a ∈ pre, a ∈ ns ∧ a ∉ seen) → pre.Nodup → rowF ns seen (pre ++ r) = rowF ns (seen ++ pre) r
  | [], seen, r, _, _ => by rw [List.append_nil]; rfl
  | b :: p, seen, r, h, nd => by
    obtain ⟨n1, n2⟩ := List.nodup_cons.mp nd
    have hb := h b List.mem_cons_self
    have go : rowF ns (seen ++ [b]) (p ++ r) = rowF ns (seen ++ [b] ++ p) r := rowF_pre r (fun a ha => ⟨(h a (List.mem_cons_of_mem _ ha)).1, fun hs => by
      rcases List.mem_append.mp hs with hs | hs
      · exact (h a (List.mem_cons_of_mem _ ha)).2 hs
      · rw [List.mem_singleton.mp hs] at ha
        exact n1 ha⟩) n2
    rw [List.append_assoc] at go
    show rowF ns seen (b :: (p ++ r)) = rowF ns (seen ++ ([b] ++ p)) r
    rw [← go, rowF, if_pos hb.1, if_neg hb.2]
theorem rowF_app {ns : List Str} {r : Str × Str × Str} (ys : List Str) : ∀ {xs seen : List Str}, rowF ns seen xs = some r → rowF ns seen (xs ++ ys) = some r
  | [], _, h => nomatch h
  | b :: p, seen, h => by
    show rowF ns seen (b :: (p ++ ys)) = _
    rw [rowF] at h ⊢
    by_cases h1 : b ∈ ns
    · rw [if_pos h1] at h ⊢
      by_cases h2 : b ∈ seen
      · rw [if_pos h2] at h ⊢
        exact h
      · rw [if_neg h2] at h ⊢
        exact rowF_app ys h
    · rw [if_neg h1] at h ⊢
      exact h
theorem rowF_strange {ns row : List Str} (nd : row.Nodup) (hm : ∀ a ∈ row, a ∈ ns) {z : Str} (hz : z ∉ ns) (i : Nat) : rowF ns [] (row.take i ++ [z] ++ row.drop i) = some (("UnknownFolk" : Str), ("name" : Str), z) := by
  rw [List.append_assoc, rowF_pre _ (fun a ha => ⟨hm a (List.mem_of_mem_take ha), List.not_mem_nil⟩) ((List.take_sublist _ _).nodup nd)]
  show rowF ns _ (z :: row.drop i) = _
  rw [rowF, if_neg hz]
theorem rowF_again {ns row : List Str} (nd : row.Nodup) (hm : ∀ a ∈ row, a ∈ ns) {i j : Nat} (hj : j < row.length) (h : j < i) : rowF ns [] (row.take i ++ [nth row j] ++ row.drop i) = some (("Repeated" : Str), ("value" : Str), nth row j) := by
  have e : (row.take i)[j]? = some (nth row j) := by rw [List.getElem?_take, if_pos h, nth_get hj]
  rw [List.append_assoc, rowF_pre _ (fun a ha => ⟨hm a (List.mem_of_mem_take ha), List.not_mem_nil⟩) ((List.take_sublist _ _).nodup nd)]
  show rowF ns _ (nth row j :: row.drop i) = _
  rw [rowF, if_pos (hm _ (nth_mem hj)), if_pos (List.mem_append_right _ (List.mem_of_getElem? e))]
theorem rowF_kind {ns : List Str} : ∀ {row seen : List Str} {c f a : Str}, rowF ns seen row = some (c, f, a) → (c = "UnknownFolk" ∧ f = "name") ∨ (c = "Repeated" ∧ f = "value")
  | [], _, _, _, _, h => nomatch h
  | b :: r, seen, c, f, a, h => by
    unfold rowF at h
    by_cases h1 : b ∈ ns
    · rw [if_pos h1] at h
      by_cases h2 : b ∈ seen
      · rw [if_pos h2] at h
        cases h
        exact .inr ⟨rfl, rfl⟩
      · rw [if_neg h2] at h
        exact rowF_kind h
    · rw [if_neg h1] at h
      cases h
      exact .inl ⟨rfl, rfl⟩
/-- the mask of a row -/
def mR (ns : List Str) (row : List Str) : Nat := mN ns fun z => decide (z ∈ row)
theorem mR_lt (ns row : List Str) : mR ns row < 2 ^ ns.length := mN_lt _ _
def sp_mask_of (K : PySem.W.Frag) : Sp := fun vs H Q E => ∃ (x q : Addr) (fs : List (Str × Int)) (ds : List (Str × Str × Int)) (row : List Str), vs = [.ref x, .ref q] ∧ WebAt K H x fs ds ∧ Lt2 H q (row.map V.str) ∧ (fs.map (·.1)).Nodup ∧ fs.length ≤ 1000 ∧
  (rowF (fs.map (·.1)) [] row = none → ∀ H', Same H H' → Q (.int (mR (fs.map (·.1)) row : Nat)) H') ∧
  (∀ c f a, rowF (fs.map (·.1)) [] row = some (c, f, a) → ∀ d H', H d = none → H' d = some (.xd [(f, .str a)]) → Same H H' → E (.ref (gad K c)) (some d) H')
theorem ok_mask_of {f : Addr} {fd : FuncData}
    {f_place_in : Addr} {fd_place_in : FuncData} (D_place_in : Dn K mg "place_in" s_place_in p_place_in f_place_in fd_place_in) (G_place_in : FnOk P w K mg base (L2.CX P w) 5 f_place_in fd_place_in p_place_in (sp_place_in K))
    {f_Repeated__init : Addr} {fd_Repeated__init : FuncData} (D_Repeated__init : Dm K "__init__" "Repeated.__init__" s_Repeated__init p_Repeated__init f_Repeated__init fd_Repeated__init) (G_Repeated__init : FnOk P w K mg base CX0 3 f_Repeated__init fd_Repeated__init p_Repeated__init (sp_Repeated__init K))
    (X_Repeated : Dx K mg "Repeated" (gad K "Repeated") f_Repeated__init ["value"])
    {f_Web_names : Addr} {fd_Web_names : FuncData} (D_Web_names : Dm K "names" "Web.names" s_Web_names p_Web_names f_Web_names fd_Web_names) (G_Web_names : FnOk P w K mg base CX0 1 f_Web_names fd_Web_names p_Web_names (sp_Web_names K))
    {pp_Web_names : Addr} (P_Web_names : PropOf K (gad K "Web") "names" pp_Web_names f_Web_names)
    (X_Web : Ci K mg "Web" ["_folk", "_names", "_watches", "_pulls"])
    (T : Txt K mg) (D : Dn K mg "mask_of" s_mask_of p_mask_of f fd) : FnOk P w K mg base (L2.CX P w) 6 f fd p_mask_of (sp_mask_of K) := by
  refine D.F.okX sc_mask_of (fun vs H Q E h => ?_) (fun cdv A outer s' H vs Q E hr h => ?_)
  · obtain ⟨_, _, _, _, _, rfl, _⟩ := h
    rfl
  · obtain ⟨x, q, fs, ds, row, rfl, hw, hq, nd, l, k1, k2⟩ := h
    generalize hns : fs.map (·.1) = ns at *
    have ln : ns.length ≤ 1000 := by rw [← hns, List.length_map]; exact l
    refine ⟨_, (pss_cons (ps_set (i := 2) sc_mask_of.nd rfl (Or.inl rfl) pe_int)
  (pss_cons (ps_for (passes_of rfl) rfl (pi_any (K := K) rfl (pv 1)) (pg_name (i := 3) sc_mask_of.nd rfl (Or.inl rfl))
   (pss_cons (ps_set (i := 4) sc_mask_of.nd rfl (Or.inl rfl) (pe_op op_shl pe_int (pe_call G_place_in (hr.mono (by omega)) (by rfl) D_place_in.m D_place_in.F.kp D_place_in.b .nil (passes_call (takes_of rfl rfl rfl rfl) (fun _ _ _ _ h => h)) (pa_cons (pe_prop (pv 0) X_Web.cl P_Web_names G_Web_names (hr.mono (by omega)) D_Web_names.b .nil pass0 rfl) (pa_cons (pv 3) pa_nil)))))
  (pss_cons (ps_if (pt_cmpR op_gt (pe_op op_and (pv 2) (pv 4)) pe_int (nomark _)) (pss_one (ps_raise rfl (takes_of rfl rfl rfl rfl) (pmk_oex X_Repeated.oex X_Repeated.iC X_Repeated.tI G_Repeated__init (hr.mono (by omega)) D_Repeated__init.b .nil pass0 (by rfl) X_Repeated.g (pa_cons (pv 3) pa_nil)))) pss_nil)
  (pss_one (ps_set (i := 2) sc_mask_of.nd rfl (Or.inl rfl) (pe_op op_or (pv 2) (pv 4)))))))
  (pss_one (ps_ret (pv 2))))), ?_⟩
    walk_at "my sts"
    refine fa (xs := row.map V.str) rfl hq (fun i σ' H' => Same H H' ∧ rowF ns [] row = rowF ns (row.take i) (row.drop i) ∧ (∀ z ∈ row.take i, z ∈ ns) ∧ ∃ u v, σ' = [some (.ref x), some (.ref q), some (.int ((mR ns (row.take i) : Nat) : Int)), u, v]) ⟨Same.refl _, rfl, (fun _ h => nomatch h), none, none, ?_⟩ ?_ ?_ ?_
    · have : mR ns (row.take 0) = 0 := mN_none ns
      rw [this]
      rfl
    · rintro i σ' H' u ⟨s, _⟩ hu
      exact s _ _ hu
    · rintro i y σ' H1 hy ⟨s1, rf, hin, u, v, rfl⟩
      rw [List.getElem?_map] at hy
      obtain ⟨a, ha, rfl⟩ := Option.map_eq_some_iff.mp hy
      have hi := (List.getElem?_eq_some_iff.mp ha).1
      have dr : row.drop i = a :: row.drop (i + 1) := by
        rw [List.drop_eq_getElem_cons hi]
        rw [List.getElem?_eq_getElem hi] at ha
        rw [Option.some.inj ha]
      have tk : row.take (i + 1) = row.take i ++ [a] := by
        rw [List.take_add_one, ha]
        rfl
      have hw1 := hw.same s1
      obtain ⟨dx, pf, pn, pw, pp, rf0, rw0, rp0, h1, _⟩ := id hw1
      walk_at "my sts"
      refine prop_end h1 ?_
      refine ⟨x, fs, ds, rfl, hw1, fun p2 H2 s2 hn2 => ?_⟩
      rw [hns] at hn2
      walk_at "my sts"
      have s12 := s1.trans s2
      refine ⟨p2, ns, a, rfl, hn2, ?_⟩
      by_cases hm : a ∈ ns
      case neg =>
        refine .inr ⟨hm, fun d H3 hd ed s3 => k2 "UnknownFolk" "name" a ?_ d H3 (s12.free hd) ed (s12.trans s3)⟩
        rw [rf, dr]
        unfold rowF
        rw [if_neg hm]
      have pl := plc_lt hm
      refine .inl ⟨hm, fun H3 s3 => ?_⟩
      have s13 := s12.trans s3
      walk_at "my sts"
      refine i_oneShl (by omega) ?_
      walk_at "my sts"
      rw [two_bit]
      have bt : (mR ns (row.take i)).testBit (plc ns a) = decide (a ∈ row.take i) := mN_at hm
      rw [bt]
      by_cases hr' : a ∈ row.take i
      · rw [decide_eq_true hr', show (if true = true then 2 ^ plc ns a else 0) = 2 ^ plc ns a from rfl]
        walk_at "my sts"
        refine i_ite (fun _ => ?_) fun h => absurd (show ((2 ^ plc ns a : Nat) : Int) > 0 by have := Nat.two_pow_pos (plc ns a); omega) (of_decide_eq_false h)
        walk_at "my sts"
        refine mkA X_Repeated.oex (X_Repeated.no "value" (by decide)) rfl fun d H4 hd ed s4 => k2 "Repeated" "value" a ?_ d H4 (s13.free hd) ed (s13.trans s4)
        rw [rf, dr]
        unfold rowF
        rw [if_pos hm, if_pos hr']
      · rw [decide_eq_false hr', show (if false = true then 2 ^ plc ns a else 0) = 0 from rfl]
        walk_at "my sts"
        refine i_ite (fun h => absurd (of_decide_eq_true h) (by decide)) fun _ => ?_
        walk_at "my sts"
        refine ⟨s13, ?_, ?_, some (.str a), some (.int ((2 ^ plc ns a : Nat) : Int)), ?_⟩
        · rw [rf, dr, tk]
          conv => lhs; unfold rowF
          rw [if_pos hm, if_neg hr']
        · intro z hz
          rw [tk] at hz
          rcases List.mem_append.mp hz with hz | hz
          · exact hin z hz
          · rw [List.mem_singleton.mp hz]
            exact hm
        · have e : mR ns (row.take i) ||| 2 ^ plc ns a = mR ns (row.take (i + 1)) := by
            unfold mR
            rw [mN_add nd hm]
            refine mN_congr fun b _ => ?_
            rw [tk, Bool.eq_iff_iff, Bool.or_eq_true, decide_eq_true_eq, decide_eq_true_eq, decide_eq_true_eq, List.mem_append, List.mem_singleton]
          rw [e]
          rfl
    · rintro σ' H1 ⟨s1, rf, hin, u, v, rfl⟩
      rw [List.length_map, List.take_length, List.drop_length] at rf
      rw [List.length_map, List.take_length]
      walk_at "my sts"
      exact k1 rf _ s1
theorem mem_insW {xs : List Str} {z y : Str} {i : Nat} (h : y ∈ xs.take i ++ [z] ++ xs.drop i) : y ∈ xs ∨ y = z := by
  rcases List.mem_append.mp h with h | h
  · rcases List.mem_append.mp h with h | h
    · exact .inl (List.mem_of_mem_take h)
    · exact .inr (List.mem_singleton.mp h)
  · exact .inl (List.mem_of_mem_drop h)
theorem insW {P : Str → Prop} {xs : List Str} {z : Str} {i : Nat} (h : ∀ a ∈ xs, P a) (hz : P z) : ∀ y ∈ xs.take i ++ [z] ++ xs.drop i, P y := fun y hy => (mem_insW hy).elim (h y) fun e => by rw [e]; exact hz
def sp_law_bent_row (K : PySem.W.Frag) : Sp := fun vs H Q _ => ∃ (s p q : Addr) (ns row : List Str), vs = [.ref s, .ref p, .ref q] ∧ StOk H s ∧ H p = some (.lst (ns.map V.str)) ∧ p ≠ s ∧ ns.length ≤ 20 ∧ (∀ n ∈ ns, nameB n = true) ∧ H q = some (.lst (row.map V.str)) ∧ q ≠ s ∧ row.length ≤ 20 ∧
  ∀ b o z1 z2 (row' : List Str) H', H b = none → H' b = some (.lst [.ref o, .str z1, .str z2]) → H o = none → H' o = some (.lst (row'.map V.str)) → row'.length ≤ 30 → ((∀ a ∈ row, a.length ≤ 1000) → ∀ z ∈ row', z.length ≤ 1000) → (row.Nodup → (∀ a ∈ row, a ∈ ns) → ∃ f, rowF ns [] row' = some (z1, f, z2)) → StOk H' s → Fr s H H' → Q (.ref b) H'
theorem ok_law_bent_row {f : Addr} {fd : FuncData}
    {f_law_take : Addr} {fd_law_take : FuncData} (D_law_take : Dn K mg "_law_take" s_law_take p_law_take f_law_take fd_law_take) (G_law_take : FnOk P w K mg base CX0 2 f_law_take fd_law_take p_law_take (sp_law_take K))
    {f_law_stranger : Addr} {fd_law_stranger : FuncData} (D_law_stranger : Dn K mg "_law_stranger" s_law_stranger p_law_stranger f_law_stranger fd_law_stranger) (G_law_stranger : FnOk P w K mg base CX0 6 f_law_stranger fd_law_stranger p_law_stranger (sp_law_stranger K))
    {f_law_some : Addr} {fd_law_some : FuncData} (D_law_some : Dn K mg "_law_some" s_law_some p_law_some f_law_some fd_law_some) (G_law_some : FnOk P w K mg base CX0 3 f_law_some fd_law_some p_law_some (sp_law_some K))
    {f_law_pick : Addr} {fd_law_pick : FuncData} (D_law_pick : Dn K mg "_law_pick" s_law_pick p_law_pick f_law_pick fd_law_pick) (G_law_pick : FnOk P w K mg base CX0 3 f_law_pick fd_law_pick p_law_pick (sp_law_pick K))
    (T : Txt K mg) (D : Dn K mg "_law_bent_row" s_law_bent_row p_law_bent_row f fd) : FnOk P w K mg base CX0 7 f fd p_law_bent_row (sp_law_bent_row K) := by
  refine D.F.ok sc_law_bent_row (fun vs H Q E h => ?_) (fun cdv A outer s' H vs Q E hr h => ?_)
  · obtain ⟨_, _, _, _, _, rfl, _⟩ := h
    rfl
  · obtain ⟨s, p, q, ns, row, rfl, hst, hp, np, l20, nm, hq, nq, lr, k⟩ := h
    refine ⟨_, (pss_cons (ps_set (i := 3) sc_law_bent_row.nd rfl (Or.inl rfl) (pe_callTy (n_listK (K := K) rfl) (by rfl) T.b_list (by decide +kernel) (pa_cons (pv 2) pa_nil)))
  (pss_cons (ps_set (i := 4) sc_law_bent_row.nd rfl (Or.inl rfl) pe_str)
  (Evl.pss_cut (ps_if (PW.pt (pw_and (pt_cmpR op_gt (pe_callB (n_lenQK (K := K) rfl) (by rfl) T.b_len (by decide +kernel) (pa_cons (pv 3) pa_nil)) pe_int (nomark _)) (pw_and1 (pt_cmpR op_eq (pe_call G_law_take (hr.mono (by omega)) (by rfl) D_law_take.m D_law_take.F.kp D_law_take.b .nil pass0 (pa_cons (pv 0) (pa_cons pe_int pa_nil))) pe_int (nomark _))))) (pss_cons (ps_set (i := 4) sc_law_bent_row.nd rfl (Or.inl rfl) pe_str)
  (pss_cons (ps_set (i := 5) sc_law_bent_row.nd rfl (Or.inl rfl) (pe_call G_law_take (hr.mono (by omega)) (by rfl) D_law_take.m D_law_take.F.kp D_law_take.b .nil pass0 (pa_cons (pv 0) (pa_cons (pe_callB (n_lenQK (K := K) rfl) (by rfl) T.b_len (by decide +kernel) (pa_cons (pv 3) pa_nil)) pa_nil))))
  (pss_cons (ps_set (i := 6) sc_law_bent_row.nd rfl (Or.inl rfl) (pe_ix (ix_listK (K := K) rfl) (pv 3) (pv 5) (fun _ _ => rfl)))
  (pss_one (ps_expr (pe_bm PySem.F.plainAttrs_list PySem.F.slot_list_insert PySem.F.type_list_insert mt_insertR (pv 3) (pa_cons (pe_op op_add (pe_op op_add (pv 5) pe_int) (pe_call G_law_take (hr.mono (by omega)) (by rfl) D_law_take.m D_law_take.F.kp D_law_take.b .nil pass0 (pa_cons (pv 0) (pa_cons (pe_op op_sub (pe_callB (n_lenQK (K := K) rfl) (by rfl) T.b_len (by decide +kernel) (pa_cons (pv 3) pa_nil)) (pv 5)) pa_nil)))) (pa_cons (pv 6) pa_nil)))))))) (pss_cons (ps_set (i := 6) sc_law_bent_row.nd rfl (Or.inl rfl) (pe_call G_law_stranger (hr.mono (by omega)) (by rfl) D_law_stranger.m D_law_stranger.F.kp D_law_stranger.b .nil pass0 (pa_cons (pv 0) (pa_cons (pv 1) pa_nil))))
  (pss_one (ps_expr (pe_bm PySem.F.plainAttrs_list PySem.F.slot_list_insert PySem.F.type_list_insert mt_insertR (pv 3) (pa_cons (pe_call G_law_some (hr.mono (by omega)) (by rfl) D_law_some.m D_law_some.F.kp D_law_some.b .nil pass0 (pa_cons (pv 0) (pa_cons pe_int (pa_cons (pe_callB (n_lenQK (K := K) rfl) (by rfl) T.b_len (by decide +kernel) (pa_cons (pv 3) pa_nil)) pa_nil)))) (pa_cons (pv 6) pa_nil)))))))
  (Evl.pss_cut (ps_if (pt_cmpR op_eq (pe_call G_law_take (hr.mono (by omega)) (by rfl) D_law_take.m D_law_take.F.kp D_law_take.b .nil pass0 (pa_cons (pv 0) (pa_cons pe_int pa_nil))) pe_int (nomark _)) (pss_one (ps_expr (pe_bm PySem.F.plainAttrs_list PySem.F.slot_list_append PySem.F.type_list_append mt_append (pv 3) (pa_cons (pe_call G_law_pick (hr.mono (by omega)) (by rfl) D_law_pick.m D_law_pick.F.kp D_law_pick.b .nil pass0 (pa_cons (pv 0) (pa_cons (pe_op op_cat (pe_lst (pa_cons (pe_call G_law_stranger (hr.mono (by omega)) (by rfl) D_law_stranger.m D_law_stranger.F.kp D_law_stranger.b .nil pass0 (pa_cons (pv 0) (pa_cons (pv 1) pa_nil))) pa_nil)) (pe_callTy (n_listK (K := K) rfl) (by rfl) T.b_list (by decide +kernel) (pa_cons (pv 2) pa_nil))) pa_nil))) pa_nil)))) pss_nil)
  (pss_one (ps_ret (pe_lst (pa_cons (pv 3) (pa_cons (pv 4) (pa_cons (pv 6) pa_nil)))))))))), ?_⟩
    walk_at "my sts"
    refine list_end (sqL hq) fun o H1 ho s1 h1 => ?_
    have no : o ≠ s := hst.ne ho
    have hst1 := hst.same s1
    have f1 : Fr s H H1 := Fr.same s1
    have bend : ∀ {Hx : Hp} {xs : List Str} {i : Int} {z : Str} {R : VK}, StOk Hx s → Fr s H Hx → Hx o = some (.lst (xs.map V.str)) → xs.length ≤ 20 → 0 ≤ i → i ≤ 1000 → (∀ (ys : List Str) H', StOk H' s → Fr s H H' → H' o = some (.lst (ys.map V.str)) → ys.length = xs.length + 1 → ys = xs.take i.toNat ++ [z] ++ xs.drop i.toNat → R .non H') → rInsert (.ref o) [.int i, .str z] Hx R := fun {Hx xs i z R} a b c l i0 i1 g => by
      refine i_insert c (by rw [List.length_map]; omega) i0 i1 ?_
      have e : (xs.map V.str).take i.toNat ++ [V.str z] ++ (xs.map V.str).drop i.toNat = (xs.take i.toNat ++ [z] ++ xs.drop i.toNat).map V.str := by
        rw [List.map_append, List.map_append, List.map_take, List.map_drop]
        rfl
      rw [e]
      obtain ⟨a1, a2, a3, _⟩ := mut_all (ys := (xs.take i.toNat ++ [z] ++ xs.drop i.toNat).map V.str) hst b a ho
      refine g _ _ a1 a2 a3 ?_ rfl
      rw [List.length_append, List.length_append, List.length_take, List.length_drop]
      simp only [List.length_cons, List.length_nil]
      omega
    have stray : ∀ {Hx : Hp} (R : VK), StOk Hx s → Fr s H Hx → Hx o = some (.lst (row.map V.str)) → (∀ (z : Str) H', z ∉ ns → z.length ≤ 1000 → StOk H' s → Fr s H H' → H' o = some (.lst (row.map V.str)) → R (.str z) H') → sp_law_stranger K [.ref s, .ref p] Hx R E0 := fun {Hx} R a b c g =>
      ⟨s, p, ns, rfl, a, b.1 _ _ hp np, np, l20, nm, fun z H' zn lz hs f => g z H' zn lz hs (b.trans f) (f.1 _ _ c no)⟩
    have stray2 : ∀ {Hx : Hp} (R : VK), StOk Hx s → Fr s H Hx → (∀ (z : Str) H', z.length ≤ 1000 → StOk H' s → Fr s Hx H' → R (.str z) H') → sp_law_stranger K [.ref s, .ref p] Hx R E0 := fun {Hx} R a b g =>
      ⟨s, p, ns, rfl, a, b.1 _ _ hp np, np, l20, nm, fun z H' _ lz hs f => g z H' lz hs f⟩
    walk_at "my sts"
    refine i_cut (fun σ' H' => ∃ (z1 z2 : Str) (u : Option V) (ys : List Str), σ' = [some (.ref s), some (.ref p), some (.ref q), some (.ref o), some (.str z1), u, some (.str z2)] ∧ H' o = some (.lst (ys.map V.str)) ∧ ys.length ≤ 21 ∧ ((∀ a ∈ row, a.length ≤ 1000) → ∀ z ∈ ys, z.length ≤ 1000) ∧ (row.Nodup → (∀ a ∈ row, a ∈ ns) → ∃ f, rowF ns [] ys = some (z1, f, z2)) ∧ StOk H' s ∧ Fr s H H') ?_ ?_
    · have other : ∀ {Hx : Hp} (R : VK), StOk Hx s → Fr s H Hx → Hx o = some (.lst (row.map V.str)) → (∀ (n : Int) H', 0 ≤ n → n ≤ (row.length : Int) → StOk H' s → Fr s H H' → H' o = some (.lst (row.map V.str)) → R (.int n) H') → sp_law_some K [.ref s, .int 0, .int (row.map V.str).length] Hx R E0 := fun {Hx} R a b c g =>
        ⟨s, _, _, rfl, a, by rw [List.length_map]; omega, fun n H' n0 n1 hs f => g n H' n0 (by rw [List.length_map] at n1; omega) hs (b.trans f) (f.1 _ _ c no)⟩
      walk_at "my sts"
      refine i_ite (fun hl => ?_) fun _ => ?_
      · have hl : 0 < row.length := by
          have := of_decide_eq_true hl
          rw [List.length_map] at this
          omega
        walk_at "my sts"
        refine ⟨s, 2, rfl, hst1, by decide, fun n H2 n0 n1 hst2 f2 => ?_⟩
        have f12 := f1.trans f2
        have h2 := f2.1 _ _ h1 no
        walk_at "my sts"
        refine i_ite (fun _ => ?_) fun _ => ?_
        · walk_at "my sts"
          refine ⟨s, _, rfl, hst2, by rw [List.length_map]; omega, fun m H3 m0 m1 hst3 f3 => ?_⟩
          have f13 := f12.trans f3
          have h3 := f3.1 _ _ h2 no
          rw [List.length_map] at m1
          obtain ⟨j, rfl⟩ := Int.eq_ofNat_of_zero_le m0
          have hj : j < row.length := by omega
          walk_at "my sts"
          refine i_ixL (sqL h3) (at_nth hj) ?_
          walk_at "my sts"
          refine ⟨s, _, rfl, hst3, by rw [List.length_map]; omega, fun m2 H4 m20 m21 hst4 f4 => ?_⟩
          have h4 := f4.1 _ _ h3 no
          rw [List.length_map] at m21
          walk_at "my sts"
          refine bend hst4 (f13.trans f4) h4 lr (by omega) (by omega) fun ys H5 hst5 f5 h5 l5 ey => ?_
          walk_at "my sts"
          exact ⟨_, _, _, ys, rfl, h5, by omega, fun la y hy => insW la (la _ (nth_mem hj)) y (by rw [← ey]; exact hy), fun nd hm => ⟨_, by rw [ey]; exact rowF_again nd hm hj (by omega)⟩, hst5, f5⟩
        · walk_at "my sts"
          refine stray _ hst2 f12 h2 fun z H3 zn lz hst3 f3 h3 => ?_
          walk_at "my sts"
          refine other _ hst3 f3 h3 fun m H4 m0 m1 hst4 f4 h4 => ?_
          walk_at "my sts"
          refine bend hst4 f4 h4 lr m0 (by omega) fun ys H5 hst5 f5 h5 l5 ey => ?_
          walk_at "my sts"
          exact ⟨_, _, _, ys, rfl, h5, by omega, fun la y hy => insW la lz y (by rw [← ey]; exact hy), fun nd hm => ⟨_, by rw [ey]; exact rowF_strange nd hm zn _⟩, hst5, f5⟩
      · walk_at "my sts"
        refine stray _ hst1 f1 h1 fun z H3 zn lz hst3 f3 h3 => ?_
        walk_at "my sts"
        refine other _ hst3 f3 h3 fun m H4 m0 m1 hst4 f4 h4 => ?_
        walk_at "my sts"
        refine bend hst4 f4 h4 lr m0 (by omega) fun ys H5 hst5 f5 h5 l5 ey => ?_
        walk_at "my sts"
        exact ⟨_, _, _, ys, rfl, h5, by omega, fun la y hy => insW la lz y (by rw [← ey]; exact hy), fun nd hm => ⟨_, by rw [ey]; exact rowF_strange nd hm zn _⟩, hst5, f5⟩
    rintro σ2 H2 ⟨z1, z2, u, ys, rfl, h2, l2, ls2, rf2, hst2, f2⟩
    refine i_cut (fun σ' H' => ∃ (ys : List Str), σ' = [some (.ref s), some (.ref p), some (.ref q), some (.ref o), some (.str z1), u, some (.str z2)] ∧ H' o = some (.lst (ys.map V.str)) ∧ ys.length ≤ 30 ∧ ((∀ a ∈ row, a.length ≤ 1000) → ∀ z ∈ ys, z.length ≤ 1000) ∧ (row.Nodup → (∀ a ∈ row, a ∈ ns) → ∃ f, rowF ns [] ys = some (z1, f, z2)) ∧ StOk H' s ∧ Fr s H H') ?_ ?_
    · walk_at "my sts"
      refine ⟨s, _, rfl, hst2, by decide, fun n H3 n0 n1 hst3 f3 => ?_⟩
      have h3 := f3.1 _ _ h2 no
      have f23 := f2.trans f3
      walk_at "my sts"
      refine i_ite (fun _ => ?_) fun _ => ?_
      · walk_at "my sts"
        refine stray2 _ hst3 f23 fun z H4 lz hst4 f4 => ?_
        have h4 := f4.1 _ _ h3 no
        have f24 := f23.trans f4
        walk_at "my sts"
        refine lst_end (show 1 ≤ 100000 by decide) fun c H5 hc s5 h5 => ?_
        have f25 := f24.trans (Fr.same s5)
        walk_at "my sts"
        refine list_end (sqL (f25.1 _ _ hq nq)) fun d H6 hd s6 h6 => ?_
        have h56 := s6 _ _ h5
        walk_at "my sts"
        refine cat_end h56 h6 (by simp only [List.length_map, List.length_cons, List.length_nil]; omega) fun e H7 he s7 h7 => ?_
        have hst7 := ((hst4.same s5).same s6).same s7
        have f27 := f25.trans ((Fr.same s6).trans (Fr.same s7))
        have h47 := s7 _ _ (s6 _ _ (s5 _ _ h4))
        have ne : e ≠ s := ((hst4.same s5).same s6).ne he
        walk_at "my sts"
        refine ⟨s, .ref e, rfl, hst7, .inl ⟨e, _, rfl, h7, ne, by simp, by simp; omega, fun v H8 hv hst8 f8 => ?_⟩⟩
        have hvs : ∃ w : Str, v = V.str w ∧ ((∀ a ∈ row, a.length ≤ 1000) → w.length ≤ 1000) := by
          rcases List.mem_append.mp hv with hv | hv
          · exact ⟨z, List.mem_singleton.mp hv, fun _ => lz⟩
          · obtain ⟨y, hy, rfl⟩ := List.mem_map.mp hv
            exact ⟨y, rfl, fun la => la y hy⟩
        obtain ⟨w, rfl, lw⟩ := hvs
        have h8 := f8.1 _ _ h47 no
        walk_at "my sts"
        refine i_append h8 (by rw [List.length_map]; omega) ?_
        walk_at "my sts"
        obtain ⟨a1, a2, a3, _⟩ := mut_all (ys := ys.map V.str ++ [V.str w]) hst (f27.trans f8) hst8 ho
        refine ⟨ys ++ [w], rfl, ?_, by rw [List.length_append]; simp only [List.length_cons, List.length_nil]; omega, fun la y hy => (List.mem_append.mp hy).elim (fun h => ls2 la y h) fun h => by rw [List.mem_singleton.mp h]; exact lw la, fun nd hm => (rf2 nd hm).imp fun _ e => rowF_app _ e, a1, a2⟩
        rw [List.map_append]
        exact a3
      · walk_at "my sts"
        exact ⟨ys, rfl, h3, by omega, ls2, rf2, hst3, f23⟩
    rintro σ3 H3 ⟨ys, rfl, h3, l3, ls3, rf3, hst3, f3⟩
    walk_at "my sts"
    refine lst_end (show 3 ≤ 100000 by decide) fun b H4 hb s4 h4 => ?_
    exact k b o z1 z2 ys H4 (f3.free hb (hst3.ne hb)) h4 ho (s4 _ _ h3) l3 ls3 rf3 (hst3.same s4) (f3.trans (Fr.same s4))
def sp_law_any_row (K : PySem.W.Frag) : Sp := fun vs H Q _ => ∃ (s p : Addr) (ns : List Str), vs = [.ref s, .ref p] ∧ StOk H s ∧ H p = some (.lst (ns.map V.str)) ∧ p ≠ s ∧ ns.length ≤ 20 ∧ (∀ n ∈ ns, nameB n = true) ∧
  ∀ o (row : List Str) H', H o = none → H' o = some (.lst (row.map V.str)) → row.length ≤ 30 → (∀ z ∈ row, z.length ≤ 1000) → StOk H' s → Fr s H H' → Q (.ref o) H'
theorem ok_law_any_row {f : Addr} {fd : FuncData}
    {f_law_mixed : Addr} {fd_law_mixed : FuncData} (D_law_mixed : Dn K mg "_law_mixed" s_law_mixed p_law_mixed f_law_mixed fd_law_mixed) (G_law_mixed : FnOk P w K mg base CX0 3 f_law_mixed fd_law_mixed p_law_mixed (sp_law_mixed K))
    {f_law_bent_row : Addr} {fd_law_bent_row : FuncData} (D_law_bent_row : Dn K mg "_law_bent_row" s_law_bent_row p_law_bent_row f_law_bent_row fd_law_bent_row) (G_law_bent_row : FnOk P w K mg base CX0 7 f_law_bent_row fd_law_bent_row p_law_bent_row (sp_law_bent_row K))
    {f_law_some_of : Addr} {fd_law_some_of : FuncData} (D_law_some_of : Dn K mg "_law_some_of" s_law_some_of p_law_some_of f_law_some_of fd_law_some_of) (G_law_some_of : FnOk P w K mg base CX0 4 f_law_some_of fd_law_some_of p_law_some_of (sp_law_some_of K))
    {f_law_take : Addr} {fd_law_take : FuncData} (D_law_take : Dn K mg "_law_take" s_law_take p_law_take f_law_take fd_law_take) (G_law_take : FnOk P w K mg base CX0 2 f_law_take fd_law_take p_law_take (sp_law_take K))
    (T : Txt K mg) (D : Dn K mg "_law_any_row" s_law_any_row p_law_any_row f fd) : FnOk P w K mg base CX0 8 f fd p_law_any_row (sp_law_any_row K) := by
  refine D.F.ok sc_law_any_row (fun vs H Q E h => ?_) (fun cdv A outer s' H vs Q E hr h => ?_)
  · obtain ⟨_, _, _, rfl, _⟩ := h
    rfl
  · obtain ⟨s, p, ns, rfl, hst, hp, np, l20, nm, k⟩ := h
    refine ⟨_, (pss_cons (ps_set (i := 2) sc_law_any_row.nd rfl (Or.inl rfl) (pe_call G_law_mixed (hr.mono (by omega)) (by rfl) D_law_mixed.m D_law_mixed.F.kp D_law_mixed.b .nil pass0 (pa_cons (pv 0) (pa_cons (pe_call G_law_some_of (hr.mono (by omega)) (by rfl) D_law_some_of.m D_law_some_of.F.kp D_law_some_of.b .nil pass0 (pa_cons (pv 0) (pa_cons (pv 1) pa_nil))) pa_nil))))
  (pss_cons (ps_if (pt_cmpR op_eq (pe_call G_law_take (hr.mono (by omega)) (by rfl) D_law_take.m D_law_take.F.kp D_law_take.b .nil pass0 (pa_cons (pv 0) (pa_cons pe_int pa_nil))) pe_int (nomark _)) (pss_one (ps_ret (pv 2))) pss_nil)
  (pss_cons (ps_set (i := 3) sc_law_any_row.nd rfl (Or.inl rfl) (pe_call G_law_bent_row (hr.mono (by omega)) (by rfl) D_law_bent_row.m D_law_bent_row.F.kp D_law_bent_row.b .nil pass0 (pa_cons (pv 0) (pa_cons (pv 1) (pa_cons (pv 2) pa_nil)))))
  (pss_one (ps_ret (pe_ix (ix_listK (K := K) rfl) (pv 3) pe_int (fun _ _ => rfl))))))), ?_⟩
    walk_at "my sts"
    refine ⟨s, p, _, rfl, hst, .inl hp, np, by rw [List.length_map]; omega, fun a ys H1 ha h1 sub hst1 f1 => ?_⟩
    have la := sub.length_le
    rw [List.length_map] at la
    walk_at "my sts"
    refine ⟨s, a, ys, rfl, hst1, .inl h1, hst.ne ha, by omega, fun o zs H2 ho h2 pm hst2 f2 => ?_⟩
    have f12 := f1.trans f2
    have hp2 := f12.1 _ _ hp np
    have lo := pm.length_eq
    obtain ⟨row, rfl⟩ := strs_of (ys := zs) fun v hv => by
      obtain ⟨z, _, rfl⟩ := List.mem_map.mp (sub.mem (pm.mem_iff.mp hv))
      exact ⟨z, rfl⟩
    have lrow : ∀ z ∈ row, z.length ≤ 1000 := fun z hz => by
      obtain ⟨y, hy, e⟩ := List.mem_map.mp (sub.mem (pm.mem_iff.mp (List.mem_map.mpr ⟨z, hz, rfl⟩)))
      injection e with e
      subst e
      exact Nat.le_trans (nameB_len (nm _ hy)).2 (by decide)
    rw [List.length_map] at lo
    have ho0 : H o = none := f1.free ho (hst1.ne ho)
    have no : o ≠ s := hst1.ne ho
    walk_at "my sts"
    refine ⟨s, 2, rfl, hst2, by decide, fun n H3 n0 n1 hst3 f3 => ?_⟩
    have f13 := f12.trans f3
    have h3 := f3.1 _ _ h2 no
    walk_at "my sts"
    refine i_ite (fun _ => ?_) fun _ => ?_
    · walk_at "my sts"
      exact k o row H3 ho0 h3 (by omega) lrow hst3 f13
    walk_at "my sts"
    refine ⟨s, p, o, ns, row, rfl, hst3, f13.1 _ _ hp np, np, l20, nm, h3, no, by omega, fun b c z1 z2 rw' H4 hb h4 hc h4c l4 ls4 _ hst4 f4 => ?_⟩
    walk_at "my sts"
    exact k c rw' H4 (f13.free hc (hst3.ne hc)) h4c l4 (ls4 lrow) hst4 (f13.trans f4)
def wl (r : List Str) : Str := if r = [] then "-" else Txt.join " " r
def inN (ns row : List Str) : List Str := ns.filter fun x => decide (x ∈ row)
def wdF (ns : List Str) (z : Str) : Option (List Str) := if z = "-" then some [] else if rowF ns [] (Txt.split z " ") = none then some (inN ns (Txt.split z " ")) else none
theorem joinT_le (y : Str) : ∀ l : List Str, (Str.join y l).length ≤ (l.map fun x => x.length).sum + l.length * y.length
  | [] => Nat.zero_le _
  | [a] => by
    show a.length ≤ _
    rw [List.map_cons, List.sum_cons]
    omega
  | a :: b :: r => by
    have ih := joinT_le y (b :: r)
    show (a ++ y ++ Str.join y (b :: r)).length ≤ _
    rw [strLen_append, strLen_append, List.map_cons, List.sum_cons, List.length_cons, Nat.succ_mul]
    omega
theorem joinT_ge (y a : Str) : ∀ l : List Str, a.length ≤ (Str.join y (a :: l)).length
  | [] => Nat.le_refl _
  | b :: r => by
    show a.length ≤ (a ++ y ++ Str.join y (b :: r)).length
    rw [strLen_append, strLen_append]
    omega
theorem sumT_le {l : List Str} {n : Nat} (h : ∀ z ∈ l, z.length ≤ n) : (l.map fun x => x.length).sum ≤ l.length * n := by
  induction l with
  | nil => exact Nat.zero_le _
  | cons a r ih =>
    rw [List.map_cons, List.sum_cons, List.length_cons, Nat.succ_mul]
    have := h a List.mem_cons_self
    have := ih fun z hz => h z (List.mem_cons_of_mem _ hz)
    omega
theorem wl_len {r : List Str} {n m : Nat} (h : ∀ z ∈ r, z.length ≤ n) (l : r.length ≤ m) : (wl r).length ≤ m * n + m + 1 := by
  unfold wl
  have s1 : (" " : Str).length = 1 := by decide +kernel
  have s2 : ("-" : Str).length = 1 := by decide +kernel
  split
  · omega
  · rw [TL.join_eq]
    have a := joinT_le " " r
    have b := sumT_le h
    have c : r.length * n ≤ m * n := Nat.mul_le_mul_right _ l
    rw [s1] at a
    omega
theorem wl_or {r : List Str} (h : ∀ z ∈ r, 1 ≤ z.length) : wl r = if Txt.join " " r = "" then ("-" : Str) else Txt.join " " r := by
  unfold wl
  cases r with
  | nil => rfl
  | cons a l =>
    have g := joinT_ge " " a l
    have a1 := h a List.mem_cons_self
    have : Txt.join " " (a :: l) ≠ "" := fun e => by
      rw [TL.join_eq] at e
      rw [e] at g
      have : ("" : Str).length = 0 := by decide +kernel
      omega
    rw [if_neg (fun e => nomatch e), if_neg this]
theorem told_inN (ns row : List Str) : (plcs (mR ns row) ns.length).map (nth ns) = inN ns row := plcs_names ns fun x => decide (x ∈ row)
theorem filter_tkW {p : Str → Bool} {ns : List Str} {i : Nat} {a : Str} (h : ns[i]? = some a) : (ns.take (i + 1)).filter p = (ns.take i).filter p ++ (if p a = true then [a] else []) := by
  rw [List.take_add_one, h, List.filter_append]
  by_cases c : p a = true
  · simp [c]
  · simp [c]
theorem joinT_le1 {n : Nat} : ∀ (a : Str) (l : List Str), (∀ z ∈ a :: l, z.length ≤ n) → (Str.join " " (a :: l)).length ≤ (l.length + 1) * n + l.length
  | a, [], h => by
    show a.length ≤ _
    have := h a List.mem_cons_self
    rw [List.length_nil]
    omega
  | a, b :: r, h => by
    have ih := joinT_le1 b r fun z hz => h z (List.mem_cons_of_mem _ hz)
    have := h a List.mem_cons_self
    have s1 : (" " : Str).length = 1 := by decide +kernel
    show (a ++ " " ++ Str.join " " (b :: r)).length ≤ _
    rw [strLen_append, strLen_append, List.length_cons, Nat.succ_mul (r.length + 1)]
    omega
/-- the names written one behind the other, a blank ahead of each -/
def stepW (acc a : Str) : Str := acc ++ " " ++ a
def preW (r : List Str) : Str := r.foldl stepW ""
theorem preW_snoc (r : List Str) (a : Str) : preW (r ++ [a]) = preW r ++ " " ++ a := by
  unfold preW
  rw [List.foldl_append]
  rfl
theorem str_asc (a b c : Str) : a ++ b ++ c = a ++ (b ++ c) := TL.ext_tl (by simp only [TL.tl_append, List.append_assoc])
theorem foldW : ∀ (r : List Str) (a acc : Str), r.foldl stepW (acc ++ a) = acc ++ Str.join " " (a :: r)
  | [], a, acc => rfl
  | b :: r, a, acc => by
    show r.foldl stepW (acc ++ a ++ " " ++ b) = acc ++ (a ++ " " ++ Str.join " " (b :: r))
    rw [foldW r b (acc ++ a ++ " "), str_asc acc a " ", str_asc acc]
theorem preW_cons (a : Str) (r : List Str) : preW (a :: r) = " " ++ Str.join " " (a :: r) := by
  unfold preW
  show r.foldl stepW ("" ++ " " ++ a) = _
  rw [foldW r a ("" ++ " ")]
  rfl
theorem preW_len {r : List Str} {n : Nat} (h : ∀ z ∈ r, z.length ≤ n) : (preW r).length ≤ r.length * (n + 1) := by
  have s1 : (" " : Str).length = 1 := by decide +kernel
  cases r with
  | nil =>
    have : (preW []).length = 0 := by decide +kernel
    rw [this]
    exact Nat.zero_le _
  | cons a l =>
    rw [preW_cons, strLen_append, s1]
    have j := joinT_le1 a l h
    rw [Nat.mul_succ, List.length_cons] at *
    omega
theorem cut1 (y : Str) : cutS (" " ++ y) (some 1) none = y := by
  refine TL.ext_tl ?_
  have l : (" " ++ y).length = y.length + 1 := by
    rw [strLen_append]
    have : (" " : Str).length = 1 := by decide +kernel
    omega
  have e1 : HT.sIx (" " ++ y).length 0 (some 1) = 1 := by
    rw [l]
    simp [HT.sIx]
  have e2 : HT.sIx (" " ++ y).length (" " ++ y).length none = y.length + 1 := by
    rw [l]
    simp [HT.sIx]
  unfold cutS
  rw [e1, e2]
  show List.take _ (List.drop 1 (TL.tl (" " ++ y))) = TL.tl y
  rw [TL.tl_append]
  show List.take _ (TL.tl y) = _
  refine List.take_of_length_le ?_
  show (TL.tl y).length ≤ _
  have : (TL.tl y).length = y.length := Array.length_toList
  omega
theorem cutV_fromW (xs : List V) (n : Nat) : cutV xs (some (n : Int)) none = xs.drop n := by
  show (xs.drop (HT.sIx xs.length 0 (some (n : Int)))).take (HT.sIx xs.length xs.length none - HT.sIx xs.length 0 (some (n : Int))) = _
  rw [HT.sIx_nat, HT.sIx_none]
  rcases Nat.le_total n xs.length with h | h
  · rw [Nat.min_eq_left h, List.take_of_length_le (by rw [List.length_drop]; omega)]
  · rw [Nat.min_eq_right h, List.drop_of_length_le (by omega), List.drop_of_length_le (by omega), List.take_nil]
def sp_law_world_line (K : PySem.W.Frag) : Sp := fun vs H Q _ => ∃ (p : Addr) (r : List Str), vs = [.ref p] ∧ H p = some (.lst (r.map V.str)) ∧ r.length ≤ 1000 ∧ (∀ z ∈ r, z.length ≤ 1000) ∧ ∀ H', Same H H' → Q (.str (wl r)) H'
theorem ok_law_world_line {f : Addr} {fd : FuncData}
    (T : Txt K mg) (D : Dn K mg "_law_world_line" s_law_world_line p_law_world_line f fd) : FnOk P w K mg base CX0 1 f fd p_law_world_line (sp_law_world_line K) := by
  refine D.F.ok sc_law_world_line (fun vs H Q E h => ?_) (fun cdv A outer s' H vs Q E hr h => ?_)
  · obtain ⟨_, _, rfl, _⟩ := h
    rfl
  · obtain ⟨p, r, rfl, hp, l, lz, k⟩ := h
    refine ⟨_, (pss_cons (ps_if (pt_cmpR op_eq (pe_callB (n_lenQK (K := K) rfl) (by rfl) T.b_len (by decide +kernel) (pa_cons (pv 0) pa_nil)) pe_int (nomark _)) (pss_one (ps_ret pe_str)) pss_nil)
  (pss_one (ps_ret (pe_bm PySem.F.plainAttrs_str PySem.F.slot_str_join PySem.F.type_str_join mt_join pe_str (pa_cons (pe_callTy (n_listK (K := K) rfl) (by rfl) T.b_list (by decide +kernel) (pa_cons (pv 0) pa_nil)) pa_nil))))), ?_⟩
    walk_at "my sts"
    unfold wl at k
    rw [List.length_map]
    refine i_ite (fun c => ?_) fun c => ?_
    · have e : r = [] := List.length_eq_zero_iff.mp (by have := of_decide_eq_true c; injection this with this; omega)
      rw [if_pos e] at k
      walk_at "my sts"
      exact k _ (Same.refl _)
    · have e : r ≠ [] := fun e => by rw [e] at c; exact absurd c (by decide)
      rw [if_neg e] at k
      walk_at "my sts"
      refine list_end (sqL hp) fun L H1 hL s1 h1 => ?_
      have a := sumT_le lz
      have b : r.length * 1000 ≤ 1000 * 1000 := Nat.mul_le_mul_right _ l
      have c1 : (" " : Str).length = 1 := by decide +kernel
      walk_at "my sts"
      refine ⟨_, L, r, rfl, rfl, .inl (sqL h1), by rw [c1]; omega, ?_⟩
      exact k _ s1
section
open PySem.Builtin PySem.Builtin.Str
def cutR (x y z : Str) : Str := glued z (partsBetween x (occurrences x y 0 x.length 1) y.length)
theorem gives_repl1 (x y z : Str) (t u v q : Tok) (h0 : (u == 0 || v == 0) = false) (huv : (u == v) = false) (hyz : (y == z) = false) (hl : tooLong (x.length + (occurrences x y 0 x.length 1).length * z.length) = false) :
    Gives (Builtin.«str.replace» ⟨[.str x t, .str y u, .str z v, .int 1 q], []⟩) (if ((occurrences x y 0 x.length 1).isEmpty || (y.length == 0 && z.length == 0)) = true then .val (.str x t) else .str (cutR x y z)) := by
  show Gives (if ((occurrences x y 0 x.length 1).isEmpty || (y.length == 0 && z.length == 0)) = true then (do rule "str.replace.nothing"; ret (.str x t)) else
          (do let same ← isSame (.str y u) (.str z v)
              if same = true then (do rule "str.replace.old-is-new"; ret (.str x t)) else
              if tooLong (x.length + (occurrences x y 0 x.length 1).length * z.length) = true then unsupported "str.replace:memory" else
              retStr (glued z (partsBetween x (occurrences x y 0 x.length 1) y.length)))) _
  cases hc : ((occurrences x y 0 x.length 1).isEmpty || (y.length == 0 && z.length == 0))
  · rw [isSame_str_other y z u v h0 huv hyz, hl]
    exact .of_eq rfl
  · exact .rule (.of_eq rfl)
theorem cutR_len (x y z : Str) : (cutR x y z).length ≤ x.length + z.length := by
  have h1 := StrLaws.occ_length_le x y 0 x.length 1
  have hy : (glued y (partsBetween x (occurrences x y 0 x.length 1) y.length)).length = x.length := by rw [StrLaws.glued_between_self]
  rw [size_glued, length_partsBetween, Nat.add_sub_cancel] at hy
  unfold cutR
  rw [size_glued, length_partsBetween, Nat.add_sub_cancel]
  have h2 : (occurrences x y 0 x.length 1).length * z.length ≤ 1 * z.length := Nat.mul_le_mul_right _ h1
  omega
theorem repl1_run {prog : Program} {w : World} {A : Around} {E : Value → Shared → Prop} {s : Shared} {x y z : Str} {t u v q : Tok} {Q : Value → Shared → Prop} (hu : u ≠ 0) (hv : v ≠ 0) (huv : u ≠ v) (hyz : (y == z) = false) (hb : x.length + z.length ≤ 16777216)
    (hq : ∀ r t' k, r.length ≤ x.length + z.length → Q (.str r t') { s with toks := k }) : wpAny (model prog w) A (call (.builtin "str.replace") [.str x t, .str y u, .str z v, .int 1 q]) Q E s := by
  have e : (2 : Nat) ^ 24 = 16777216 := by decide
  have hl : tooLong (x.length + (occurrences x y 0 x.length 1).length * z.length) = false := by
    have h1 := StrLaws.occ_length_le x y 0 x.length 1
    have h2 : (occurrences x y 0 x.length 1).length * z.length ≤ 1 * z.length := Nat.mul_le_mul_right _ h1
    unfold tooLong sizeLine
    exact decide_eq_false (by omega)
  refine call_gives F.slot_str_replace (typeIs_str _ _ _) F.entry_str_replace (F.args_str_replace_4 _ _ _ _)
    (gives_repl1 x y z t u v q (by simp [hu, hv]) (by simp [huv]) hyz hl) ?_
  cases hc : ((occurrences x y 0 x.length 1).isEmpty || (y.length == 0 && z.length == 0))
  · simp only [Bool.false_eq_true, if_false]
    exact ⟨by rw [sizeLine_eq]; exact Nat.le_trans (cutR_len x y z) hb, hq _ _ _ (cutR_len x y z)⟩
  · simp only [if_true]
    exact hq x t s.toks (Nat.le_add_right _ _)
end
def tRepl1 (to : TE) (z : Str) : TE := fun σ H Q => to σ H fun v H1 => ∃ x, v = .str x ∧ x.length + z.length ≤ 16777216 ∧ ∀ r : Str, r.length ≤ x.length + z.length → Q (.str r) H1
section
variable {X : Cx} {o e : Expr} {es : List Expr} {te to : TE} {ta : TA} {y z : Str} {j k m : Nat} {c0 c1 c2 apos pos p p' pos' : Pos}
theorem call_m3 {prog : Program} {w : World} {A : Around} {E : Value → Shared → Prop} {s : Shared} {env : Env} {o e₁ e₂ e₃ : Expr} {name : Str} {apos pos : Pos} {Q : Value → Shared → Prop}
    (hbase : attributeBase o name env (eval o env) = eval o env) (hs : starEach [e₁, e₂, e₃] env = [(false, eval e₁ env), (false, eval e₂ env), (false, eval e₃ env)]) (hline : (apos.endLine == pos.line) = true)
    (h : wpAny (model prog w) A (eval o env) (fun ov s₁ => MethodOnS prog w A E name ov pos [(false, eval e₁ env), (false, eval e₂ env), (false, eval e₃ env)] Q s₁) E s) :
    wpAny (model prog w) A (eval (.Call (.Attribute o name apos) [e₁, e₂, e₃] [] pos) env) Q E s := by
  refine wpAny_Call_method_lateS hbase (by rw [hs]; rfl) hline ?_
  rw [hs]; exact h
theorem pet_repl1 (ho : PE X o to) (hyz : (y == z) = false := by decide)
    (hst : starEach [.Constant (.str y) j c0, .Constant (.str z) k c1, .Constant (.int 1) m c2] X.env = [(false, eval (.Constant (.str y) j c0) X.env), (false, eval (.Constant (.str z) k c1) X.env), (false, eval (.Constant (.int 1) m c2) X.env)] := by rfl)
    (hbase : attributeBase o "replace" X.env (eval o X.env) = eval o X.env := by rfl) (hline : (apos.endLine == pos.line) = true := by rfl) :
    PET X (.Call (.Attribute o "replace" apos) [.Constant (.str y) j c0, .Constant (.str z) k c1, .Constant (.int 1) m c2] [] pos) (tRepl1 to z) := by
  intro pins s σ H Q h0 I h
  refine call_m3 hbase hst hline (wpAny_mono (PySem.wpAny_toks (ho.run pins s σ H _ I h)) (fun v s1 q => ?_) fun _ _ z => z.2)
  obtain ⟨hk, v', H1, I1, r1, x, e1, hb, q⟩ := q
  subst e1
  obtain ⟨tx, e2⟩ := r1
  subst e2
  refine ⟨"str", _, PySem.F.plainAttrs_str, PySem.F.slot_str_replace, PySem.F.type_str_replace, typeIs_str _ _ _, (fun _ e => nomatch e), Calls.callWith_builtin rfl (Calls.evalArgs_plain (Calls.spliced_cons ?_))⟩
  refine Calls.Constant_str (Calls.spliced_cons (Calls.Constant_str (Calls.spliced_cons (wpAny_Constant_int (Calls.spliced_nil ?_)))))
  exact repl1_run (by show s1.toks ≠ 0; omega) (by show s1.toks + 1 ≠ 0; omega) (by show s1.toks ≠ s1.toks + 1; omega) hyz hb fun r t' k hr => ⟨.str r, H1, I1.tok k, ⟨t', rfl⟩, q r hr⟩
/-- behind it a token is out -/
def PEK (X : Cx) (e : Expr) (t : TE) : Prop :=
  ∀ (pins : List (Addr × Obj)) (s : Shared) (σ : L2.St) (H : Hp) (Q : VK), Inv X pins σ H s → t σ H Q → wpAny (model X.prog X.w) X.A (eval e X.env) (fun v s1 => EP X pins σ Q v s1 ∧ 1 ≤ s1.toks) X.xe s
def PAK (X : Cx) (es : List Expr) (t : TA) : Prop :=
  ∀ (pos : Pos) (pins : List (Addr × Obj)) (s : Shared) (σ : L2.St) (H : Hp) (Q : List V → Hp → Prop), Inv X pins σ H s → t σ H Q → wpAny (model X.prog X.w) X.A (spliced (backTo pos (starEach es X.env))) (fun us s1 => AP X pins σ Q us s1 ∧ 1 ≤ s1.toks) X.xe s
theorem pek_op {op : Operator} {r : R2} (ho : OpR X (binaryOp op) r) (ha : PE X e te) : PEK X (.BinOp e op (.Constant (.str y) j c0) pos) (tOp r te (tC (.str y))) := by
  intro pins s σ H Q I h
  refine wpAny_BinOp (thn (ha.run pins s σ H _ I h) fun v s1 ⟨x, H1, I1, r1, q1⟩ => Calls.Constant_str ?_)
  refine wpAny_mono (PySem.wpAny_toks (ho pins { s1 with toks := s1.toks + 1 } σ H1 x (.str y) v (.str y s1.toks) Q (I1.tok _) r1 ⟨_, rfl⟩ q1)) (fun v s2 q => ⟨q.2, Nat.le_trans (by show 1 ≤ s1.toks + 1; omega) q.1⟩) fun _ _ z => z.2
theorem pak_cons (ha : PE X e te) (hr : PAK X es ta) (hs : starEach (e :: es) X.env = (false, eval e X.env) :: starEach es X.env := by rfl) : PAK X (e :: es) (tCons te ta) := by
  intro pos pins s σ H Q I h
  rw [hs]
  show wpAny _ _ (spliced ((false, eval e X.env) :: backTo pos (starEach es X.env))) _ _ s
  refine Calls.spliced_cons (thn (ha.run pins s σ H _ I h) fun v s1 ⟨x, H1, I1, r1, q1⟩ => ?_)
  exact thn (hr pos pins s1 σ H1 _ I1 q1) fun us s2 ⟨⟨xs, H2, I2, r2, q2⟩, hk⟩ => ⟨⟨x :: xs, H2, I2, .cons r1 r2, q2⟩, hk⟩
theorem pak_here (ha : PEK X e te) (hr : PA X es ta) (hs : starEach (e :: es) X.env = (false, eval e X.env) :: starEach es X.env := by rfl) : PAK X (e :: es) (tCons te ta) := by
  intro pos pins s σ H Q I h
  rw [hs]
  show wpAny _ _ (spliced ((false, eval e X.env) :: backTo pos (starEach es X.env))) _ _ s
  refine Calls.spliced_cons (thn (ha pins s σ H _ I h) fun v s1 ⟨⟨x, H1, I1, r1, q1⟩, hk⟩ => ?_)
  exact wpAny_mono (PySem.wpAny_toks (hr.run pos pins s1 σ H1 _ I1 q1)) (fun us s2 ⟨hk2, xs, H2, I2, r2, q2⟩ => ⟨⟨x :: xs, H2, I2, .cons r1 r2, q2⟩, Nat.le_trans hk hk2⟩) fun _ _ z => z.2
theorem pek_lst (h : PAK X es ta) : PEK X (.List es pos) (tLst ta) := by
  intro pins s σ H Q I hq
  refine wpAny_List_spliced (thn (h pos pins s σ H _ I hq) fun us s1 ⟨⟨xs, H1, I1, r, z, q⟩, hk⟩ => ⟨by rw [← r.length]; exact z, ?_⟩)
  have hf : H1 s1.heap.objs.size = none := I1.hok.fresh (Nat.le_refl _)
  refine ⟨⟨.ref s1.heap.objs.size, upd H1 s1.heap.objs.size (.lst xs), I1.laid (t' := s1.toks) (fun b u e => Heap.get?_push_of_some _ e) (Nat.le_refl _) ?_, rfl, q _ hf⟩, hk⟩
  exact ⟨z, us, 0, r, Heap.get?_push_size _ rfl⟩
theorem pss_setK {i : Nat} {x : Str} {rest : List Stmt} {u : TS} (hN : X.N.Nodup) (hi : X.N[i]? = some x) (hx : Loc X.env.scope x) (he : PEK X e te) (h2 : PSsT X rest u)
    (hs : swapsWith e (some (.Name x pos')) pos.line X.env = pure false := by rfl) (hf : X.fn x = true ∨ X.env.scope.names.lookup x = some .local := by first | exact .inl rfl | exact .inr rfl | assumption) :
    PSs X (.Assign [.Name x pos'] e pos :: rest) (tSeq (tAsg te (gName i)) u) := by
  refine ⟨fun pins s σ H D I h => ?_⟩
  refine wpAny_execs_cons (wpAny_Assign_Name (thn (he pins s σ H _ I h) fun v s1 ⟨⟨w, H1, I1, r1, q1⟩, hk⟩ => ?_) hs)
  refine wpAny_mono (PySem.wpAny_toks (store_ok (v := w) (u := v) (Q := fun _ s2 => Inv X pins (σ.set i (some w)) H1 s2) I1 hN hi hx r1 (fun _ I2 => I2) hf)) (fun _ s2 q => ?_) fun _ _ z => z.2
  exact h2 pins s2 _ H1 D (Nat.le_trans hk q.1) q.2 q1
end
def RepEnd (z : Str) (Q : VK) : V → Hp → Prop := fun v H1 => ∃ x, v = .str x ∧ x.length + z.length ≤ 16777216 ∧ ∀ r : Str, r.length ≤ x.length + z.length → Q (.str r) H1
section
variable {σ : L2.St} {H : Hp} {Q : VK} {to : TE} {z : Str}
theorem i_repl1 (q : to σ H fun v H1 => RepEnd z Q v H1) : tRepl1 to z σ H Q := q
instance : Nx (tRepl1 to z σ H Q) (to σ H fun v H1 => RepEnd z Q v H1) := ⟨i_repl1⟩
theorem rep1_end {x : Str} (l : x.length + z.length ≤ 100000) (k : ∀ r : Str, r.length ≤ x.length + z.length → Q (.str r) H) : RepEnd z Q (.str x) H := ⟨x, rfl, Nat.le_trans l (by decide), k⟩
end
def sp_law_texts (K : PySem.W.Frag) : Sp := fun vs H Q _ => ∃ (s p q : Addr) (ns row : List Str), vs = [.ref s, .ref p, .ref q] ∧ StOk H s ∧ H q = some (.lst (row.map V.str)) ∧ q ≠ s ∧ row.length ≤ 10 ∧ (∀ z ∈ row, z.length ≤ 8) ∧
  ∀ t (zs : List Str) H', H t = none → H' t = some (.lst (zs.map V.str)) → zs.length ≤ 9 → (∀ z ∈ zs, z.length ≤ 50000) → StOk H' s → Fr s H H' → Q (.ref t) H'
theorem ok_law_texts {f : Addr} {fd : FuncData}
    {f_law_world_line : Addr} {fd_law_world_line : FuncData} (D_law_world_line : Dn K mg "_law_world_line" s_law_world_line p_law_world_line f_law_world_line fd_law_world_line) (G_law_world_line : FnOk P w K mg base CX0 1 f_law_world_line fd_law_world_line p_law_world_line (sp_law_world_line K))
    {f_law_mixed : Addr} {fd_law_mixed : FuncData} (D_law_mixed : Dn K mg "_law_mixed" s_law_mixed p_law_mixed f_law_mixed fd_law_mixed) (G_law_mixed : FnOk P w K mg base CX0 3 f_law_mixed fd_law_mixed p_law_mixed (sp_law_mixed K))
    (T : Txt K mg) (D : Dn K mg "_law_texts" s_law_texts p_law_texts f fd) : FnOk P w K mg base CX0 4 f fd p_law_texts (sp_law_texts K) := by
  refine D.F.ok sc_law_texts (fun vs H Q E h => ?_) (fun cdv A outer s' H vs Q E hr h => ?_)
  · obtain ⟨_, _, _, _, _, rfl, _⟩ := h
    rfl
  · obtain ⟨s, p, q, ns, row, rfl, hst, hq, nq, lr, lz, k⟩ := h
    refine ⟨_, (pss_cons (ps_set (i := 3) sc_law_texts.nd rfl (Or.inl rfl) (pe_call G_law_world_line (hr.mono (by omega)) (by rfl) D_law_world_line.m D_law_world_line.F.kp D_law_world_line.b .nil pass0 (pa_cons (pv 2) pa_nil)))
  (pss_setK (i := 4) sc_law_texts.nd rfl (Or.inl rfl) (pek_lst (pak_cons (pv 3) (pak_here (pek_op n_addZ (pv 3)) (pa_cons (pe_op n_addZ pe_str (pv 3)) (pa_cons (pe_op n_addZ pe_str (pv 3)) (pa_cons (pe_op n_addZ (pv 3) pe_str) (pa_cons (pe_bm0 PySem.F.plainAttrs_str PySem.F.slot_str_upper PySem.F.type_str_upper n_upper (pv 3)) pa_nil)))))))
  (CwR.psst_one (CwR.pst_ret (CwR.pet_op op_cat (CwR.PET.of (pv 4)) (pet_lst (pat_cons (CwR.PET.of (pe_call G_law_world_line (hr.mono (by omega)) (by rfl) D_law_world_line.m D_law_world_line.F.kp D_law_world_line.b .nil pass0 (pa_cons (pe_call G_law_mixed (hr.mono (by omega)) (by rfl) D_law_mixed.m D_law_mixed.F.kp D_law_mixed.b .nil pass0 (pa_cons (pv 0) (pa_cons (pv 2) pa_nil))) pa_nil))) (pat_cons (pet_repl1 (pv 3)) (pat_cons (pet_repl1 (pv 3)) pat_nil))))))))), ?_⟩
    have lw := wl_len lz lr
    walk_at "my sts"
    refine ⟨q, row, rfl, hq, by omega, fun z hz => Nat.le_trans (lz z hz) (by decide), fun H1 s1 => ?_⟩
    generalize wl row = r at *
    walk_at "my sts"
    have c1 : (Str.ofString " ").length = 1 := by decide +kernel
    have c2 : (Str.ofString "- ").length = 2 := by decide +kernel
    have c3 : (Str.ofString " -").length = 2 := by decide +kernel
    refine i_addZ ?_ ?_
    · omega
    walk_at "my sts"
    have c0 : ("" : Str).length = 0 := by decide +kernel
    refine lst_end (xs := [r, r ++ " ", " " ++ r, "- " ++ r, r ++ " -", Txt.upper r].map V.str) (show 6 ≤ 100000 by decide) fun o H2 ho s2 h2 => ?_
    have s02 := s1.trans s2
    have hst2 := hst.same s02
    walk_at "my sts"
    refine ⟨s, q, _, rfl, hst2, .inl (s02 _ _ hq), nq, by rw [List.length_map]; omega, fun m ys H3 hm h3 pm hst3 f3 => ?_⟩
    obtain ⟨row2, p2, rfl⟩ := perm_map_inv V.str pm
    have lz2 : ∀ z ∈ row2, z.length ≤ 8 := fun z hz => lz z (p2.mem_iff.mp hz)
    have l2 := p2.length_eq
    have no := (hst.same s1).ne ho
    have lw2 := wl_len lz2 (by rw [l2]; exact lr)
    walk_at "my sts"
    refine ⟨m, row2, rfl, h3, by omega, fun z hz => Nat.le_trans (lz2 z hz) (by decide), fun H4 s4 => ?_⟩
    generalize wl row2 = r2 at *
    walk_at "my sts"
    refine rep1_end ?_ fun r3 l3 => ?_
    · have : (Str.ofString "  ").length = 2 := by decide +kernel
      omega
    walk_at "my sts"
    refine rep1_end ?_ fun r4 l4 => ?_
    · have : (Str.ofString "").length = 0 := by decide +kernel
      omega
    walk_at "my sts"
    have hst4 := hst3.same s4
    have h24 := s4 _ _ (f3.1 _ _ h2 no)
    have z1 : (Str.ofString "  ").length = 2 := by decide +kernel
    have z2 : (Str.ofString "").length = 0 := by decide +kernel
    refine lst_end (xs := [r2, r3, r4].map V.str) (show 3 ≤ 100000 by decide) fun e H5 he s5 h5 => ?_
    refine cat_end (s5 _ _ h24) h5 (show 9 ≤ 100000 by decide) fun t H6 ht s6 h6 => ?_
    rw [← List.map_append] at h6
    have f05 : Fr s H H5 := (Fr.same s02).trans (f3.trans (Fr.same (s4.trans s5)))
    have f06 := f05.trans (Fr.same s6)
    refine k t _ H6 (f05.free ht ((hst4.same s5).ne ht)) h6 (Nat.le_refl 9) (fun z hz => ?_) ((hst4.same s5).same s6) f06
    have lu : (Txt.upper r).length ≤ 3 * r.length := PyProof.Rows.len_upper r
    have a1 : (r ++ " ").length = r.length + 1 := by rw [strLen_append]; exact congrArg (r.length + ·) c1
    have a2 : (" " ++ r).length = 1 + r.length := by rw [strLen_append]; exact congrArg (· + r.length) c1
    have a3 : ("- " ++ r).length = 2 + r.length := by rw [strLen_append]; exact congrArg (· + r.length) c2
    have a4 : (r ++ " -").length = r.length + 2 := by rw [strLen_append]; exact congrArg (r.length + ·) c3
    simp only [List.cons_append, List.nil_append, List.mem_cons, List.not_mem_nil, or_false] at hz
    rcases hz with rfl | rfl | rfl | rfl | rfl | rfl | rfl | rfl | rfl <;> omega
def spLooseN (n : Nat) (K : PySem.W.Frag) : Sp := fun vs H Q _ => ∃ (s : Addr) (P : Addr → Prop) (d : Dt) (v : V), vs = [.ref s, v] ∧ StOk H s ∧ (∀ a, P a → a ≠ s) ∧ Rp P H n d v ∧ ∀ v' H', Rp (fun a => H a = none) H' n d v' → StOk H' s → Fr s H H' → Q v' H'
/-- nothing handed on -/
def spLoose0 : Sp := fun vs H Q _ => ∃ s : Addr, vs = [.ref s, .non] ∧ StOk H s ∧ ∀ H', StOk H' s → Fr s H H' → Q .non H'
def sp_law_loose (K : PySem.W.Frag) : Sp := fun vs H Q E => spLooseN 3 K vs H Q E ∨ spLoose0 vs H Q E
theorem fn_or {CX : CXT} {k : Nat} {f : Addr} {fd : FuncData} {ps : List Str} {sp1 sp2 : Sp} (F1 : FnOk P w K mg base CX k f fd ps sp1) (F2 : FnOk P w K mg base CX k f fd ps sp2) : FnOk P w K mg base CX k f fd ps (fun vs H Q E => sp1 vs H Q E ∨ sp2 vs H Q E) :=
  ⟨fun a b c d h => h.elim (F1.len a b c d) (F2.len a b c d), fun a b c d e f g h i j k l m n => n.elim (F1.run a b c d e f g h i j k l m) (F2.run a b c d e f g h i j k l m)⟩
theorem ok_law_loose0 {f : Addr} {fd : FuncData} {f_law_take : Addr} {fd_law_take : FuncData} (D_law_take : Dn K mg "_law_take" s_law_take p_law_take f_law_take fd_law_take) (G_law_take : FnOk P w K mg base CX0 2 f_law_take fd_law_take p_law_take (sp_law_take K))
    (T : Txt K mg) (D_law_loose : Dn K mg "_law_loose" s_law_loose p_law_loose f fd) : ∀ n : Nat, FnOk P w K mg base CX0 (n + 3) f fd p_law_loose (spLooseN n K) := by
  have body : ∀ (n : Nat) (sp : Sp), FnOk P w K mg base CX0 (n + 2) f fd p_law_loose sp → (∀ m, n = m + 1 → sp = spLooseN m K) → FnOk P w K mg base CX0 (n + 3) f fd p_law_loose (spLooseN n K) := by
    intro n sp G_law_loose hsp
    refine D_law_loose.F.ok sc_law_loose (fun vs H Q E h => ?_) (fun cdv A outer s' H vs Q E hr h => ?_)
    · obtain ⟨s, P, d, v, rfl, _⟩ := h
      rfl
    · obtain ⟨s, P, d, v, rfl, hst, hP, hd, k⟩ := h
      refine ⟨_, (pss_cons (ps_if (pt_not (pt_val (pe_callB (call_isiTK (K := K) rfl) (by rfl) T.b_isinstance (by decide +kernel) (pa_cons (pv 1) (pa_cons (pe_tup (pa_cons (pe_bltn (v := .ty "list") (by rfl) T.b_list (by decide +kernel) rfl) (pa_cons (pe_bltn (v := .ty "tuple") (by rfl) T.b_tuple (by decide +kernel) rfl) pa_nil))) pa_nil))))) (pss_one (ps_ret (pv 1))) pss_nil)
  (pss_cons (ps_setLc (i := 2) (own := [("part", 3)]) rfl sc_law_loose.nd rfl rfl (sw_true rfl rfl rfl (by decide +kernel)) (pi_any (K := K) rfl (pv 1)) (blkOk_by (own := [("part", 3)]) (N := n_law_loose) (sc := defScope s_law_loose) (by decide +kernel)) (fun _ _ _ _ _ => (pg_name (i := 3) sc_law_loose.nd rfl (Or.inl rfl))) (fun _ _ _ _ _ => pts_nil) (fun _ _ _ _ _ => (pe_call G_law_loose hr (by rfl) D_law_loose.m D_law_loose.F.kp D_law_loose.b .nil pass0 (pa_cons (pv 0) (pa_cons (pv 3) pa_nil)))))
  (pss_cons (ps_if (pt_cmpR op_eq (pe_call G_law_take (hr.mono (by omega)) (by rfl) D_law_take.m D_law_take.F.kp D_law_take.b .nil pass0 (pa_cons (pv 0) (pa_cons pe_int pa_nil))) pe_int (nomark _)) (pss_one (ps_ret (pe_callTy (n_tupleK (K := K) rfl) (by rfl) T.b_tuple (by decide +kernel) (pa_cons (pv 2) pa_nil)))) pss_nil)
  (pss_one (ps_ret (pv 2)))))), ?_⟩
      have turn : ∀ {H1 H2 : Hp} {D : Addr} {m i : Nat} {ds : List Dt} {acc : List V} {y : V}, H1 D = none → StOk H1 s → Fr s H H1 → StOk H2 s → Fr s H1 H2 → H2 D = some (.lst acc) → acc.length = i → (∀ (j : Nat) (d : Dt) (v : V), ds[j]? = some d → acc[j]? = some v → Rp (fun a => H a = none ∧ a ≠ D) H2 m d v) →
          (∀ d, ds[i]? = some d → Rp (fun a => H a = none ∧ a ≠ D) H2 m d y) → ∀ (j : Nat) (d : Dt) (v : V), ds[j]? = some d → (acc ++ [y])[j]? = some v → Rp (fun a => H a = none ∧ a ≠ D) (upd H2 D (.lst (acc ++ [y]))) m d v := fun {H1 H2 D m i ds acc y} hD _ _ _ _ g2 g3 g4 g5 j d v ed ev => by
        have tk : Tk H2 (upd H2 D (.lst (acc ++ [y]))) := Tk.lst g2
        have kp : ∀ {d : Dt} {v : V}, Rp (fun a => H a = none ∧ a ≠ D) H2 m d v → Rp (fun a => H a = none ∧ a ≠ D) (upd H2 D (.lst (acc ++ [y]))) m d v := fun r => r.keep (fun _ p => p) (fun b xs p e => by rw [upd_ne p.2]; exact e) tk
        rcases Nat.lt_or_ge j acc.length with h | h
        · rw [List.getElem?_append_left h] at ev
          exact kp (g4 j d v ed ev)
        · have hj := (List.getElem?_eq_some_iff.mp ev).1
          rw [List.length_append] at hj
          have ej : j = i := by
            have : j < acc.length + 1 := hj
            omega
          subst ej
          rw [List.getElem?_append_right h, g3, Nat.sub_self] at ev
          cases ev
          exact kp (g5 d ed)
      cases hd with
      | str n z =>
        walk_at "my sts"
        refine tup_end (by decide) fun p H1 hp s1 h1 => ?_
        walk_at "my sts"
        exact k _ _ (.str n z) (hst.same s1) (Fr.same s1)
      | int n i =>
        walk_at "my sts"
        refine tup_end (by decide) fun p H1 hp s1 h1 => ?_
        walk_at "my sts"
        exact k _ _ (.int n i) (hst.same s1) (Fr.same s1)
      | bl n i =>
        walk_at "my sts"
        refine tup_end (by decide) fun p H1 hp s1 h1 => ?_
        walk_at "my sts"
        exact k _ _ (.bl n i) (hst.same s1) (Fr.same s1)
      | @lst m ds vs a ha pa hl hz hall =>
        cases hsp m rfl
        have na : a ≠ s := hP a pa
        walk_at "my sts"
        refine tup_end (by decide) fun p H1 hp s1 h1 => ?_
        have a1 := s1 _ _ ha
        have hst1 := hst.same s1
        have f1 := Fr.same (s := s) s1
        walk_at "my sts"
        refine i_lcAL ?_
        walk_at "my sts"
        refine cl (xs := vs) (sqL a1) (fun D i H' => StOk H' s ∧ Fr s H1 H' ∧ ∃ acc, H' D = some (.lst acc) ∧ acc.length = i ∧ ∀ (j : Nat) (d : Dt) (v : V), ds[j]? = some d → acc[j]? = some v → Rp (fun a => H a = none ∧ a ≠ D) H' m d v) (fun D hD => ⟨hst1.new hD, Fr.new Fr.refl hD, [], upd_same, rfl, fun j d v _ e => by simp at e⟩) (fun D i H' _ _ g => sqL (g.2.1.1 _ _ a1 na)) ?_ ?_
        · rintro D i x H' hD hx ⟨g0, g1, acc, g2, g3, g4⟩
          have hi := (List.getElem?_eq_some_iff.mp hx).1
          have hd : ds[i]? = some ds[i] := List.getElem?_eq_getElem (by omega)
          have nD : D ≠ s := hst1.ne hD
          have f' := f1.trans g1
          refine ⟨rfl, ?_⟩
          walk_at "my sts"
          refine ⟨s, P, ds[i], x, rfl, g0, hP, (hall i _ _ hd hx).keep (fun _ p => p) (fun b xs pb e => f'.1 _ _ e (hP b pb)) (f'.tk hst), fun v' H2 hv' hst2 f2 => ?_⟩
          obtain ⟨b1, b2, b3, b4⟩ := mut_all (ys := acc ++ [v']) hst1 (g1.trans f2) hst2 hD
          have g2' := f2.1 _ _ g2 nD
          refine ⟨acc, g2', Nat.lt_of_le_of_lt (show acc.length ≤ 1000 by omega) (by decide), b1, b2, _, b3, by rw [List.length_append, g3]; rfl, turn hD hst1 f1 hst2 (g1.trans f2) g2' g3 (fun j d v ed ev => (g4 j d v ed ev).keep (fun _ p => p) (fun b xs pb e => f2.1 _ _ e fun z => ?_) (f2.tk g0)) fun d ed => ?_⟩
          · obtain ⟨o, eo⟩ := hst.some
            rw [z, eo] at pb
            cases pb.1
          · rw [hd] at ed
            cases ed
            exact hv'.keep (fun b hb => ⟨f'.free hb (g0.ne hb), ne_none g2 hb⟩) (fun _ _ _ e => e) Tk.refl
        · rintro D H' hD ⟨g0, g1, acc, g2, g3, g4⟩
          have nD : D ≠ s := hst1.ne hD
          have hDH : H D = none := f1.free hD nD
          walk_at "my sts"
          refine ⟨s, _, rfl, g0, by decide, fun n H2 n0 n1 hst2 f2 => ?_⟩
          have g2 := f2.1 _ _ g2 nD
          have g4 : ∀ (j : Nat) (d : Dt) (v : V), ds[j]? = some d → acc[j]? = some v → Rp (fun a => H a = none) H2 m d v := fun j d v ed ev => (g4 j d v ed ev).keep (fun _ p => p.1) (fun b xs pb e => f2.1 _ _ e fun z => by
            obtain ⟨o, eo⟩ := hst.some
            rw [z, eo] at pb
            cases pb.1) (f2.tk g0)
          have ft := f1.trans (g1.trans f2)
          walk_at "my sts"
          refine i_ite (fun _ => ?_) fun _ => ?_
          · walk_at "my sts"
            refine tuple_end (sqL g2) fun t H3 ht s3 h3 => ?_
            exact k _ _ (.tup h3 (by omega) (by omega) fun i d v ed ev => (g4 i d v ed ev).same s3) (hst2.same s3) (ft.trans (Fr.same s3))
          · walk_at "my sts"
            exact k _ _ (.lst g2 hDH (by omega) (by omega) g4) hst2 ft
      | @tup m ds vs a ha hl hz hall =>
        cases hsp m rfl
        walk_at "my sts"
        refine tup_end (by decide) fun p H1 hp s1 h1 => ?_
        have a1 := s1 _ _ ha
        have hst1 := hst.same s1
        have f1 := Fr.same (s := s) s1
        walk_at "my sts"
        refine i_lcAT ?_
        walk_at "my sts"
        refine ct_ (xs := vs) (sqT a1) (fun D i H' => StOk H' s ∧ Fr s H1 H' ∧ ∃ acc, H' D = some (.lst acc) ∧ acc.length = i ∧ ∀ (j : Nat) (d : Dt) (v : V), ds[j]? = some d → acc[j]? = some v → Rp (fun a => H a = none ∧ a ≠ D) H' m d v) (fun D hD => ⟨hst1.new hD, Fr.new Fr.refl hD, [], upd_same, rfl, fun j d v _ e => by simp at e⟩) (fun D i H' _ _ g => sqT ((g.2.1.tk hst1) _ _ a1)) ?_ ?_
        · rintro D i x H' hD hx ⟨g0, g1, acc, g2, g3, g4⟩
          have hi := (List.getElem?_eq_some_iff.mp hx).1
          have hd : ds[i]? = some ds[i] := List.getElem?_eq_getElem (by omega)
          have nD : D ≠ s := hst1.ne hD
          have f' := f1.trans g1
          refine ⟨rfl, ?_⟩
          walk_at "my sts"
          refine ⟨s, P, ds[i], x, rfl, g0, hP, (hall i _ _ hd hx).keep (fun _ p => p) (fun b xs pb e => f'.1 _ _ e (hP b pb)) (f'.tk hst), fun v' H2 hv' hst2 f2 => ?_⟩
          obtain ⟨b1, b2, b3, b4⟩ := mut_all (ys := acc ++ [v']) hst1 (g1.trans f2) hst2 hD
          have g2' := f2.1 _ _ g2 nD
          refine ⟨acc, g2', Nat.lt_of_le_of_lt (show acc.length ≤ 1000 by omega) (by decide), b1, b2, _, b3, by rw [List.length_append, g3]; rfl, turn hD hst1 f1 hst2 (g1.trans f2) g2' g3 (fun j d v ed ev => (g4 j d v ed ev).keep (fun _ p => p) (fun b xs pb e => f2.1 _ _ e fun z => ?_) (f2.tk g0)) fun d ed => ?_⟩
          · obtain ⟨o, eo⟩ := hst.some
            rw [z, eo] at pb
            cases pb.1
          · rw [hd] at ed
            cases ed
            exact hv'.keep (fun b hb => ⟨f'.free hb (g0.ne hb), ne_none g2 hb⟩) (fun _ _ _ e => e) Tk.refl
        · rintro D H' hD ⟨g0, g1, acc, g2, g3, g4⟩
          have nD : D ≠ s := hst1.ne hD
          have hDH : H D = none := f1.free hD nD
          walk_at "my sts"
          refine ⟨s, _, rfl, g0, by decide, fun n H2 n0 n1 hst2 f2 => ?_⟩
          have g2 := f2.1 _ _ g2 nD
          have g4 : ∀ (j : Nat) (d : Dt) (v : V), ds[j]? = some d → acc[j]? = some v → Rp (fun a => H a = none) H2 m d v := fun j d v ed ev => (g4 j d v ed ev).keep (fun _ p => p.1) (fun b xs pb e => f2.1 _ _ e fun z => by
            obtain ⟨o, eo⟩ := hst.some
            rw [z, eo] at pb
            cases pb.1) (f2.tk g0)
          have ft := f1.trans (g1.trans f2)
          walk_at "my sts"
          refine i_ite (fun _ => ?_) fun _ => ?_
          · walk_at "my sts"
            refine tuple_end (sqL g2) fun t H3 ht s3 h3 => ?_
            exact k _ _ (.tup h3 (by omega) (by omega) fun i d v ed ev => (g4 i d v ed ev).same s3) (hst2.same s3) (ft.trans (Fr.same s3))
          · walk_at "my sts"
            exact k _ _ (.lst g2 hDH (by omega) (by omega) g4) hst2 ft
  intro n
  induction n with
  | zero => exact body 0 (fun _ _ _ _ => False) ⟨fun _ _ _ _ h => h.elim, fun _ _ _ _ _ _ _ _ _ _ _ _ _ h => h.elim⟩ fun m e => nomatch e
  | succ n ih => exact body (n + 1) _ ih fun m e => by cases e; rfl
theorem ok_law_loose1 {f : Addr} {fd : FuncData} {f_law_take : Addr} {fd_law_take : FuncData} (D_law_take : Dn K mg "_law_take" s_law_take p_law_take f_law_take fd_law_take) (G_law_take : FnOk P w K mg base CX0 2 f_law_take fd_law_take p_law_take (sp_law_take K))
    (T : Txt K mg) (D_law_loose : Dn K mg "_law_loose" s_law_loose p_law_loose f fd) : FnOk P w K mg base CX0 6 f fd p_law_loose spLoose0 := by
  have G_law_loose := ok_law_loose0 D_law_take G_law_take T D_law_loose 2
  refine D_law_loose.F.ok sc_law_loose (fun vs H Q E h => ?_) (fun cdv A outer s' H vs Q E hr h => ?_)
  · obtain ⟨_, rfl, _⟩ := h
    rfl
  · obtain ⟨s, rfl, hst, k⟩ := h
    refine ⟨_, (pss_cons (ps_if (pt_not (pt_val (pe_callB (call_isiTK (K := K) rfl) (by rfl) T.b_isinstance (by decide +kernel) (pa_cons (pv 1) (pa_cons (pe_tup (pa_cons (pe_bltn (v := .ty "list") (by rfl) T.b_list (by decide +kernel) rfl) (pa_cons (pe_bltn (v := .ty "tuple") (by rfl) T.b_tuple (by decide +kernel) rfl) pa_nil))) pa_nil))))) (pss_one (ps_ret (pv 1))) pss_nil)
  (pss_cons (ps_setLc (i := 2) (own := [("part", 3)]) rfl sc_law_loose.nd rfl rfl (sw_true rfl rfl rfl (by decide +kernel)) (pi_any (K := K) rfl (pv 1)) (blkOk_by (own := [("part", 3)]) (N := n_law_loose) (sc := defScope s_law_loose) (by decide +kernel)) (fun _ _ _ _ _ => (pg_name (i := 3) sc_law_loose.nd rfl (Or.inl rfl))) (fun _ _ _ _ _ => pts_nil) (fun _ _ _ _ _ => (pe_call G_law_loose hr (by rfl) D_law_loose.m D_law_loose.F.kp D_law_loose.b .nil pass0 (pa_cons (pv 0) (pa_cons (pv 3) pa_nil)))))
  (pss_cons (ps_if (pt_cmpR op_eq (pe_call G_law_take (hr.mono (by omega)) (by rfl) D_law_take.m D_law_take.F.kp D_law_take.b .nil pass0 (pa_cons (pv 0) (pa_cons pe_int pa_nil))) pe_int (nomark _)) (pss_one (ps_ret (pe_callTy (n_tupleK (K := K) rfl) (by rfl) T.b_tuple (by decide +kernel) (pa_cons (pv 2) pa_nil)))) pss_nil)
  (pss_one (ps_ret (pv 2)))))), ?_⟩
    walk_at "my sts"
    refine tup_end (by decide) fun p H1 hp s1 h1 => ?_
    walk_at "my sts"
    exact k _ (hst.same s1) (Fr.same s1)
theorem ok_law_loose {f : Addr} {fd : FuncData} {f_law_take : Addr} {fd_law_take : FuncData} (D_law_take : Dn K mg "_law_take" s_law_take p_law_take f_law_take fd_law_take) (G_law_take : FnOk P w K mg base CX0 2 f_law_take fd_law_take p_law_take (sp_law_take K))
    (T : Txt K mg) (D_law_loose : Dn K mg "_law_loose" s_law_loose p_law_loose f fd) : FnOk P w K mg base CX0 6 f fd p_law_loose (sp_law_loose K) := fn_or (ok_law_loose0 D_law_take G_law_take T D_law_loose 3) (ok_law_loose1 D_law_take G_law_take T D_law_loose)
theorem rp_ne {P : Addr → Prop} {H : Hp} {n : Nat} {d : Dt} {v : V} {p s : Addr} (r : Rp P H n d v) (e : v = .ref p) (hp : ∀ a, P a → a ≠ s) (hs : StOk H s) : p ≠ s := by
  cases r with
  | lst ha pa _ _ _ =>
    cases e
    exact hp _ pa
  | tup ha _ _ _ =>
    cases e
    exact hs.tup ha
  | _ => cases e
/-- a row of names handed on as a list or a tuple -/
theorem loose_row {K : PySem.W.Frag} {H : Hp} {Q : VK} {E : XK} {s q : Addr} {row : List Str} (hst : StOk H s) (hq : H q = some (.lst (row.map V.str))) (nq : q ≠ s) (l : row.length ≤ 1000)
    (k : ∀ p H', Lt2 H' p (row.map V.str) → p ≠ s → StOk H' s → Fr s H H' → Q (.ref p) H') : sp_law_loose K [.ref s, .ref q] H Q E :=
  .inl ⟨s, fun a => a = q, rowS row, .ref q, rfl, hst, fun a e => by rw [e]; exact nq, strs_rp (n := 2) (.inl ⟨hq, rfl⟩) l, fun v' H' r hs f => by
    obtain ⟨p, e, h⟩ := rp_strs r
    rw [e]
    exact k p H' h (rp_ne r e (fun a ha => hst.ne ha) hs) hs f⟩
theorem filter_tk_law_rest {ns : List Str} {i : Nat} {a : Str} (g : Str → Bool) (h : ns[i]? = some a) : (ns.take (i + 1)).filter g = (ns.take i).filter g ++ (if g a = true then [a] else []) := by
  rw [List.take_add_one, h, List.filter_append]
  cases e : g a
  · simp [e]
  · simp [e]
def sp_law_rest (K : PySem.W.Frag) : Sp := fun vs H Q _ => ∃ (p q : Addr) (ns row : List Str), vs = [.ref p, .ref q] ∧ H p = some (.lst (ns.map V.str)) ∧ Lt2 H q (row.map V.str) ∧ ns.length ≤ 1000 ∧
  ∀ t H', H t = none → Same H H' → H' t = some (.tup ((ns.filter fun x => !decide (x ∈ row)).map V.str)) → Q (.ref t) H'
theorem ok_law_rest {f : Addr} {fd : FuncData}
    (T : Txt K mg) (D : Dn K mg "_law_rest" s_law_rest p_law_rest f fd) : FnOk P w K mg base CX0 1 f fd p_law_rest (sp_law_rest K) := by
  refine D.F.ok sc_law_rest (fun vs H Q E h => ?_) (fun cdv A outer s' H vs Q E hr h => ?_)
  · obtain ⟨_, _, _, _, rfl, _⟩ := h
    rfl
  · obtain ⟨p, q, ns, row, rfl, hp, hq, l, k⟩ := h
    refine ⟨_, (pss_one (ps_ret (pe_callTy (n_tupleK (K := K) rfl) (by rfl) T.b_tuple (by decide +kernel) (pa_cons (pe_lc (own := [("name", 2)]) rfl sc_law_rest.nd (pi_list (pv 0)) (blkOk_by (own := [("name", 2)]) (N := n_law_rest) (sc := defScope s_law_rest) (by decide +kernel)) (fun _ _ _ _ _ => (pg_name (i := 2) sc_law_rest.nd rfl (Or.inl rfl))) (fun _ _ _ _ _ => (pts_one (pt_cmpR (op_notIn_seqK (K := K) rfl) (pv 2) (pv 1) (by rfl)))) (fun _ _ _ _ _ => (pv 2))) pa_nil)))), ?_⟩
    walk_at "my sts"
    refine cl (xs := ns.map V.str) (sqL hp) (fun D i H' => Same H H' ∧ H' D = some (.lst (((ns.take i).filter fun x => !decide (x ∈ row)).map V.str))) (fun D hD => ⟨same_new hD, upd_same⟩) (fun D i H' _ _ g => sqL (g.1 _ _ hp)) ?_ ?_
    · rintro D i y H' hD hy ⟨s, hd⟩
      rw [List.getElem?_map] at hy
      obtain ⟨a, ha, rfl⟩ := Option.map_eq_some_iff.mp hy
      have al : (((ns.take i).filter fun x => !decide (x ∈ row)).map V.str).length ≤ 1000 := by
        have := List.length_filter_le (fun x : Str => !decide (x ∈ row)) (ns.take i)
        rw [List.length_take] at this
        rw [List.length_map]
        omega
      refine ⟨rfl, ?_⟩
      walk_at "my sts"
      refine i_ninLt (hq.same s) ?_
      walk_at "my sts"
      refine i_ite (fun h => ?_) fun h => ?_
      · walk_at "my sts"
        refine ⟨_, hd, Nat.lt_of_le_of_lt al (by decide), same_mut s hD, ?_⟩
        rw [upd_same, filter_tk_law_rest _ ha, if_pos h, List.map_append]
        rfl
      · refine ⟨s, ?_⟩
        rw [hd, filter_tk_law_rest _ ha, if_neg (by rw [h]; decide), List.append_nil]
    · rintro D H' hD ⟨s, hd⟩
      rw [List.length_map, List.take_length] at hd
      walk_at "my sts"
      exact tuple_end (sqL hd) fun t H3 ht s3 h3 => k t H3 (s.free ht) (s.trans s3) h3
def sp_law_fresh (K : PySem.W.Frag) : Sp := fun vs H Q _ => ∃ (s p : Addr) (ns : List Str), vs = [.ref s, .ref p] ∧ StOk H s ∧ H p = some (.lst (ns.map V.str)) ∧ p ≠ s ∧ ns.length ≤ 20 ∧ ∀ (z : Str) H', z ∉ ns → nameB z = true → StOk H' s → Fr s H H' → Q (.str z) H'
theorem ok_law_fresh {f : Addr} {fd : FuncData}
    {f_law_unlike : Addr} {fd_law_unlike : FuncData} (D_law_unlike : Dn K mg "_law_unlike" s_law_unlike p_law_unlike f_law_unlike fd_law_unlike) (G_law_unlike : FnOk P w K mg base CX0 1 f_law_unlike fd_law_unlike p_law_unlike (sp_law_unlike K))
    {f_law_name : Addr} {fd_law_name : FuncData} (D_law_name : Dn K mg "_law_name" s_law_name p_law_name f_law_name fd_law_name) (G_law_name : FnOk P w K mg base CX0 4 f_law_name fd_law_name p_law_name (sp_law_name K))
    (T : Txt K mg) (D : Dn K mg "_law_fresh" s_law_fresh p_law_fresh f fd) : FnOk P w K mg base CX0 5 f fd p_law_fresh (sp_law_fresh K) := by
  refine D.F.ok sc_law_fresh (fun vs H Q E h => ?_) (fun cdv A outer s' H vs Q E hr h => ?_)
  · obtain ⟨_, _, _, rfl, _⟩ := h
    rfl
  · obtain ⟨s, p, ns, rfl, hst, hp, np, l, k⟩ := h
    refine ⟨_, (pss_one (ps_ret (pe_call G_law_unlike (hr.mono (by omega)) (by rfl) D_law_unlike.m D_law_unlike.F.kp D_law_unlike.b .nil pass0 (pa_cons (pe_call G_law_name (hr.mono (by omega)) (by rfl) D_law_name.m D_law_name.F.kp D_law_name.b .nil pass0 (pa_cons (pv 0) pa_nil)) (pa_cons (pv 1) pa_nil))))), ?_⟩
    walk_at "my sts"
    refine ⟨s, rfl, hst, fun z H1 nz hst1 f1 => ?_⟩
    have := nameB_len nz
    walk_at "my sts"
    exact ⟨z, p, ns, rfl, f1.1 _ _ hp np, l, by omega, fun y H2 ny ok _ s2 => k y H2 ny (ok nz) (hst1.same s2) (f1.trans (Fr.same s2))⟩
def sp_law_bent_world_text (K : PySem.W.Frag) : Sp := fun vs H Q _ => ∃ (s p : Addr) (ns : List Str), vs = [.ref s, .ref p] ∧ StOk H s ∧ H p = some (.lst (ns.map V.str)) ∧ p ≠ s ∧ 1 ≤ ns.length ∧ ns.length ≤ 10 ∧ ns.Nodup ∧ (∀ n ∈ ns, nameB n = true) ∧
  ∀ (z : Str) H', z.length ≤ 50000 → StOk H' s → Fr s H H' → Q (.str z) H'
theorem ok_law_bent_world_text {f : Addr} {fd : FuncData}
    {f_law_awake : Addr} {fd_law_awake : FuncData} (D_law_awake : Dn K mg "_law_awake" s_law_awake p_law_awake f_law_awake fd_law_awake) (G_law_awake : FnOk P w K mg base CX0 5 f_law_awake fd_law_awake p_law_awake (sp_law_awake K))
    {f_law_take : Addr} {fd_law_take : FuncData} (D_law_take : Dn K mg "_law_take" s_law_take p_law_take f_law_take fd_law_take) (G_law_take : FnOk P w K mg base CX0 2 f_law_take fd_law_take p_law_take (sp_law_take K))
    {f_law_rest : Addr} {fd_law_rest : FuncData} (D_law_rest : Dn K mg "_law_rest" s_law_rest p_law_rest f_law_rest fd_law_rest) (G_law_rest : FnOk P w K mg base CX0 1 f_law_rest fd_law_rest p_law_rest (sp_law_rest K))
    {f_law_world_line : Addr} {fd_law_world_line : FuncData} (D_law_world_line : Dn K mg "_law_world_line" s_law_world_line p_law_world_line f_law_world_line fd_law_world_line) (G_law_world_line : FnOk P w K mg base CX0 1 f_law_world_line fd_law_world_line p_law_world_line (sp_law_world_line K))
    {f_law_some : Addr} {fd_law_some : FuncData} (D_law_some : Dn K mg "_law_some" s_law_some p_law_some f_law_some fd_law_some) (G_law_some : FnOk P w K mg base CX0 3 f_law_some fd_law_some p_law_some (sp_law_some K))
    {f_law_fresh : Addr} {fd_law_fresh : FuncData} (D_law_fresh : Dn K mg "_law_fresh" s_law_fresh p_law_fresh f_law_fresh fd_law_fresh) (G_law_fresh : FnOk P w K mg base CX0 5 f_law_fresh fd_law_fresh p_law_fresh (sp_law_fresh K))
    {f_law_pick : Addr} {fd_law_pick : FuncData} (D_law_pick : Dn K mg "_law_pick" s_law_pick p_law_pick f_law_pick fd_law_pick) (G_law_pick : FnOk P w K mg base CX0 3 f_law_pick fd_law_pick p_law_pick (sp_law_pick K))
    {f_law_bent_row : Addr} {fd_law_bent_row : FuncData} (D_law_bent_row : Dn K mg "_law_bent_row" s_law_bent_row p_law_bent_row f_law_bent_row fd_law_bent_row) (G_law_bent_row : FnOk P w K mg base CX0 7 f_law_bent_row fd_law_bent_row p_law_bent_row (sp_law_bent_row K))
    (T : Txt K mg) (D : Dn K mg "_law_bent_world_text" s_law_bent_world_text p_law_bent_world_text f fd) : FnOk P w K mg base CX0 8 f fd p_law_bent_world_text (sp_law_bent_world_text K) := by
  refine D.F.ok sc_law_bent_world_text (fun vs H Q E h => ?_) (fun cdv A outer s' H vs Q E hr h => ?_)
  · obtain ⟨_, _, _, rfl, _⟩ := h
    rfl
  · obtain ⟨s, p, ns, rfl, hst, hp, np, l1, l10, nd, nm, k⟩ := h
    refine ⟨_, (pss_cons (ps_set (i := 2) sc_law_bent_world_text.nd rfl (Or.inl rfl) (pe_call G_law_awake (hr.mono (by omega)) (by rfl) D_law_awake.m D_law_awake.F.kp D_law_awake.b .nil pass0 (pa_cons (pv 0) (pa_cons (pv 1) pa_nil))))
  (pss_cons (ps_set (i := 3) sc_law_bent_world_text.nd rfl (Or.inl rfl) (pe_call G_law_take (hr.mono (by omega)) (by rfl) D_law_take.m D_law_take.F.kp D_law_take.b .nil pass0 (pa_cons (pv 0) (pa_cons pe_int pa_nil))))
  (pss_cons (ps_if (pt_cmpR op_eq (pv 3) pe_int (nomark _)) (pss_one (ps_ret (pe_ix (ix_listK (K := K) rfl) (pe_lst (pa_cons pe_str (pa_cons pe_str (pa_cons pe_str (pa_cons pe_str (pa_cons pe_str (pa_cons (pe_op n_addZ pe_str (pe_ix (ix_listK (K := K) rfl) (pv 1) pe_int (fun _ _ => rfl))) (pa_cons (pe_op n_addZ (pe_ix (ix_listK (K := K) rfl) (pv 1) pe_int (fun _ _ => rfl)) pe_str) (pa_cons pe_str pa_nil))))))))) (pe_call G_law_take (hr.mono (by omega)) (by rfl) D_law_take.m D_law_take.F.kp D_law_take.b .nil pass0 (pa_cons (pv 0) (pa_cons pe_int pa_nil))) (fun _ _ => rfl)))) pss_nil)
  (pss_cons (ps_if (pt_cmpR op_eq (pv 3) pe_int (nomark _)) (pss_one (ps_ret (pe_call G_law_world_line (hr.mono (by omega)) (by rfl) D_law_world_line.m D_law_world_line.F.kp D_law_world_line.b .nil pass0 (pa_cons (pe_op op_cat (pe_ix (ix_listK (K := K) rfl) (pe_call G_law_bent_row (hr.mono (by omega)) (by rfl) D_law_bent_row.m D_law_bent_row.F.kp D_law_bent_row.b .nil pass0 (pa_cons (pv 0) (pa_cons (pv 1) (pa_cons (pv 2) pa_nil)))) pe_int (fun _ _ => rfl)) (pe_lst (pa_cons pe_str pa_nil))) pa_nil)))) pss_nil)
  (pss_cons (ps_if (pt_cmpR op_eq (pv 3) pe_int (nomark _)) (pss_cons (ps_set (i := 2) sc_law_bent_world_text.nd rfl (Or.inl rfl) (pe_op op_cat (pv 2) (pe_lst (pa_cons (pe_call G_law_pick (hr.mono (by omega)) (by rfl) D_law_pick.m D_law_pick.F.kp D_law_pick.b .nil pass0 (pa_cons (pv 0) (pa_cons (pv 1) pa_nil))) pa_nil))))
  (pss_one (ps_ret (pe_call G_law_world_line (hr.mono (by omega)) (by rfl) D_law_world_line.m D_law_world_line.F.kp D_law_world_line.b .nil pass0 (pa_cons (pe_op op_cat (pv 2) (pe_lst (pa_cons (pe_ix (ix_listK (K := K) rfl) (pv 2) (pe_call G_law_take (hr.mono (by omega)) (by rfl) D_law_take.m D_law_take.F.kp D_law_take.b .nil pass0 (pa_cons (pv 0) (pa_cons (pe_callB (n_lenQK (K := K) rfl) (by rfl) T.b_len (by decide +kernel) (pa_cons (pv 2) pa_nil)) pa_nil))) (fun _ _ => rfl)) pa_nil))) pa_nil))))) pss_nil)
  (pss_cons (ps_if (pt_cmpR op_eq (pv 3) pe_int (nomark _)) (pss_cons (ps_expr (pe_bm PySem.F.plainAttrs_list PySem.F.slot_list_insert PySem.F.type_list_insert mt_insertR (pv 2) (pa_cons (pe_call G_law_some (hr.mono (by omega)) (by rfl) D_law_some.m D_law_some.F.kp D_law_some.b .nil pass0 (pa_cons (pv 0) (pa_cons pe_int (pa_cons (pe_callB (n_lenQK (K := K) rfl) (by rfl) T.b_len (by decide +kernel) (pa_cons (pv 2) pa_nil)) pa_nil)))) (pa_cons (pe_call G_law_fresh (hr.mono (by omega)) (by rfl) D_law_fresh.m D_law_fresh.F.kp D_law_fresh.b .nil pass0 (pa_cons (pv 0) (pa_cons (pv 1) pa_nil))) pa_nil))))
  (pss_one (ps_ret (pe_call G_law_world_line (hr.mono (by omega)) (by rfl) D_law_world_line.m D_law_world_line.F.kp D_law_world_line.b .nil pass0 (pa_cons (pv 2) pa_nil))))) pss_nil)
  (pss_cons (ps_set (i := 2) sc_law_bent_world_text.nd rfl (Or.inl rfl) (pe_call G_law_rest (hr.mono (by omega)) (by rfl) D_law_rest.m D_law_rest.F.kp D_law_rest.b .nil pass0 (pa_cons (pv 1) (pa_cons (pe_slice (sl_listK (K := K) rfl) (pv 2) (po_some pe_int) po_none) pa_nil))))
  (pss_cons (ps_if (pt_cmpR op_eq (pv 3) pe_int (nomark _)) (pss_one (ps_ret (pe_op n_addZ (pe_bm PySem.F.plainAttrs_str PySem.F.slot_str_join PySem.F.type_str_join mt_join pe_str (pa_cons (pv 2) pa_nil)) pe_str))) pss_nil)
  (pss_one (ps_ret (pe_bm PySem.F.plainAttrs_str PySem.F.slot_str_join PySem.F.type_str_join mt_join pe_str (pa_cons (pe_op op_cat (pe_callTy (n_listK (K := K) rfl) (by rfl) T.b_list (by decide +kernel) (pa_cons (pv 2) pa_nil)) (pe_lst (pa_cons (pe_call G_law_fresh (hr.mono (by omega)) (by rfl) D_law_fresh.m D_law_fresh.F.kp D_law_fresh.b .nil pass0 (pa_cons (pv 0) (pa_cons (pv 1) pa_nil))) pa_nil))) pa_nil)))))))))))), ?_⟩
    walk_at "my sts"
    refine ⟨s, p, ns, rfl, hst, hp, np, by omega, fun o row ms H1 ho h1 sub pm hst1 f1 => ?_⟩
    walk_at "my sts"
    have no := hst.ne ho
    have hp1 := f1.1 _ _ hp np
    have rnd : row.Nodup := pm.nodup_iff.mpr (sub.nodup nd)
    have rin : ∀ a ∈ row, a ∈ ns := fun a ha => sub.subset (pm.mem_iff.mp ha)
    have lr : row.length ≤ 10 := by
      have := pm.length_eq
      have := sub.length_le
      omega
    have lz : ∀ z ∈ row, z.length ≤ 1000 := fun z hz => Nat.le_trans (nameB_len (nm z (rin z hz))).2 (by decide)
    refine ⟨s, _, rfl, hst1, by decide, fun n H2 n0 n1 hst2 f2 => ?_⟩
    have hp2 := f2.1 _ _ hp1 np
    have h2 := f2.1 _ _ h1 no
    have f02 := f1.trans f2
    walk_at "my sts"
    have one : ∀ {H' : Hp} {o' : Addr} {r : List Str} {Q' : VK} {E' : XK}, H' o' = some (.lst (r.map V.str)) → r.length ≤ 40 → (∀ z ∈ r, z.length ≤ 1000) → (∀ H'', Same H' H'' → ∀ w : Str, w.length ≤ 50000 → Q' (.str w) H'') → sp_law_world_line K [.ref o'] H' Q' E' := fun {H' o' r Q' E'} e l lz q => ⟨o', r, rfl, e, by omega, lz, fun H'' s => q H'' s _ (by have := wl_len lz l; omega)⟩
    have la0 : (nth ns 0).length ≤ 8 := (nameB_len (nm _ (List.mem_of_getElem? (nth_get (i := 0) (by omega))))).2
    have c1 : (Str.ofString " ").length = 1 := by decide +kernel
    have c2 : (Str.ofString "- ").length = 2 := by decide +kernel
    have c3 : (Str.ofString " -").length = 2 := by decide +kernel
    refine i_ite (fun c => ?_) fun c => ?_
    · walk_at "my sts"
      refine i_ixL (sqL hp2) (at_nth (i := 0) (by omega)) ?_
      walk_at "my sts"
      refine i_ixL (sqL hp2) (at_nth (i := 0) (by omega)) ?_
      walk_at "my sts"
      have all : ∀ z ∈ [(Str.ofString ""), Str.ofString " ", Str.ofString "--", Str.ofString "- ", Str.ofString " -", Str.ofString "- " ++ nth ns 0, nth ns 0 ++ Str.ofString " -", Str.ofString "- -"], z.length ≤ 50000 := fun z hz => by
        simp only [List.mem_cons, List.not_mem_nil, or_false] at hz
        rcases hz with rfl | rfl | rfl | rfl | rfl | rfl | rfl | rfl
        · decide +kernel
        · decide +kernel
        · decide +kernel
        · decide +kernel
        · decide +kernel
        · rw [strLen_append]; omega
        · rw [strLen_append]; omega
        · decide +kernel
      refine lst_end (xs := [(Str.ofString ""), Str.ofString " ", Str.ofString "--", Str.ofString "- ", Str.ofString " -", Str.ofString "- " ++ nth ns 0, nth ns 0 ++ Str.ofString " -", Str.ofString "- -"].map V.str) (show 8 ≤ 100000 by decide) fun l H3 hl s3 h3 => ?_
      have ll : [(Str.ofString ""), Str.ofString " ", Str.ofString "--", Str.ofString "- ", Str.ofString " -", Str.ofString "- " ++ nth ns 0, nth ns 0 ++ Str.ofString " -", Str.ofString "- -"].length = 8 := rfl
      generalize [(Str.ofString ""), Str.ofString " ", Str.ofString "--", Str.ofString "- ", Str.ofString " -", Str.ofString "- " ++ nth ns 0, nth ns 0 ++ Str.ofString " -", Str.ofString "- -"] = zs at *
      have hst3 := hst2.same s3
      have nl := hst2.ne hl
      walk_at "my sts"
      refine ⟨s, _, rfl, hst3, by decide, fun n2 H4 m0 m1 hst4 f4 => ?_⟩
      obtain ⟨j, rfl⟩ : ∃ j : Nat, n2 = (j : Int) := ⟨n2.toNat, by omega⟩
      refine i_ixL (sqL (f4.1 _ _ h3 nl)) (at_nth (i := j) (by omega)) ?_
      exact k _ H4 (all _ (nth_mem (by omega))) hst4 (f02.trans ((Fr.same s3).trans f4))
    walk_at "my sts"
    refine i_ite (fun c => ?_) fun c => ?_
    · walk_at "my sts"
      refine ⟨s, p, o, ns, row, rfl, hst2, hp2, np, by omega, nm, h2, no, by omega, fun b o' z1 z2 row' H3 hb h3 ho' h3' lr' ls' _ hst3 f3 => ?_⟩
      walk_at "my sts"
      have no' := hst2.ne ho'
      refine lst_end (xs := [(Str.ofString "-")].map V.str) (show 1 ≤ 100000 by decide) fun e H4 he s4 h4 => ?_
      refine cat_end (s4 _ _ h3') h4 (by rw [List.length_map]; show row'.length + 1 ≤ _; omega) fun c2 H5 hc2 s5 h5 => ?_
      rw [← List.map_append] at h5
      walk_at "my sts"
      refine one h5 (by rw [List.length_append]; show row'.length + 1 ≤ _; omega) (fun z hz => ?_) fun H6 s6 w lw => ?_
      · rcases List.mem_append.mp hz with hz | hz
        · exact ls' lz z hz
        · rw [List.mem_singleton.mp hz]; decide +kernel
      · exact k w H6 lw ((hst3.same (s4.trans s5)).same s6) (f02.trans (f3.trans (Fr.same ((s4.trans s5).trans s6))))
    walk_at "my sts"
    refine i_ite (fun c => ?_) fun c => ?_
    · walk_at "my sts"
      refine ⟨s, _, rfl, hst2, .inl ⟨p, _, rfl, hp2, np, by rw [List.length_map]; omega, by rw [List.length_map]; omega, fun v H3 hv hst3 f3 => ?_⟩⟩
      obtain ⟨a, ha, rfl⟩ := List.mem_map.mp hv
      have h23 := f3.1 _ _ h2 no
      walk_at "my sts"
      refine lst_end (xs := [V.str a]) (show 1 ≤ 100000 by decide) fun e H4 he s4 h4 => ?_
      refine cat_end (s4 _ _ h23) h4 (by rw [List.length_map]; show row.length + 1 ≤ _; omega) fun c2 H5 hc2 s5 h5 => ?_
      have h5 : H5 c2 = some (.lst ((row ++ [a]).map V.str)) := by rw [List.map_append]; exact h5
      have s45 := s4.trans s5
      have hst5 := hst3.same s45
      have nc := (hst3.same s4).ne hc2
      have la : ∀ z ∈ row ++ [a], z.length ≤ 1000 := fun z hz => by
        rcases List.mem_append.mp hz with hz | hz
        · exact lz z hz
        · rw [List.mem_singleton.mp hz]; exact Nat.le_trans (nameB_len (nm a ha)).2 (by decide)
      have lc : (row ++ [a]).length ≤ 11 := by rw [List.length_append]; show row.length + 1 ≤ 11; omega
      have lc0 : 1 ≤ (row ++ [a]).length := by rw [List.length_append]; show 1 ≤ row.length + 1; omega
      generalize row ++ [a] = row2 at *
      walk_at "my sts"
      refine ⟨s, _, rfl, hst5, by rw [List.length_map]; omega, fun i H6 i0 i1 hst6 f6 => ?_⟩
      rw [List.length_map] at i1
      obtain ⟨j, rfl⟩ : ∃ j : Nat, i = (j : Int) := ⟨i.toNat, by omega⟩
      have h6 := f6.1 _ _ h5 nc
      refine i_ixL (sqL h6) (at_nth (i := j) (by omega)) ?_
      walk_at "my sts"
      refine lst_end (xs := [nth row2 j].map V.str) (show 1 ≤ 100000 by decide) fun e3 H7 he3 s7 h7 => ?_
      refine cat_end (s7 _ _ h6) h7 (by rw [List.length_map]; show row2.length + 1 ≤ _; omega) fun c4 H8 hc4 s8 h8 => ?_
      rw [← List.map_append] at h8
      walk_at "my sts"
      refine one h8 (by rw [List.length_append]; show row2.length + 1 ≤ _; omega) (fun z hz => ?_) fun H9 s9 w lw => ?_
      · rcases List.mem_append.mp hz with hz | hz
        · exact la z hz
        · rw [List.mem_singleton.mp hz]; exact la _ (nth_mem (by omega))
      · exact k w H9 lw ((hst6.same (s7.trans s8)).same s9) (f02.trans (f3.trans ((Fr.same s45).trans (f6.trans (Fr.same ((s7.trans s8).trans s9))))))
    walk_at "my sts"
    refine i_ite (fun c => ?_) fun c => ?_
    · walk_at "my sts"
      refine ⟨s, 0, _, rfl, hst2, by rw [List.length_map]; omega, fun i H3 i0 i1 hst3 f3 => ?_⟩
      have hp3 := f3.1 _ _ hp2 np
      walk_at "my sts"
      refine ⟨s, p, ns, rfl, hst3, hp3, np, by omega, fun w H4 nw bw hst4 f4 => ?_⟩
      have h24 := (f3.trans f4).1 _ _ h2 no
      walk_at "my sts"
      rw [List.length_map] at i1
      refine i_insert h24 (by rw [List.length_map]; omega) i0 (by omega) ?_
      walk_at "my sts"
      have e : (row.map V.str).take i.toNat ++ [V.str w] ++ (row.map V.str).drop i.toNat = (row.take i.toNat ++ [w] ++ row.drop i.toNat).map V.str := by
        rw [List.map_append, List.map_append, List.map_take, List.map_drop]
        rfl
      rw [e]
      obtain ⟨a1, a2, a3, _⟩ := mut_all (ys := (row.take i.toNat ++ [w] ++ row.drop i.toNat).map V.str) hst (f02.trans (f3.trans f4)) hst4 ho
      refine one a3 ?_ (fun z hz => ?_) fun H5 s5 w2 lw => ?_
      · rw [List.length_append, List.length_append, List.length_take, List.length_drop]
        simp only [List.length_cons, List.length_nil]
        omega
      · rcases mem_insW hz with hz | rfl
        · exact lz z hz
        · exact Nat.le_trans (nameB_len bw).2 (by decide)
      · exact k w2 H5 lw (a1.same s5) (a2.trans (Fr.same s5))
    walk_at "my sts"
    refine sl_end (sqL h2) fun S H3 hS s3 h3 => ?_
    walk_at "my sts"
    rw [show cutV (row.map V.str) (some 1) none = (row.map V.str).drop 1 from cutV_fromW _ 1, ← List.map_drop] at h3
    refine ⟨p, S, ns, row.drop 1, rfl, s3 _ _ hp2, .inl h3, by omega, fun T H4 hT s4 h4 => ?_⟩
    walk_at "my sts"
    have lf : (ns.filter fun x => !decide (x ∈ row.drop 1)).length ≤ 10 := Nat.le_trans (List.length_filter_le _ _) l10
    have zf : ∀ z ∈ ns.filter fun x => !decide (x ∈ row.drop 1), z.length ≤ 8 := fun z hz => (nameB_len (nm z (List.mem_filter.mp hz).1)).2
    generalize (ns.filter fun x => !decide (x ∈ row.drop 1)) = rr at *
    have sf := sumT_le zf
    have s24 := s3.trans s4
    have hst4 := hst2.same s24
    have d1 : ("  " : Str).length = 2 := by decide +kernel
    refine i_ite (fun c => ?_) fun c => ?_
    · walk_at "my sts"
      refine ⟨_, T, rr, rfl, rfl, .inr (sqT h4), by rw [show (Str.ofString " ").length = 1 from c1]; omega, ?_⟩
      have lj := joinT_le " " rr
      rw [← TL.join_eq] at lj
      have lj : (Txt.join (Str.ofString " ") rr).length ≤ (rr.map fun x => x.length).sum + rr.length * (Str.ofString " ").length := lj
      rw [c1] at lj
      walk_at "my sts"
      exact k _ H4 (by rw [strLen_append]; omega) hst4 (f02.trans (Fr.same s24))
    · walk_at "my sts"
      refine list_endT (sqT h4) fun l5 H5 hl5 s5 h5 => ?_
      have hst5 := hst4.same s5
      have s25 := s24.trans s5
      have n5 := hst4.ne hl5
      walk_at "my sts"
      refine ⟨s, p, ns, rfl, hst5, s25 _ _ hp2, np, by omega, fun w H6 nw bw hst6 f6 => ?_⟩
      have lw := (nameB_len bw).2
      walk_at "my sts"
      refine lst_end (xs := [w].map V.str) (show 1 ≤ 100000 by decide) fun e H7 he s7 h7 => ?_
      refine cat_end (s7 _ _ (f6.1 _ _ h5 n5)) h7 (by rw [List.length_map]; show rr.length + 1 ≤ _; omega) fun c5 H8 hc5 s8 h8 => ?_
      rw [← List.map_append] at h8
      have sg : ((rr ++ [w]).map fun x => x.length).sum ≤ 88 := by
        have := sumT_le (l := rr ++ [w]) (n := 8) fun z hz => (List.mem_append.mp hz).elim (zf z) fun h => by rw [List.mem_singleton.mp h]; exact lw
        rw [List.length_append] at this
        have e : [w].length = 1 := rfl
        omega
      have lg : (rr ++ [w]).length ≤ 11 := by
        rw [List.length_append]
        show rr.length + 1 ≤ 11
        omega
      generalize rr ++ [w] = r3 at *
      walk_at "my sts"
      have d1 : (Str.ofString "  ").length = 2 := d1
      refine ⟨_, c5, r3, rfl, rfl, .inl (sqL h8), by rw [d1]; omega, ?_⟩
      have lj := joinT_le "  " r3
      rw [← TL.join_eq] at lj
      have lj : (Txt.join (Str.ofString "  ") r3).length ≤ (r3.map fun x => x.length).sum + r3.length * (Str.ofString "  ").length := lj
      rw [d1] at lj
      exact k _ H8 (by omega) ((hst6.same s7).same s8) (f02.trans ((Fr.same s25).trans (f6.trans (Fr.same (s7.trans s8)))))
def sp_law_sameN (n : Nat) (K : PySem.W.Frag) : Sp := fun vs H Q _ => ∃ (x y : V), vs = [x, y] ∧ Sm H n x y ∧ ∀ H', Same H H' → Q (.bl true) H'
def sp_law_same (K : PySem.W.Frag) : Sp := sp_law_sameN 4 K
theorem ok_law_same0 {f : Addr} {fd : FuncData} (T : Txt K mg) (D_law_same : Dn K mg "_law_same" s_law_same p_law_same f fd) : ∀ n : Nat, FnOk P w K mg base CX0 (n + 1) f fd p_law_same (sp_law_sameN n K) := by
  have body : ∀ (n : Nat) (sp : Sp), FnOk P w K mg base CX0 n f fd p_law_same sp → (∀ m, n = m + 1 → sp = sp_law_sameN m K) → FnOk P w K mg base CX0 (n + 1) f fd p_law_same (sp_law_sameN n K) := by
    intro n sp G_law_same hsp
    refine D_law_same.F.ok sc_law_same (fun vs H Q E h => ?_) (fun cdv A outer s' H vs Q E hr h => ?_)
    · obtain ⟨x, y, rfl, _⟩ := h
      rfl
    · obtain ⟨x, y, rfl, hxy, k⟩ := h
      refine ⟨_, (pss_cons (ps_if (PW.pt (pw_or (pt_val (pe_callB (call_isiK (K := K) rfl) (by rfl) T.b_isinstance (by decide +kernel) (pa_cons (pv 0) (pa_cons (pe_bltn (v := .ty "bool") (by rfl) T.b_bool (by decide +kernel) rfl) pa_nil)))) (pw_or1 (pt_val (pe_callB (call_isiK (K := K) rfl) (by rfl) T.b_isinstance (by decide +kernel) (pa_cons (pv 1) (pa_cons (pe_bltn (v := .ty "bool") (by rfl) T.b_bool (by decide +kernel) rfl) pa_nil))))))) (pss_one (ps_ret (pe_and (pe_callB (call_isiK (K := K) rfl) (by rfl) T.b_isinstance (by decide +kernel) (pa_cons (pv 0) (pa_cons (pe_bltn (v := .ty "bool") (by rfl) T.b_bool (by decide +kernel) rfl) pa_nil))) (pe_and (pe_callB (call_isiK (K := K) rfl) (by rfl) T.b_isinstance (by decide +kernel) (pa_cons (pv 1) (pa_cons (pe_bltn (v := .ty "bool") (by rfl) T.b_bool (by decide +kernel) rfl) pa_nil))) (pe_one (pe_cmpR op_eq (pv 0) (pv 1) (nomark _))))))) pss_nil)
  (pss_cons (ps_if (PW.pt (pw_or (pt_cmpR n_isN (pv 0) pe_non (nomark _)) (pw_or1 (pt_cmpR n_isN (pv 1) pe_non (nomark _))))) (pss_one (ps_ret (pe_and (pe_cmpR n_isN (pv 0) pe_non (nomark _)) (pe_one (pe_cmpR n_isN (pv 1) pe_non (nomark _)))))) pss_nil)
  (pss_cons (ps_if (PW.pt (pw_or (pt_val (pe_callB (call_isiK (K := K) rfl) (by rfl) T.b_isinstance (by decide +kernel) (pa_cons (pv 0) (pa_cons (pe_bltn (v := .ty "int") (by rfl) T.b_int (by decide +kernel) rfl) pa_nil)))) (pw_or1 (pt_val (pe_callB (call_isiK (K := K) rfl) (by rfl) T.b_isinstance (by decide +kernel) (pa_cons (pv 1) (pa_cons (pe_bltn (v := .ty "int") (by rfl) T.b_int (by decide +kernel) rfl) pa_nil))))))) (pss_one (ps_ret (pe_and (pe_callB (call_isiK (K := K) rfl) (by rfl) T.b_isinstance (by decide +kernel) (pa_cons (pv 0) (pa_cons (pe_bltn (v := .ty "int") (by rfl) T.b_int (by decide +kernel) rfl) pa_nil))) (pe_and (pe_callB (call_isiK (K := K) rfl) (by rfl) T.b_isinstance (by decide +kernel) (pa_cons (pv 1) (pa_cons (pe_bltn (v := .ty "int") (by rfl) T.b_int (by decide +kernel) rfl) pa_nil))) (pe_one (pe_cmpR op_eq (pv 0) (pv 1) (nomark _))))))) pss_nil)
  (pss_cons (ps_if (PW.pt (pw_or (pt_val (pe_callB (call_isiK (K := K) rfl) (by rfl) T.b_isinstance (by decide +kernel) (pa_cons (pv 0) (pa_cons (pe_bltn (v := .ty "str") (by rfl) T.b_str (by decide +kernel) rfl) pa_nil)))) (pw_or1 (pt_val (pe_callB (call_isiK (K := K) rfl) (by rfl) T.b_isinstance (by decide +kernel) (pa_cons (pv 1) (pa_cons (pe_bltn (v := .ty "str") (by rfl) T.b_str (by decide +kernel) rfl) pa_nil))))))) (pss_one (ps_ret (pe_and (pe_callB (call_isiK (K := K) rfl) (by rfl) T.b_isinstance (by decide +kernel) (pa_cons (pv 0) (pa_cons (pe_bltn (v := .ty "str") (by rfl) T.b_str (by decide +kernel) rfl) pa_nil))) (pe_and (pe_callB (call_isiK (K := K) rfl) (by rfl) T.b_isinstance (by decide +kernel) (pa_cons (pv 1) (pa_cons (pe_bltn (v := .ty "str") (by rfl) T.b_str (by decide +kernel) rfl) pa_nil))) (pe_one (pe_cmpR op_eq (pv 0) (pv 1) (nomark _))))))) pss_nil)
  (pss_cons (ps_if (PW.pt (pw_and (pt_val (pe_callB (call_isiK (K := K) rfl) (by rfl) T.b_isinstance (by decide +kernel) (pa_cons (pv 0) (pa_cons (pe_bltn (v := .ty "list") (by rfl) T.b_list (by decide +kernel) rfl) pa_nil)))) (pw_and1 (pt_not (pt_val (pe_callB (call_isiK (K := K) rfl) (by rfl) T.b_isinstance (by decide +kernel) (pa_cons (pv 1) (pa_cons (pe_bltn (v := .ty "list") (by rfl) T.b_list (by decide +kernel) rfl) pa_nil)))))))) (pss_one (ps_ret pe_bl)) pss_nil)
  (pss_cons (ps_if (PW.pt (pw_and (pt_val (pe_callB (call_isiK (K := K) rfl) (by rfl) T.b_isinstance (by decide +kernel) (pa_cons (pv 0) (pa_cons (pe_bltn (v := .ty "tuple") (by rfl) T.b_tuple (by decide +kernel) rfl) pa_nil)))) (pw_and1 (pt_not (pt_val (pe_callB (call_isiK (K := K) rfl) (by rfl) T.b_isinstance (by decide +kernel) (pa_cons (pv 1) (pa_cons (pe_bltn (v := .ty "tuple") (by rfl) T.b_tuple (by decide +kernel) rfl) pa_nil)))))))) (pss_one (ps_ret pe_bl)) pss_nil)
  (pss_cons (ps_if (PW.pt (pw_or (pt_not (pt_val (pe_callB (call_isiTK (K := K) rfl) (by rfl) T.b_isinstance (by decide +kernel) (pa_cons (pv 0) (pa_cons (pe_tup (pa_cons (pe_bltn (v := .ty "list") (by rfl) T.b_list (by decide +kernel) rfl) (pa_cons (pe_bltn (v := .ty "tuple") (by rfl) T.b_tuple (by decide +kernel) rfl) pa_nil))) pa_nil))))) (pw_or (pt_not (pt_val (pe_callB (call_isiTK (K := K) rfl) (by rfl) T.b_isinstance (by decide +kernel) (pa_cons (pv 1) (pa_cons (pe_tup (pa_cons (pe_bltn (v := .ty "list") (by rfl) T.b_list (by decide +kernel) rfl) (pa_cons (pe_bltn (v := .ty "tuple") (by rfl) T.b_tuple (by decide +kernel) rfl) pa_nil))) pa_nil))))) (pw_or1 (pt_cmpR op_ne (pe_callB (n_lenVK (K := K) rfl) (by rfl) T.b_len (by decide +kernel) (pa_cons (pv 0) pa_nil)) (pe_callB (n_lenVK (K := K) rfl) (by rfl) T.b_len (by decide +kernel) (pa_cons (pv 1) pa_nil)) (nomark _)))))) (pss_one (ps_ret pe_bl)) pss_nil)
  (pss_cons (ps_for PassesOwn.never rfl (pi_range1 (by rfl) T.b_range (pa_cons (pe_callB (n_lenVK (K := K) rfl) (by rfl) T.b_len (by decide +kernel) (pa_cons (pv 0) pa_nil)) pa_nil)) (pg_name (i := 2) sc_law_same.nd rfl (Or.inl rfl))
   (pss_one (ps_if (pt_not (pt_val (pe_call G_law_same hr (by rfl) D_law_same.m D_law_same.F.kp D_law_same.b .nil pass0 (pa_cons (pe_ix (ix_seqK (K := K) rfl) (pv 0) (pv 2) (fun _ _ => rfl)) (pa_cons (pe_ix (ix_seqK (K := K) rfl) (pv 1) (pv 2) (fun _ _ => rfl)) pa_nil))))) (pss_one (ps_ret pe_bl)) pss_nil)))
  (pss_one (ps_ret pe_bl)))))))))), ?_⟩
      cases hxy with
      | bl n b =>
        walk_at "my sts"
        rw [decide_eq_true rfl]
        exact k _ (Same.refl _)
      | int n i =>
        walk_at "my sts"
        rw [decide_eq_true rfl]
        exact k _ (Same.refl _)
      | str n i =>
        walk_at "my sts"
        rw [decide_eq_true rfl]
        exact k _ (Same.refl _)
      | non n =>
        walk_at "my sts"
        exact k _ (Same.refl _)
      | @lst m a b xs ys ha hb hl hz hall =>
        walk_at "my sts"
        refine tup_end (by decide) fun p H1 hp s1 t1 => ?_
        have a1 := s1 _ _ ha
        have b1 := s1 _ _ hb
        walk_at "my sts"
        refine tup_end (by decide) fun p2 H2 hp2 s2 t2 => ?_
        have a2 := s2 _ _ a1
        have b2 := s2 _ _ b1
        walk_at "my sts"
        refine iteNS (by rw [hl]) ?_
        walk_at "my sts"
        cases hsp m rfl
        refine fr1 (by omega) (by omega) (fun i σ' H' => Same H2 H' ∧ ∃ v, σ' = [some (.ref a), some (.ref b), v]) ⟨Same.refl _, none, rfl⟩ ?_ ?_
        · rintro i σ' H' hi ⟨s3, v, rfl⟩
          have hi1 : i < xs.length := by omega
          have hi2 : i < ys.length := by omega
          walk_at "my sts"
          refine i_ixAL (sqL (s3 _ _ a2)) (at_of rfl (List.getElem?_eq_getElem hi1)) ?_
          walk_at "my sts"
          refine i_ixAL (sqL (s3 _ _ b2)) (at_of rfl (List.getElem?_eq_getElem hi2)) ?_
          walk_at "my sts"
          refine ⟨_, _, rfl, (hall i _ _ (List.getElem?_eq_getElem hi1) (List.getElem?_eq_getElem hi2)).keep (s1.trans (s2.trans s3)), fun H4 s4 => ?_⟩
          walk_at "my sts"
          exact ⟨s3.trans s4, _, rfl⟩
        · rintro σ' H' ⟨s3, v, rfl⟩
          walk_at "my sts"
          exact k _ (s1.trans (s2.trans s3))
      | @tup m a b xs ys ha hb hl hz hall =>
        walk_at "my sts"
        refine tup_end (by decide) fun p H1 hp s1 t1 => ?_
        have a1 := rd_same s1 ha
        have b1 := rd_same s1 hb
        walk_at "my sts"
        refine tup_end (by decide) fun p2 H2 hp2 s2 t2 => ?_
        have a2 := rd_same s2 a1
        have b2 := rd_same s2 b1
        walk_at "my sts"
        refine iteNS (by rw [hl]) ?_
        walk_at "my sts"
        cases hsp m rfl
        refine fr1 (by omega) (by omega) (fun i σ' H' => Same H2 H' ∧ ∃ v, σ' = [some (.ref a), some (.ref b), v]) ⟨Same.refl _, none, rfl⟩ ?_ ?_
        · rintro i σ' H' hi ⟨s3, v, rfl⟩
          have hi1 : i < xs.length := by omega
          have hi2 : i < ys.length := by omega
          walk_at "my sts"
          refine i_ixAT (.inl (rd_same s3 a2)) (at_of rfl (List.getElem?_eq_getElem hi1)) ?_
          walk_at "my sts"
          refine i_ixAT (.inl (rd_same s3 b2)) (at_of rfl (List.getElem?_eq_getElem hi2)) ?_
          walk_at "my sts"
          refine ⟨_, _, rfl, (hall i _ _ (List.getElem?_eq_getElem hi1) (List.getElem?_eq_getElem hi2)).keep (s1.trans (s2.trans s3)), fun H4 s4 => ?_⟩
          walk_at "my sts"
          exact ⟨s3.trans s4, _, rfl⟩
        · rintro σ' H' ⟨s3, v, rfl⟩
          walk_at "my sts"
          exact k _ (s1.trans (s2.trans s3))
  intro n
  induction n with
  | zero => exact body 0 (fun _ _ _ _ => False) ⟨fun _ _ _ _ h => h.elim, fun _ _ _ _ _ _ _ _ _ _ _ _ _ h => h.elim⟩ fun m e => nomatch e
  | succ n ih => exact body (n + 1) _ ih fun m e => by cases e; rfl
theorem ok_law_same {f : Addr} {fd : FuncData} (T : Txt K mg) (D_law_same : Dn K mg "_law_same" s_law_same p_law_same f fd) : FnOk P w K mg base CX0 5 f fd p_law_same (sp_law_same K) := ok_law_same0 T D_law_same 4
def sp_positions (K : PySem.W.Frag) : Sp := fun vs H Q _ => ∃ (m n : Nat), vs = [.int (m : Int)] ∧ m < 2 ^ n ∧ n ≤ 1000 ∧ ∀ q H', H q = none → Same H H' → H' q = some (.tup ((plcs m n).map fun i : Nat => V.int (i : Int))) → Q (.ref q) H'
theorem plcs_take {m n i : Nat} (h : i < n) : plcs m (i + 1) = plcs m i ++ (if m.testBit i = true then [i] else []) := by
  unfold plcs
  rw [List.range_succ, List.filter_append]
  by_cases e : m.testBit i = true
  · simp [e]
  · simp [e]
theorem ok_positions {f : Addr} {fd : FuncData}
    (T : Txt K mg) (D : Dn K mg "positions" s_positions p_positions f fd) : FnOk P w K mg base CX0 1 f fd p_positions (sp_positions K) := by
  refine D.F.ok sc_positions (fun vs H Q E h => ?_) (fun cdv A outer s' H vs Q E hr h => ?_)
  · obtain ⟨_, _, rfl, _⟩ := h
    rfl
  · obtain ⟨m, n, rfl, hm, hn, k⟩ := h
    have bl := bits_le hm
    refine ⟨_, (pss_one (ps_ret (pe_callTy (n_tupleK (K := K) rfl) (by rfl) T.b_tuple (by decide +kernel) (pa_cons (pe_lc (own := [("place", 1)]) rfl sc_positions.nd (pi_range1 (by rfl) T.b_range (pa_cons (pe_bits (pv 0)) pa_nil)) (blkOk_by (own := [("place", 1)]) (N := n_positions) (sc := defScope s_positions) (by decide +kernel)) (fun _ _ _ _ _ => (pg_name (i := 1) sc_positions.nd rfl (Or.inl rfl))) (fun _ _ _ _ _ => (pts_one (pt_cmpR op_eq (pe_op op_and (pe_op op_shr (pv 0) (pv 1)) pe_int) pe_int (nomark _)))) (fun _ _ _ _ _ => (pv 1))) pa_nil)))), ?_⟩
    walk_at "my sts"
    refine cr1 (n := ((Builtin.Int.intBits (m : Int) : Nat) : Int)) (by omega) (by omega) (fun D i H' => Same H H' ∧ H' D = some (.lst ((plcs m i).map fun i : Nat => V.int (i : Int)))) (fun D hD => ⟨same_new hD, upd_same⟩) ?_ ?_
    · rintro D i H' hD hi ⟨s, hd⟩
      have hi : i < Builtin.Int.intBits (m : Int) := hi
      refine ⟨rfl, ?_⟩
      walk_at "my sts"
      rw [odd_bit]
      have al : ((plcs m i).map fun i : Nat => V.int (i : Int)).length ≤ 1000 := by
        have := List.length_filter_le (fun j => m.testBit j) (List.range i)
        rw [List.length_range] at this
        rw [List.length_map]
        unfold plcs
        omega
      by_cases e : m.testBit i = true
      · rw [if_pos e]
        walk_at "my sts"
        refine i_ite (fun _ => ?_) fun h => absurd rfl (of_decide_eq_false h)
        walk_at "my sts"
        refine ⟨_, hd, Nat.lt_of_le_of_lt al (by decide), same_mut s hD, ?_⟩
        rw [upd_same, plcs_take (Nat.lt_succ_self i), if_pos e, List.map_append]
        rfl
      · rw [if_neg e]
        walk_at "my sts"
        refine i_ite (fun h => absurd (of_decide_eq_true h) (fun z => by injection z with z; exact absurd z (by decide))) fun _ => ?_
        refine ⟨s, ?_⟩
        rw [plcs_take (Nat.lt_succ_self i), if_neg e, List.append_nil]
        exact hd
    · rintro D H' hD ⟨s, hd⟩
      walk_at "my sts"
      refine tuple_end (sqL hd) fun q H2 hq s2 h2 => ?_
      refine k q H2 (s.free hq) (s.trans s2) ?_
      rw [h2]
      have e : plcs m ((Builtin.Int.intBits (m : Int) : Nat) : Int).toNat = plcs m n := plcs_any (bits_lt m) hm
      rw [e]
def sp_tell (K : PySem.W.Frag) : Sp := fun vs H Q _ => ∃ (x : Addr) (m : Nat) (fs : List (Str × Int)) (ds : List (Str × Str × Int)), vs = [.ref x, .int (m : Int)] ∧ WebAt K H x fs ds ∧ m < 2 ^ (fs.map (·.1)).length ∧ fs.length ≤ 1000 ∧ ∀ q H', H q = none → Same H H' → H' q = some (.tup (((plcs m (fs.map (·.1)).length).map (nth (fs.map (·.1)))).map V.str)) → Q (.ref q) H'
theorem ok_tell {f : Addr} {fd : FuncData}
    {f_Web_names : Addr} {fd_Web_names : FuncData} (D_Web_names : Dm K "names" "Web.names" s_Web_names p_Web_names f_Web_names fd_Web_names) (G_Web_names : FnOk P w K mg base CX0 1 f_Web_names fd_Web_names p_Web_names (sp_Web_names K))
    {pp_Web_names : Addr} (P_Web_names : PropOf K (gad K "Web") "names" pp_Web_names f_Web_names)
    {f_positions : Addr} {fd_positions : FuncData} (D_positions : Dn K mg "positions" s_positions p_positions f_positions fd_positions) (G_positions : FnOk P w K mg base CX0 1 f_positions fd_positions p_positions (sp_positions K))
    (X_Web : Ci K mg "Web" ["_folk", "_names", "_watches", "_pulls"])
    (T : Txt K mg) (D : Dn K mg "tell" s_tell p_tell f fd) : FnOk P w K mg base CX0 3 f fd p_tell (sp_tell K) := by
  refine D.F.ok sc_tell (fun vs H Q E h => ?_) (fun cdv A outer s' H vs Q E hr h => ?_)
  · obtain ⟨_, _, _, _, rfl, _⟩ := h
    rfl
  · obtain ⟨x, m, fs, ds, rfl, hw, hm, l, k⟩ := h
    generalize hns : fs.map (·.1) = ns at *
    have ln : ns.length ≤ 1000 := by rw [← hns, List.length_map]; exact l
    refine ⟨_, (pss_one (ps_ret (pe_callTy (n_tupleK (K := K) rfl) (by rfl) T.b_tuple (by decide +kernel) (pa_cons (pe_lc (own := [("place", 2)]) rfl sc_tell.nd (pi_tup (pe_call G_positions (hr.mono (by omega)) (by rfl) D_positions.m D_positions.F.kp D_positions.b .nil pass0 (pa_cons (pv 1) pa_nil))) (blkOk_by (own := [("place", 2)]) (N := n_tell) (sc := defScope s_tell) (by decide +kernel)) (fun _ _ _ _ _ => (pg_name (i := 2) sc_tell.nd rfl (Or.inl rfl))) (fun _ _ _ _ _ => pts_nil) (fun _ _ _ _ _ => (pe_ix (ix_tupK (K := K) rfl) (pe_prop (pv 0) X_Web.cl P_Web_names G_Web_names (hr.mono (by omega)) D_Web_names.b .nil pass0 rfl) (pv 2) (fun _ _ => rfl)))) pa_nil)))), ?_⟩
    walk_at "my sts"
    refine ⟨m, ns.length, rfl, hm, ln, fun q1 H1 hq1 s1 h1 => ?_⟩
    refine ct_ (xs := (plcs m ns.length).map fun i : Nat => V.int (i : Int)) (sqT h1) (fun D i H' => Same H1 H' ∧ H' D = some (.lst ((((plcs m ns.length).take i).map (nth ns)).map V.str))) (fun D hD => ⟨same_new hD, upd_same⟩) (fun D i H' _ _ g => sqT (g.1 _ _ h1)) ?_ ?_
    · rintro D i y H' hD hy ⟨s, hd⟩
      rw [List.getElem?_map] at hy
      obtain ⟨j, hj, rfl⟩ := Option.map_eq_some_iff.mp hy
      have hj' : j < ns.length := List.mem_range.mp (List.mem_filter.mp (List.mem_of_getElem? hj)).1
      have hw' := hw.same (s1.trans s)
      obtain ⟨dx, pf, pn, pw, pp, rf0, rw0, rp0, h1', _⟩ := id hw'
      have al : ((((plcs m ns.length).take i).map (nth ns)).map V.str).length ≤ 1000 := by
        have := List.length_filter_le (fun j => m.testBit j) (List.range ns.length)
        rw [List.length_range] at this
        rw [List.length_map, List.length_map, List.length_take]
        unfold plcs
        omega
      refine ⟨rfl, ?_⟩
      walk_at "my sts"
      refine prop_end h1' ?_
      refine ⟨x, fs, ds, rfl, hw', fun p2 H2 s2 hn2 => ?_⟩
      rw [hns] at hn2
      walk_at "my sts"
      refine i_ixT hn2.sq (at_nth hj') ?_
      refine ⟨_, s2 _ _ hd, Nat.lt_of_le_of_lt al (by decide), same_mut (s.trans s2) hD, ?_⟩
      rw [upd_same, List.take_add_one, hj, List.map_append, List.map_append]
      rfl
    · rintro D H' hD ⟨s, hd⟩
      rw [List.length_map, List.take_length] at hd
      walk_at "my sts"
      exact tuple_end (sqL hd) fun q H2 hq s2 h2 => k q H2 (s1.free (s.free hq)) (s1.trans (s.trans s2)) h2
def tOrS (K : PySem.W.Frag) (ta tb : TE) : TE := fun σ H Q => ta σ H fun x H1 => ∃ c, TruV K x H1 c ∧ if c = true then Q x H1 else tb σ H1 Q
theorem pe_orS {X : Cx} {a b : Expr} {rest : List Expr} {pos : Pos} {ta tb : TE} (ha : PE X a ta) (hb : PE X (.BoolOp .Or (b :: rest) pos) tb) : PE X (.BoolOp .Or (a :: b :: rest) pos) (tOrS X.K ta tb) := by
  refine ⟨fun pins s σ H Q I h => ?_⟩
  refine BoolOp_or (thn (ha.run pins s σ H _ I h) fun v s1 ⟨x, H1, I1, r1, c, hc, q1⟩ => ?_)
  refine thn (tru_ok pins s1 σ H1 x v (fun k H2 => k = c ∧ H2 = H1) I1 r1 ⟨c, hc, rfl, rfl⟩) fun d s2 ⟨H2, I2, e1, e2⟩ => ?_
  subst e1 e2
  cases d with
  | false => exact hb.run pins s2 σ H2 Q I2 q1
  | true => exact ⟨x, H2, I2, r1, q1⟩
def OrEnd (K : PySem.W.Frag) (tb : TE) (σ : L2.St) (Q : VK) : V → Hp → Prop := fun x H1 => ∃ c, TruV K x H1 c ∧ if c = true then Q x H1 else tb σ H1 Q
section
variable {K : PySem.W.Frag} {σ : L2.St} {H : Hp} {Q : VK} {ta tb : TE}
theorem i_orS (q : ta σ H fun x H1 => OrEnd K tb σ Q x H1) : tOrS K ta tb σ H Q := q
instance : Nx (tOrS K ta tb σ H Q) (ta σ H fun x H1 => OrEnd K tb σ Q x H1) := ⟨i_orS⟩
theorem len_zero {z : Str} : z.length = 0 ↔ z = "" := by
  constructor
  · intro h
    refine TL.ext_tl ?_
    have : (TL.tl z).length = z.length := Array.length_toList
    rw [h] at this
    exact (List.length_eq_zero_iff.mp this).trans rfl
  · rintro rfl
    decide +kernel
theorem or_str {z : Str} (l : z.length ≤ sizeLine) (q : if z = "" then tb σ H Q else Q (.str z) H) : OrEnd K tb σ Q (.str z) H := by
  refine ⟨(z.length : Int) != 0, ⟨l, rfl⟩, ?_⟩
  by_cases c : z = ""
  · rw [if_pos c] at q
    have := len_zero.mpr c
    rw [this]
    exact q
  · rw [if_neg c] at q
    have : z.length ≠ 0 := fun e => c (len_zero.mp e)
    have : ((z.length : Int) != 0) = true := by
      rw [bne_iff_ne]
      omega
    rw [this]
    exact q
end
def sp_world_text (K : PySem.W.Frag) : Sp := fun vs H Q E => ∃ (x q : Addr) (fs : List (Str × Int)) (ds : List (Str × Str × Int)) (row : List Str), vs = [.ref x, .ref q] ∧ WebAt K H x fs ds ∧ Lt2 H q (row.map V.str) ∧ (fs.map (·.1)).Nodup ∧ fs.length ≤ 10 ∧ (∀ f ∈ fs, nameB f.1 = true) ∧
  (rowF (fs.map (·.1)) [] row = none → ∀ H', Same H H' → Q (.str (wl (inN (fs.map (·.1)) row))) H') ∧
  (∀ c f a, rowF (fs.map (·.1)) [] row = some (c, f, a) → ∀ d H', H d = none → H' d = some (.xd [(f, .str a)]) → Same H H' → E (.ref (gad K c)) (some d) H')
theorem ok_world_text {f : Addr} {fd : FuncData}
    {f_tell : Addr} {fd_tell : FuncData} (D_tell : Dn K mg "tell" s_tell p_tell f_tell fd_tell) (G_tell : FnOk P w K mg base CX0 3 f_tell fd_tell p_tell (sp_tell K))
    {f_mask_of : Addr} {fd_mask_of : FuncData} (D_mask_of : Dn K mg "mask_of" s_mask_of p_mask_of f_mask_of fd_mask_of) (G_mask_of : FnOk P w K mg base (L2.CX P w) 6 f_mask_of fd_mask_of p_mask_of (sp_mask_of K))
    (T : Txt K mg) (D : Dn K mg "world_text" s_world_text p_world_text f fd) : FnOk P w K mg base (L2.CX P w) 7 f fd p_world_text (sp_world_text K) := by
  refine D.F.okX sc_world_text (fun vs H Q E h => ?_) (fun cdv A outer s' H vs Q E hr h => ?_)
  · obtain ⟨_, _, _, _, _, rfl, _⟩ := h
    rfl
  · obtain ⟨x, q, fs, ds, row, rfl, hw, hq, nd, l10, nm, kQ, kE⟩ := h
    refine ⟨_, (pss_one (ps_ret (pe_orS (pe_bm PySem.F.plainAttrs_str PySem.F.slot_str_join PySem.F.type_str_join mt_join pe_str (pa_cons (pe_call G_tell (hr.mono (by omega)) (by rfl) D_tell.m D_tell.F.kp D_tell.b .nil pass0 (pa_cons (pv 0) (pa_cons (pe_call G_mask_of (hr.mono (by omega)) (by rfl) D_mask_of.m D_mask_of.F.kp D_mask_of.b .nil (passes_call (takes_of rfl rfl rfl rfl) (fun _ _ _ _ h => h)) (pa_cons (pv 0) (pa_cons (pv 1) pa_nil))) pa_nil))) pa_nil)) (pe_one (pe_globE (by rfl) T.c_NOBODY))))), ?_⟩
    walk_at "my sts"
    refine ⟨x, q, fs, ds, row, rfl, hw, hq, nd, by omega, fun e H1 s1 => ?_, fun c f a e => kE c f a e⟩
    have kQ := kQ e
    walk_at "my sts"
    refine ⟨x, mR (fs.map (·.1)) row, fs, ds, rfl, hw.same s1, mR_lt _ _, by omega, fun T H2 hT s2 h2 => ?_⟩
    rw [told_inN] at h2
    walk_at "my sts"
    have nz : ∀ z ∈ inN (fs.map (·.1)) row, 1 ≤ z.length ∧ z.length ≤ 8 := fun z hz => by
      obtain ⟨f, hf, rfl⟩ := List.mem_map.mp (List.mem_filter.mp hz |>.1)
      exact nameB_len (nm f hf)
    have lz := sumT_le fun z hz => (nz z hz).2
    have ln : (inN (fs.map (·.1)) row).length ≤ 10 := by
      have := List.length_filter_le (fun x => decide (x ∈ row)) (fs.map (·.1))
      rw [List.length_map] at this
      exact Nat.le_trans this l10
    have c1 : (" " : Str).length = 1 := by decide +kernel
    rw [wl_or fun z hz => (nz z hz).1] at kQ
    refine ⟨_, T, inN (fs.map (·.1)) row, rfl, rfl, .inr (sqT h2), by rw [c1]; omega, ?_⟩
    walk_at "my sts"
    have lj := joinT_le " " (inN (fs.map (·.1)) row)
    rw [c1] at lj
    rw [← TL.join_eq] at lj
    refine or_str (Nat.le_trans (show _ ≤ 1000 by omega) (by decide)) ?_
    by_cases c : Txt.join " " (inN (fs.map (·.1)) row) = ""
    · rw [if_pos c] at kQ ⊢
      walk_at "my sts"
      exact kQ _ (s1.trans s2)
    · rw [if_neg c] at kQ ⊢
      exact kQ _ (s1.trans s2)
/-- what the law tells of a row that is written -/
def AnsR (H : Hp) (v : V) (ns row : List Str) : Prop := (∃ c f a p, rowF ns [] row = some (c, f, a) ∧ v = .ref p ∧ H p = some (.lst [.str c, .str a])) ∨ (rowF ns [] row = none ∧ v = .str (wl (inN ns row)))
def sp_law_written (K : PySem.W.Frag) : Sp := fun vs H Q _ => ∃ (x q : Addr) (fs : List (Str × Int)) (ds : List (Str × Str × Int)) (row : List Str), vs = [.ref x, .ref q] ∧ WebAt K H x fs ds ∧ Lt2 H q (row.map V.str) ∧ (fs.map (·.1)).Nodup ∧ fs.length ≤ 10 ∧ (∀ f ∈ fs, nameB f.1 = true) ∧ ∀ v H', Same H H' → AnsR H' v (fs.map (·.1)) row → Q v H'
theorem ok_law_written {f : Addr} {fd : FuncData}
    {f_world_text : Addr} {fd_world_text : FuncData} (D_world_text : Dn K mg "world_text" s_world_text p_world_text f_world_text fd_world_text) (G_world_text : FnOk P w K mg base (L2.CX P w) 7 f_world_text fd_world_text p_world_text (sp_world_text K))
    (Y_BadName : Ee K mg "BadName")
    (Y_BadText : Ee K mg "BadText")
    (Y_DrowseError : Ee K mg "DrowseError")
    (Y_Repeated : Ee K mg "Repeated")
    (Y_UnknownFolk : Ee K mg "UnknownFolk")
    {fI_Repeated : Addr} (X_Repeated : Dx K mg "Repeated" (gad K "Repeated") fI_Repeated ["value"])
    {fI_UnknownFolk : Addr} (X_UnknownFolk : Dx K mg "UnknownFolk" (gad K "UnknownFolk") fI_UnknownFolk ["name"])
    (Kt : Ek K)
    (T : Txt K mg) (D : Dn K mg "_law_written" s_law_written p_law_written f fd) : FnOk P w K mg base CX0 8 f fd p_law_written (sp_law_written K) := by
  refine D.F.ok sc_law_written (fun vs H Q E h => ?_) (fun cdv A outer s' H vs Q E hr h => ?_)
  · obtain ⟨_, _, _, _, _, rfl, _⟩ := h
    rfl
  · obtain ⟨x, q, fs, ds, row, rfl, hw, hq, nd, l10, nm, k⟩ := h
    refine ⟨_, (pss_cons (ps_try_as (i := 2) (Wout := fun _ _ _ _ => False) rfl rfl sc_law_written.nd rfl rfl ⟨rfl, by decide, .inl Y_DrowseError.g⟩ takes0 (fun W pn xe tk po => (pss_one (ps_ret (pe_callSD (E := fun σ c d H => W c d σ H) G_world_text (hr.mono (by omega)) (by rfl) D_world_text.m D_world_text.F.kp D_world_text.b .nil (fun σ => passAt tk σ) (pa_cons (pv 0) (pa_cons (pv 1) pa_nil))))))
   (fun a oe cls d pn hz hf => (pss_cons (ps_if (PW.pt (pw_and (pt_val (pe_callB (call_isX (K := K) rfl hz hf) (by rfl) T.b_isinstance (by decide +kernel) (pa_cons (pv 2) (pa_cons (pe_globE (v := .ref (gad K "UnknownFolk")) (by rfl) ⟨_, Y_UnknownFolk.g, rfl⟩) pa_nil)))) (pw_and1 (pt_not (pt_val (pe_callB (call_isX (K := K) rfl hz hf) (by rfl) T.b_isinstance (by decide +kernel) (pa_cons (pv 2) (pa_cons (pe_tup (pa_cons (pe_globE (v := .ref (gad K "BadText")) (by rfl) ⟨_, Y_BadText.g, rfl⟩) (pa_cons (pe_globE (v := .ref (gad K "Repeated")) (by rfl) ⟨_, Y_Repeated.g, rfl⟩) (pa_cons (pe_globE (v := .ref (gad K "BadName")) (by rfl) ⟨_, Y_BadName.g, rfl⟩) pa_nil)))) pa_nil)))))))) (pss_one (ps_ret (pe_lst (pa_cons pe_str (pa_cons (pe_xf Y_UnknownFolk.xf (X_UnknownFolk.no "name" (by decide)) hz hf (pv 2)) pa_nil))))) pss_nil)
  (pss_one (ps_if (PW.pt (pw_and (pt_val (pe_callB (call_isX (K := K) rfl hz hf) (by rfl) T.b_isinstance (by decide +kernel) (pa_cons (pv 2) (pa_cons (pe_globE (v := .ref (gad K "Repeated")) (by rfl) ⟨_, Y_Repeated.g, rfl⟩) pa_nil)))) (pw_and1 (pt_not (pt_val (pe_callB (call_isX (K := K) rfl hz hf) (by rfl) T.b_isinstance (by decide +kernel) (pa_cons (pv 2) (pa_cons (pe_tup (pa_cons (pe_globE (v := .ref (gad K "BadText")) (by rfl) ⟨_, Y_BadText.g, rfl⟩) (pa_cons (pe_globE (v := .ref (gad K "UnknownFolk")) (by rfl) ⟨_, Y_UnknownFolk.g, rfl⟩) (pa_cons (pe_globE (v := .ref (gad K "BadName")) (by rfl) ⟨_, Y_BadName.g, rfl⟩) pa_nil)))) pa_nil)))))))) (pss_one (ps_ret (pe_lst (pa_cons pe_str (pa_cons (pe_xf Y_Repeated.xf (X_Repeated.no "value" (by decide)) hz hf (pv 2)) pa_nil))))) pss_nil)))))
  (pss_one (ps_ret (pe_lst (pa_cons pe_str pa_nil))))), ?_⟩
    walk_at "my sts"
    refine ⟨x, q, fs, ds, row, rfl, hw, hq, nd, l10, nm, fun e H1 s1 => ?_, fun c f a e d H1 hd ed s1 => ?_⟩
    · walk_at "my sts"
      exact k _ H1 s1 (.inr ⟨e, rfl⟩)
    · rcases rowF_kind e with ⟨rfl, rfl⟩ | ⟨rfl, rfl⟩
      · refine was_yes Kt.m_UnknownFolk_DrowseError fun ae hae => ?_
        walk_at "my sts"
        refine isX1 Y_UnknownFolk.exc (.inr ⟨d, _, rfl, ed⟩) Kt.k_UnknownFolk_UnknownFolk ?_
        walk_at "my sts"
        refine tup_end (show 3 ≤ 100000 by decide) fun p3 H2 _ s2 h2 => ?_
        have ed2 := s2 _ _ ed
        walk_at "my sts"
        refine isXT Y_UnknownFolk.exc (.inr ⟨d, _, rfl, ed2⟩) h2 (.cons (.own _) (.cons (.own _) (.cons (.own _) .nil))) (kitAny_no Kt.k_UnknownFolk_BadText (kitAny_no Kt.k_UnknownFolk_Repeated (kitAny_no Kt.k_UnknownFolk_BadName rfl))) ?_
        walk_at "my sts"
        refine ⟨rfl, rfl, d, _, _, rfl, ed2, by with_unfolding_all rfl, ?_⟩
        walk_at "my sts"
        refine lst_end (show 2 ≤ 100000 by decide) fun l H3 _ s3 h3 => ?_
        exact k _ H3 (s1.trans (s2.trans s3)) (.inl ⟨_, _, a, l, e, rfl, h3⟩)
      · refine was_yes Kt.m_Repeated_DrowseError fun ae hae => ?_
        walk_at "my sts"
        refine isX1 Y_Repeated.exc (.inr ⟨d, _, rfl, ed⟩) Kt.k_Repeated_UnknownFolk ?_
        walk_at "my sts"
        refine isX1 Y_Repeated.exc (.inr ⟨d, _, rfl, ed⟩) Kt.k_Repeated_Repeated ?_
        walk_at "my sts"
        refine tup_end (show 3 ≤ 100000 by decide) fun p3 H2 _ s2 h2 => ?_
        have ed2 := s2 _ _ ed
        walk_at "my sts"
        refine isXT Y_Repeated.exc (.inr ⟨d, _, rfl, ed2⟩) h2 (.cons (.own _) (.cons (.own _) (.cons (.own _) .nil))) (kitAny_no Kt.k_Repeated_BadText (kitAny_no Kt.k_Repeated_UnknownFolk (kitAny_no Kt.k_Repeated_BadName rfl))) ?_
        walk_at "my sts"
        refine ⟨rfl, rfl, d, _, _, rfl, ed2, by with_unfolding_all rfl, ?_⟩
        walk_at "my sts"
        refine lst_end (show 2 ≤ 100000 by decide) fun l H3 _ s3 h3 => ?_
        exact k _ H3 (s1.trans (s2.trans s3)) (.inl ⟨_, _, a, l, e, rfl, h3⟩)
/-- a fault as the law tells it -/
def flS : Option (Str × Str × Str) → List Str
  | none => []
  | some (c, _, a) => [c, a]
def sp_law_row_fault (K : PySem.W.Frag) : Sp := fun vs H Q _ => ∃ (p q : Addr) (ns row : List Str), vs = [.ref p, .ref q] ∧ H p = some (.lst (ns.map V.str)) ∧ H q = some (.lst (row.map V.str)) ∧ row.length ≤ 60000 ∧
  ∀ t H', H t = none → Same H H' → H' t = some (.lst ((flS (rowF ns [] row)).map V.str)) → Q (.ref t) H'
theorem ok_law_row_fault {f : Addr} {fd : FuncData}
    (T : Txt K mg) (D : Dn K mg "_law_row_fault" s_law_row_fault p_law_row_fault f fd) : FnOk P w K mg base CX0 1 f fd p_law_row_fault (sp_law_row_fault K) := by
  refine D.F.ok sc_law_row_fault (fun vs H Q E h => ?_) (fun cdv A outer s' H vs Q E hr h => ?_)
  · obtain ⟨_, _, _, _, rfl, _⟩ := h
    rfl
  · obtain ⟨p, q, ns, row, rfl, hp, hq, l, k⟩ := h
    refine ⟨_, (pss_cons (ps_set (i := 2) sc_law_row_fault.nd rfl (Or.inl rfl) (pe_lst pa_nil))
  (pss_cons (ps_for PassesOwn.never rfl (pi_list (pv 1)) (pg_name (i := 3) sc_law_row_fault.nd rfl (Or.inl rfl))
   (pss_cons (ps_if (pt_cmpR (op_notIn_seqK (K := K) rfl) (pv 3) (pv 0) (by rfl)) (pss_one (ps_ret (pe_lst (pa_cons pe_str (pa_cons (pv 3) pa_nil))))) pss_nil)
  (pss_cons (ps_if (pt_cmpR (op_in_seqK (K := K) rfl) (pv 3) (pv 2) (by rfl)) (pss_one (ps_ret (pe_lst (pa_cons pe_str (pa_cons (pv 3) pa_nil))))) pss_nil)
  (pss_one (ps_expr (pe_bm PySem.F.plainAttrs_list PySem.F.slot_list_append PySem.F.type_list_append mt_append (pv 2) (pa_cons (pv 3) pa_nil)))))))
  (pss_one (ps_ret (pe_lst pa_nil))))), ?_⟩
    walk_at "my sts"
    refine lst_end (by decide) fun D0 H0 hD s0 h0 => ?_
    walk_at "my sts"
    refine fl (xs := row.map V.str) (sqL (s0 _ _ hq)) (fun i σ' H' => Same H H' ∧ H' D0 = some (.lst ((row.take i).map V.str)) ∧ rowF ns [] row = rowF ns (row.take i) (row.drop i) ∧ ∃ u, σ' = [some (.ref p), some (.ref q), some (.ref D0), u]) ⟨s0, h0, rfl, none, rfl⟩ (fun i σ' H' _ g => sqL (g.1 _ _ hq)) ?_ ?_
    · rintro i y σ' H1 hy ⟨s1, hd, rf, u, rfl⟩
      rw [List.getElem?_map] at hy
      obtain ⟨a, ha, rfl⟩ := Option.map_eq_some_iff.mp hy
      have hi := (List.getElem?_eq_some_iff.mp ha).1
      have dr : row.drop i = a :: row.drop (i + 1) := by
        rw [List.drop_eq_getElem_cons hi]
        rw [List.getElem?_eq_getElem hi] at ha
        rw [Option.some.inj ha]
      have tk : row.take (i + 1) = row.take i ++ [a] := by
        rw [List.take_add_one, ha]
        rfl
      walk_at "my sts"
      refine i_notInStr (sqL (s1 _ _ hp)) ?_
      walk_at "my sts"
      refine i_ite (fun h => ?_) fun h => ?_
      · have hm : a ∉ ns := by simpa using h
        walk_at "my sts"
        refine lst_end (show 2 ≤ 100000 by decide) fun t H2 ht s2 h2 => k t H2 (s1.free ht) (s1.trans s2) ?_
        rw [rf, dr]
        unfold rowF
        rw [if_neg hm]
        exact h2
      have hm : a ∈ ns := by simpa using h
      walk_at "my sts"
      refine i_inStr (sqL hd) ?_
      walk_at "my sts"
      refine i_ite (fun h => ?_) fun h => ?_
      · have hs : a ∈ row.take i := by simpa using h
        walk_at "my sts"
        refine lst_end (show 2 ≤ 100000 by decide) fun t H2 ht s2 h2 => k t H2 (s1.free ht) (s1.trans s2) ?_
        rw [rf, dr]
        unfold rowF
        rw [if_pos hm, if_pos hs]
        exact h2
      have hs : a ∉ row.take i := by simpa using h
      walk_at "my sts"
      refine i_append hd (by rw [List.length_map, List.length_take]; omega) ?_
      walk_at "my sts"
      refine ⟨same_mut s1 hD, ?_, ?_, some (.str a), rfl⟩
      · rw [upd_same, tk, List.map_append]
        rfl
      · rw [rf, dr, tk]
        conv => lhs; unfold rowF
        rw [if_pos hm, if_neg hs]
    · rintro σ' H1 ⟨s1, hd, rf, u, rfl⟩
      rw [List.length_map, List.take_length, List.drop_length] at rf
      walk_at "my sts"
      refine lst_end (by decide) fun t H2 ht s2 h2 => k t H2 (s1.free ht) (s1.trans s2) ?_
      rw [rf]
      exact h2
def sp_law_written_due (K : PySem.W.Frag) : Sp := fun vs H Q _ => ∃ (p q : Addr) (ns row : List Str), vs = [.ref p, .ref q] ∧ H p = some (.lst (ns.map V.str)) ∧ H q = some (.lst (row.map V.str)) ∧ row.length ≤ 1000 ∧ ns.length ≤ 10 ∧ (∀ n ∈ ns, nameB n = true) ∧
  (∀ c f a, rowF ns [] row = some (c, f, a) → ∀ t H', H t = none → Same H H' → H' t = some (.lst [.str c, .str a]) → Q (.ref t) H') ∧ (rowF ns [] row = none → ∀ H', Same H H' → Q (.str (wl (inN ns row))) H')
theorem ok_law_written_due {f : Addr} {fd : FuncData}
    {f_law_row_fault : Addr} {fd_law_row_fault : FuncData} (D_law_row_fault : Dn K mg "_law_row_fault" s_law_row_fault p_law_row_fault f_law_row_fault fd_law_row_fault) (G_law_row_fault : FnOk P w K mg base CX0 1 f_law_row_fault fd_law_row_fault p_law_row_fault (sp_law_row_fault K))
    (T : Txt K mg) (D : Dn K mg "_law_written_due" s_law_written_due p_law_written_due f fd) : FnOk P w K mg base CX0 2 f fd p_law_written_due (sp_law_written_due K) := by
  refine D.F.ok sc_law_written_due (fun vs H Q E h => ?_) (fun cdv A outer s' H vs Q E hr h => ?_)
  · obtain ⟨_, _, _, _, rfl, _⟩ := h
    rfl
  · obtain ⟨p, q, ns, row, rfl, hp, hq, lr, ln, nm, kF, kT⟩ := h
    refine ⟨_, (pss_cons (ps_set (i := 2) sc_law_written_due.nd rfl (Or.inl rfl) (pe_call G_law_row_fault (hr.mono (by omega)) (by rfl) D_law_row_fault.m D_law_row_fault.F.kp D_law_row_fault.b .nil pass0 (pa_cons (pv 0) (pa_cons (pv 1) pa_nil))))
  (pss_cons (ps_if (pt_cmpR (op_neN (K := K) rfl hr.units) (pv 2) (pe_lst pa_nil) (nomark _)) (pss_one (ps_ret (pv 2))) pss_nil)
  (pss_cons (ps_set (i := 3) sc_law_written_due.nd rfl (Or.inl rfl) pe_str)
  (pss_cons (ps_for PassesOwn.never rfl (pi_list (pv 0)) (pg_name (i := 4) sc_law_written_due.nd rfl (Or.inl rfl))
   (pss_one (ps_if (pt_cmpR (op_in_seqK (K := K) rfl) (pv 4) (pv 1) (by rfl)) (pss_one (ps_set (i := 3) sc_law_written_due.nd rfl (Or.inl rfl) (pe_op n_addZ (pe_op n_addZ (pv 3) pe_str) (pv 4)))) pss_nil)))
  (pss_cons (ps_if (pt_cmpR op_eq (pv 3) pe_str (nomark _)) (pss_one (ps_ret pe_str)) pss_nil)
  (pss_one (ps_ret (pe_slice sl_str (pv 3) (po_some pe_int) po_none)))))))), ?_⟩
    walk_at "my sts"
    refine ⟨p, q, ns, row, rfl, hp, hq, by omega, fun t H1 ht s1 h1 => ?_⟩
    walk_at "my sts"
    refine lst_end (by decide) fun e0 H2 he0 s2 h2 => ?_
    cases c : rowF ns [] row with
    | some cfa =>
      obtain ⟨c0, f, a⟩ := cfa
      rw [c] at h1
      refine i_neN (sqL (s2 _ _ h1)) (sqL h2) ?_
      rw [show (!(List.map V.str (flS (some (c0, f, a)))).isEmpty) = true from rfl]
      walk_at "my sts"
      exact kF c0 f a c t H2 ht (s1.trans s2) (s2 _ _ h1)
    | none =>
      rw [c] at h1
      refine i_neN (sqL (s2 _ _ h1)) (sqL h2) ?_
      rw [show (!(List.map V.str (flS none)).isEmpty) = false from rfl]
      have s12 := s1.trans s2
      have kT := kT c
      walk_at "my sts"
      have hp2 := s12 _ _ hp
      have hq2 := s12 _ _ hq
      have nz : ∀ z ∈ inN ns row, z.length ≤ 8 := fun z hz => (nameB_len (nm z (List.mem_filter.mp hz).1)).2
      refine fl (xs := ns.map V.str) (sqL hp2) (fun i σ' H' => Same H2 H' ∧ ∃ u, σ' = [some (.ref p), some (.ref q), some (.ref t), some (.str (preW ((ns.take i).filter fun x => decide (x ∈ row)))), u]) ⟨Same.refl _, _, rfl⟩ (fun i σ' H' _ g => sqL (g.1 _ _ hp2)) ?_ ?_
      · rintro i v σ' H3 hv ⟨s3, u, rfl⟩
        rw [List.getElem?_map] at hv
        obtain ⟨a, ha, rfl⟩ := Option.map_eq_some_iff.mp hv
        have la := nm a (List.mem_of_getElem? ha)
        have lp := preW_len (r := (ns.take i).filter fun x => decide (x ∈ row)) (n := 8) fun z hz => (nameB_len (nm z (List.mem_of_mem_take (List.mem_filter.mp hz).1))).2
        have lf : ((ns.take i).filter fun x => decide (x ∈ row)).length ≤ 10 := Nat.le_trans (List.length_filter_le _ _) (Nat.le_trans (List.length_take_le _ _) (by have := (List.getElem?_eq_some_iff.mp ha).1; omega))
        have c1 : (" " : Str).length = 1 := by decide +kernel
        have la := (nameB_len la).2
        walk_at "my sts"
        refine i_inStr (sqL (s3 _ _ hq2)) ?_
        walk_at "my sts"
        refine i_ite (fun h => ?_) fun h => ?_
        · walk_at "my sts"
          rw [filter_tkW ha, if_pos h, preW_snoc]
          exact ⟨s3, _, rfl⟩
        · walk_at "my sts"
          rw [filter_tkW ha, if_neg (by rw [h]; decide), List.append_nil]
          exact ⟨s3, _, rfl⟩
      · rintro σ' H3 ⟨s3, u, rfl⟩
        rw [List.length_map, List.take_length]
        walk_at "my sts"
        have lf : (inN ns row).length ≤ 10 := Nat.le_trans (List.length_filter_le _ _) ln
        have lp := preW_len nz
        have kT := kT H3 (s12.trans s3)
        change Q (.str (wl (ns.filter fun x => decide (x ∈ row)))) H3 at kT
        change (ns.filter fun x => decide (x ∈ row)).length ≤ 10 at lf
        change (preW (ns.filter fun x => decide (x ∈ row))).length ≤ (ns.filter fun x => decide (x ∈ row)).length * (8 + 1) at lp
        generalize (ns.filter fun x => decide (x ∈ row)) = r at *
        cases r with
        | nil =>
          rw [show decide (V.str (preW []) = V.str (Str.ofString "")) = true from decide_eq_true rfl]
          walk_at "my sts"
          exact kT
        | cons a l =>
          have ne : ¬ V.str (preW (a :: l)) = V.str (Str.ofString "") := fun e => by
            injection e with e
            have e2 := congrArg Str.length e
            rw [preW_cons, strLen_append] at e2
            have c1 : (" " : Str).length = 1 := by decide +kernel
            have c2 : (Str.ofString "").length = 0 := by decide +kernel
            omega
          rw [decide_eq_false ne]
          walk_at "my sts"
          rw [preW_cons, cut1]
          unfold wl at kT
          rw [if_neg (fun e => nomatch e), TL.join_eq] at kT
          exact kT
def sp_Web__contains (K : PySem.W.Frag) : Sp := fun vs H Q _ => ∃ (x : Addr) (fs : List (Str × Int)) (ws : List (Str × Str × Int)) (a : Str), vs = [.ref x, .str a] ∧ WebAt K H x fs ws ∧ ∀ H', Same H H' → Q (.bl (decide (a ∈ fs.map (·.1)))) H'
theorem ok_Web__contains {f : Addr} {fd : FuncData}
    (X_Web : Ci K mg "Web" ["_folk", "_names", "_watches", "_pulls"])
    (T : Txt K mg) (D : Dm K "__contains__" "Web.__contains__" s_Web__contains p_Web__contains f fd) : FnOk P w K mg base CX0 1 f fd p_Web__contains (sp_Web__contains K) := by
  refine D.F.ok sc_Web__contains (fun vs H Q E h => ?_) (fun cdv A outer s' H vs Q E hr h => ?_)
  · obtain ⟨_, _, _, _, rfl, _⟩ := h
    rfl
  · obtain ⟨x, fs, ws, a, rfl, hw, k⟩ := h
    obtain ⟨dx, pf, pn, pw, pp, rf, rw, rp, h1, h2, h3, h4, h5, h6, h7, h8⟩ := hw
    refine ⟨_, (pss_one (ps_ret (pe_cmpR (op_in_seqK (K := K) rfl) (pv 1) (pe_fldK (K := K) rfl (pv 0) rfl) (by rfl)))), ?_⟩
    walk_at "my sts"
    refine fld_end h1 X_Web.cl (X_Web.no "_names" (by decide)) lk_names ?_
    refine i_inStrT h4.sq ?_
    exact k _ (Same.refl _)
def sp_BadText__init (K : PySem.W.Frag) : Sp := spInit1 "line" K
theorem ok_BadText__init {f : Addr} {fd : FuncData}
    {f_plain : Addr} {fd_plain : FuncData} (D_plain : Dn K mg "plain" s_plain p_plain f_plain fd_plain) (G_plain : FnOk P w K mg base CX0 2 f_plain fd_plain p_plain (sp_plain K))
    (T : Txt K mg) (D : Dm K "__init__" "BadText.__init__" s_BadText__init p_BadText__init f fd) : FnOk P w K mg base CX0 3 f fd p_BadText__init (sp_BadText__init K) := by
  refine D.F.ok sc_BadText__init (fun vs H Q E h => ?_) (fun cdv A outer s' H vs Q E hr h => ?_)
  · obtain ⟨a, C, v, rfl, _⟩ := h
    rfl
  · obtain ⟨a, C, v, rfl, hC, hno, ha, hv, k⟩ := h
    refine ⟨_, (pss_one (ps_ostK (K := K) rfl (pv 0) (pe_call G_plain (hr.mono (by omega)) (by rfl) D_plain.m D_plain.F.kp D_plain.b .nil pass0 (pa_cons (pv 1) pa_nil)))), ?_⟩
    refine i_ost ?_
    walk_at "my sts"
    refine ⟨v, rfl, hv, fun v' H1 pt s1 => ?_⟩
    walk_at "my sts"
    refine ost_first hC hno (s1 _ _ ha) fun dx hdx na => ?_
    refine k v' dx _ (s1.free hdx) upd_same (by rw [upd_ne na]; exact upd_same) ?_ fun b o nb hb => ?_
    · rcases pt with pt | ⟨p, xs, q, e, hp, e', hq⟩
      · exact .inl pt
      · refine .inr ⟨p, xs, q, e, hp, e', ?_⟩
        rw [upd_ne (at_ne (s1 _ _ ha) hq exo_tup), upd_ne (ne_of_none hq hdx)]
        exact hq
    · rw [upd_ne nb, upd_ne (ne_of_none (s1 _ _ hb) hdx)]
      exact s1 _ _ hb
def FE0 (K : PySem.W.Frag) (g : TG) (tb : TS) (nx : L2.St → Hp → Prop) (rt : VK) (σ : L2.St) : List V → Hp → Prop := fun vs H1 => tFor (iEnum K (fun _ H R => R vs H)) g tb ⟨nx, rt, fun _ _ => False, fun _ _ => False⟩ σ H1
instance {K : PySem.W.Frag} {ta : TA} {g : TG} {tb : TS} {nx bk ct : L2.St → Hp → Prop} {rt : VK} {σ : L2.St} {H : Hp} : Nx (tFor (iEnum K ta) g tb ⟨nx, rt, bk, ct⟩ σ H) (ta σ H fun vs H1 => FE0 K g tb nx rt σ vs H1) := ⟨fun q => q⟩
theorem fe0 {K : PySem.W.Frag} {g : TG} {tb : TS} {nx : L2.St → Hp → Prop} {rt : VK} {σ : L2.St} {H : Hp} {a : Addr} {xs : List V} (h : SqL K H a xs) (Pv : Nat → L2.St → Hp → Prop) (p0 : Pv 0 σ H) (hl : ∀ i σ' H', i ≤ xs.length → Pv i σ' H' → SqL K H' a xs)
    (ps : ∀ i x σ' H' T, xs[i]? = some x → Pv i σ' H' → H' T = none → g (.ref T) σ' (upd H' T (.tup [.int (i : Int), x])) fun σ2 H2 => tb ⟨Pv (i + 1), rt, nx, Pv (i + 1)⟩ σ2 H2) (pd : ∀ σ' H', Pv xs.length σ' H' → nx σ' H') : FE0 K g tb nx rt σ [.ref a] H :=
  ⟨a, xs, rfl, h, for_it (D := ⟨nx, rt, fun _ _ => False, fun _ _ => False⟩) (walk_enum (K := K) (a := a) (xs := xs)) Pv p0 (fun i σ' H' hi p => hl i σ' H' hi p) (fun i x σ' H' H'' _ p y => by
    obtain ⟨T, u, z, rfl, hT, rfl, e1, e2⟩ := y
    cases e1
    exact ps i z σ' H' T e2 p hT) fun σ' H' p => pd σ' H' p⟩
def sp_read_world (K : PySem.W.Frag) : Sp := fun vs H Q E => ∃ (x : Addr) (fs : List (Str × Int)) (ds : List (Str × Str × Int)) (z : Str), vs = [.ref x, .str z] ∧ WebAt K H x fs ds ∧ (fs.map (·.1)).Nodup ∧ fs.length ≤ 10 ∧ z.length ≤ 50000 ∧
  (∀ r, wdF (fs.map (·.1)) z = some r → ∀ t H', Same H H' → Rd H' t (.tup (r.map V.str)) → Q (.ref t) H') ∧
  (wdF (fs.map (·.1)) z = none → ∀ d H', H d = none → H' d = some (.xd [("line", .int 1)]) → Same H H' → E (.ref (gad K "BadText")) (some d) H')
theorem ok_read_world {f : Addr} {fd : FuncData}
    {f_Web__contains : Addr} {fd_Web__contains : FuncData} (D_Web__contains : Dm K "__contains__" "Web.__contains__" s_Web__contains p_Web__contains f_Web__contains fd_Web__contains) (G_Web__contains : FnOk P w K mg base CX0 1 f_Web__contains fd_Web__contains p_Web__contains (sp_Web__contains K))
    (M_Web__contains : Meth K (gad K "Web") "__contains__" f_Web__contains)
    {f_tell : Addr} {fd_tell : FuncData} (D_tell : Dn K mg "tell" s_tell p_tell f_tell fd_tell) (G_tell : FnOk P w K mg base CX0 3 f_tell fd_tell p_tell (sp_tell K))
    {f_mask_of : Addr} {fd_mask_of : FuncData} (D_mask_of : Dn K mg "mask_of" s_mask_of p_mask_of f_mask_of fd_mask_of) (G_mask_of : FnOk P w K mg base (L2.CX P w) 6 f_mask_of fd_mask_of p_mask_of (sp_mask_of K))
    {f_BadText__init : Addr} {fd_BadText__init : FuncData} (D_BadText__init : Dm K "__init__" "BadText.__init__" s_BadText__init p_BadText__init f_BadText__init fd_BadText__init) (G_BadText__init : FnOk P w K mg base CX0 3 f_BadText__init fd_BadText__init p_BadText__init (sp_BadText__init K))
    (X_BadText : Dx K mg "BadText" (gad K "BadText") f_BadText__init ["line"])
    (X_Web : Ci K mg "Web" ["_folk", "_names", "_watches", "_pulls"])
    (T : Txt K mg) (D : Dn K mg "read_world" s_read_world p_read_world f fd) : FnOk P w K mg base (L2.CX P w) 7 f fd p_read_world (sp_read_world K) := by
  refine D.F.okX sc_read_world (fun vs H Q E h => ?_) (fun cdv A outer s' H vs Q E hr h => ?_)
  · obtain ⟨_, _, _, _, rfl, _⟩ := h
    rfl
  · obtain ⟨x, fs, ds, z, rfl, hw, nd, l10, lz, kQ, kE⟩ := h
    unfold wdF at kQ kE
    refine ⟨_, (pss_cons (ps_if (pt_cmpR op_eq (pv 1) (pe_globE (by rfl) T.c_NOBODY) (nomark _)) (pss_one (ps_ret (pe_tup pa_nil))) pss_nil)
  (pss_cons (ps_set (i := 2) sc_read_world.nd rfl (Or.inl rfl) (pe_bm PySem.F.plainAttrs_str PySem.F.slot_str_split PySem.F.type_str_split mt_split (pv 1) (pa_cons pe_str pa_nil)))
  (pss_cons (ps_for (passes_of rfl) rfl (pi_enum (by rfl) T.b_enumerate (pa_cons (pv 2) pa_nil)) (pg_tup rfl (pgs_cons (pg_name (i := 3) sc_read_world.nd rfl (Or.inl rfl)) (pgs_cons (pg_name (i := 4) sc_read_world.nd rfl (Or.inl rfl)) pgs_nil)))
   (pss_one (ps_if (PW.pt (pw_or (pt_cmpR (op_notInOwn M_Web__contains G_Web__contains (hr.mono (by omega)) D_Web__contains.b pass0) (pv 4) (pv 0) (by rfl)) (pw_or1 (pt_cmpR (op_in_seqK (K := K) rfl) (pv 4) (pe_slice (sl_listK (K := K) rfl) (pv 2) po_none (po_some (pv 3))) (by rfl))))) (pss_one (ps_raise rfl (takes_of rfl rfl rfl rfl) (pmk_oex X_BadText.oex X_BadText.iC X_BadText.tI G_BadText__init (hr.mono (by omega)) D_BadText__init.b .nil pass0 (by rfl) X_BadText.g (pa_cons pe_int pa_nil)))) pss_nil)))
  (pss_one (ps_ret (pe_call G_tell (hr.mono (by omega)) (by rfl) D_tell.m D_tell.F.kp D_tell.b .nil pass0 (pa_cons (pv 0) (pa_cons (pe_call G_mask_of (hr.mono (by omega)) (by rfl) D_mask_of.m D_mask_of.F.kp D_mask_of.b .nil (passes_call (takes_of rfl rfl rfl rfl) (fun _ _ _ _ h => h)) (pa_cons (pv 0) (pa_cons (pv 2) pa_nil))) pa_nil)))))))), ?_⟩
    walk_at "my sts"
    refine i_ite (fun c => ?_) fun c => ?_
    · have ez : z = "-" := by have := of_decide_eq_true c; injection this
      rw [if_pos ez] at kQ
      walk_at "my sts"
      refine tup_end (by decide) fun t H1 ht s1 h1 => ?_
      exact kQ [] rfl t H1 s1 (.inl h1)
    · walk_at "my sts"
      refine ⟨z, " ", rfl, rfl, by decide +kernel, Nat.le_trans (show z.length + 2 ≤ 200000 by omega) (by decide), fun L hL => ?_⟩
      have ez : z ≠ "-" := fun e => absurd (by rw [e]) (of_decide_eq_false c)
      rw [if_neg ez] at kQ kE
      have s1 : Same H (upd H L (.lst ((Txt.split z " ").map V.str))) := same_new hL
      have h1 : (upd H L (.lst ((Txt.split z " ").map V.str))) L = some (.lst ((Txt.split z " ").map V.str)) := upd_same
      have lsp := PyProof.Rows.split_le z " "
      generalize upd H L (.lst ((Txt.split z " ").map V.str)) = H1 at *
      generalize Txt.split z " " = ws at *
      have hw1 := hw.same s1
      obtain ⟨dx, _, _, _, _, _, _, _, hxi, _⟩ := id hw1
      walk_at "my sts"
      refine fe0 (xs := ws.map V.str) (sqL h1) (fun i σ' H' => Same H1 H' ∧ ∃ u3 u4, σ' = [some (.ref x), some (.str z), some (.ref L), u3, u4] ∧ rowF (fs.map (·.1)) [] ws = rowF (fs.map (·.1)) (ws.take i) (ws.drop i)) ⟨Same.refl _, _, _, rfl, rfl⟩ (fun i σ' H' _ g => sqL (g.1 _ _ h1)) ?_ ?_
      · rintro i v σ' H2 D hv ⟨s2, u3, u4, rfl, eR⟩ hD
        rw [List.getElem?_map] at hv
        obtain ⟨a, ea, rfl⟩ := Option.map_eq_some_iff.mp hv
        have hi := (List.getElem?_eq_some_iff.mp ea).1
        have s3 : Same H2 (upd H2 D (.tup [.int (i : Int), .str a])) := same_new hD
        refine ⟨D, _, rfl, sqT upd_same, rfl, _, _, rfl, _, _, rfl, rfl, ?_⟩
        generalize upd H2 D (.tup [.int (i : Int), .str a]) = H3 at *
        have s23 := s2.trans s3
        have ed : ws.drop i = a :: ws.drop (i + 1) := by
          rw [List.drop_eq_getElem_cons hi]
          rw [List.getElem?_eq_getElem hi] at ea
          rw [Option.some.inj ea]
        rw [ed, rowF] at eR
        walk_at "my sts"
        refine i_notInOwn (s23 _ _ hxi) ⟨x, fs, ds, a, rfl, hw1.same s23, fun H4 s4 => ⟨_, rfl, ?_⟩⟩
        have s14 := s23.trans s4
        have h14 := s14 _ _ h1
        walk_at "my sts"
        refine i_ite (fun m => ?_) fun m => ?_
        · have nm : a ∉ fs.map (·.1) := of_decide_eq_false (by simpa using m)
          rw [if_neg nm] at eR
          walk_at "my sts"
          refine mk1 X_BadText.oex (X_BadText.no "line" (by decide)) (.inl rfl) fun v' d H9 hd ed pt s9 => ?_
          have ev : v' = V.int 1 := by
            rcases pt with ⟨_, e⟩ | ⟨_, _, _, e, _⟩
            · exact e
            · cases e
          rw [ev] at ed
          exact kE (if_neg (by rw [eR]; exact fun e => nomatch e)) d H9 ((s1.trans s14).free hd) ed ((s1.trans s14).trans s9)
        · have im : a ∈ fs.map (·.1) := of_decide_eq_true (by simpa using m)
          rw [if_pos im] at eR
          walk_at "my sts"
          refine sl_end (sqL h14) fun S H5 hS s5 h5 => ?_
          rw [cutV_to, ← List.map_take] at h5
          have s15 := s14.trans s5
          walk_at "my sts"
          refine i_inStr (sqL h5) ?_
          walk_at "my sts"
          refine i_ite (fun c3 => ?_) fun c3 => ?_
          · rw [if_pos (of_decide_eq_true c3)] at eR
            walk_at "my sts"
            refine mk1 X_BadText.oex (X_BadText.no "line" (by decide)) (.inl rfl) fun v' d H9 hd ed pt s9 => ?_
            have ev : v' = V.int 1 := by
              rcases pt with ⟨_, e⟩ | ⟨_, _, _, e, _⟩
              · exact e
              · cases e
            rw [ev] at ed
            exact kE (if_neg (by rw [eR]; exact fun e => nomatch e)) d H9 ((s1.trans s15).free hd) ed ((s1.trans s15).trans s9)
          · rw [if_neg (of_decide_eq_false c3)] at eR
            walk_at "my sts"
            refine ⟨s15, _, _, rfl, ?_⟩
            rw [eR, List.take_add_one, ea]
            rfl
      · rintro σ' H2 ⟨s2, u3, u4, rfl, eR⟩
        walk_at "my sts"
        rw [List.length_map, List.take_length, List.drop_length] at eR
        have eN : rowF (fs.map (·.1)) [] ws = none := eR.trans rfl
        rw [if_pos eN] at kQ
        refine ⟨x, L, fs, ds, ws, rfl, hw1.same s2, .inl (s2 _ _ h1), nd, by omega, fun e H3 s3 => ?_, fun c f a e => absurd (eN.symm.trans e) (fun e => nomatch e)⟩
        walk_at "my sts"
        refine ⟨x, mR (fs.map (·.1)) ws, fs, ds, rfl, (hw1.same s2).same s3, mR_lt _ _, by omega, fun T H4 hT s4 h4 => ?_⟩
        rw [told_inN] at h4
        exact kQ _ rfl T H4 (s1.trans (s2.trans (s3.trans s4))) (.inl h4)
/-- what the law tells of a text that is read -/
def AnsW (H : Hp) (v : V) (o : Option (List Str)) : Prop := ∃ a, v = .ref a ∧ ((o = none ∧ H a = some (.lst [.str "BadText", .int 1])) ∨ ∃ r, o = some r ∧ Rd H a (.tup (r.map V.str)))
def sp_law_told (K : PySem.W.Frag) : Sp := fun vs H Q _ => ∃ (x : Addr) (fs : List (Str × Int)) (ds : List (Str × Str × Int)) (z : Str), vs = [.ref x, .str z] ∧ WebAt K H x fs ds ∧ (fs.map (·.1)).Nodup ∧ fs.length ≤ 10 ∧ z.length ≤ 50000 ∧ ∀ v H', Same H H' → AnsW H' v (wdF (fs.map (·.1)) z) → Q v H'
theorem ok_law_told {f : Addr} {fd : FuncData}
    {f_read_world : Addr} {fd_read_world : FuncData} (D_read_world : Dn K mg "read_world" s_read_world p_read_world f_read_world fd_read_world) (G_read_world : FnOk P w K mg base (L2.CX P w) 7 f_read_world fd_read_world p_read_world (sp_read_world K))
    (Y_BadName : Ee K mg "BadName")
    (Y_BadText : Ee K mg "BadText")
    (Y_DrowseError : Ee K mg "DrowseError")
    (Y_Repeated : Ee K mg "Repeated")
    (Y_UnknownFolk : Ee K mg "UnknownFolk")
    {fI_BadText : Addr} (X_BadText : Dx K mg "BadText" (gad K "BadText") fI_BadText ["line"])
    (Kt : Ek K)
    (T : Txt K mg) (D : Dn K mg "_law_told" s_law_told p_law_told f fd) : FnOk P w K mg base CX0 8 f fd p_law_told (sp_law_told K) := by
  refine D.F.ok sc_law_told (fun vs H Q E h => ?_) (fun cdv A outer s' H vs Q E hr h => ?_)
  · obtain ⟨_, _, _, _, rfl, _⟩ := h
    rfl
  · obtain ⟨x, fs, ds, z, rfl, hw, nd, l10, lz, k⟩ := h
    refine ⟨_, (pss_cons (ps_try_as (i := 2) (Wout := fun _ _ _ _ => False) rfl rfl sc_law_told.nd rfl rfl ⟨rfl, by decide, .inl Y_DrowseError.g⟩ takes0 (fun W pn xe tk po => (pss_one (ps_ret (pe_callSD (E := fun σ c d H => W c d σ H) G_read_world (hr.mono (by omega)) (by rfl) D_read_world.m D_read_world.F.kp D_read_world.b .nil (fun σ => passAt tk σ) (pa_cons (pv 0) (pa_cons (pv 1) pa_nil))))))
   (fun a oe cls d pn hz hf => (pss_one (ps_if (PW.pt (pw_and (pt_val (pe_callB (call_isX (K := K) rfl hz hf) (by rfl) T.b_isinstance (by decide +kernel) (pa_cons (pv 2) (pa_cons (pe_globE (v := .ref (gad K "BadText")) (by rfl) ⟨_, Y_BadText.g, rfl⟩) pa_nil)))) (pw_and1 (pt_not (pt_val (pe_callB (call_isX (K := K) rfl hz hf) (by rfl) T.b_isinstance (by decide +kernel) (pa_cons (pv 2) (pa_cons (pe_tup (pa_cons (pe_globE (v := .ref (gad K "UnknownFolk")) (by rfl) ⟨_, Y_UnknownFolk.g, rfl⟩) (pa_cons (pe_globE (v := .ref (gad K "Repeated")) (by rfl) ⟨_, Y_Repeated.g, rfl⟩) (pa_cons (pe_globE (v := .ref (gad K "BadName")) (by rfl) ⟨_, Y_BadName.g, rfl⟩) pa_nil)))) pa_nil)))))))) (pss_one (ps_ret (pe_lst (pa_cons pe_str (pa_cons (pe_xf Y_BadText.xf (X_BadText.no "line" (by decide)) hz hf (pv 2)) pa_nil))))) pss_nil))))
  (pss_one (ps_ret (pe_lst (pa_cons pe_str pa_nil))))), ?_⟩
    walk_at "my sts"
    refine ⟨x, fs, ds, z, rfl, hw, nd, l10, lz, fun r e t H1 s1 h1 => ?_, fun e d H1 hd ed s1 => ?_⟩
    · walk_at "my sts"
      exact k _ H1 s1 ⟨t, rfl, .inr ⟨r, e, h1⟩⟩
    · refine was_yes Kt.m_BadText_DrowseError fun ae hae => ?_
      walk_at "my sts"
      refine isX1 Y_BadText.exc (.inr ⟨d, _, rfl, ed⟩) Kt.k_BadText_BadText ?_
      walk_at "my sts"
      refine tup_end (show 3 ≤ 100000 by decide) fun p3 H2 _ s2 h2 => ?_
      have ed2 := s2 _ _ ed
      walk_at "my sts"
      refine isXT Y_BadText.exc (.inr ⟨d, _, rfl, ed2⟩) h2 (.cons (.own _) (.cons (.own _) (.cons (.own _) .nil))) (kitAny_no Kt.k_BadText_UnknownFolk (kitAny_no Kt.k_BadText_Repeated (kitAny_no Kt.k_BadText_BadName rfl))) ?_
      walk_at "my sts"
      refine ⟨rfl, rfl, d, _, _, rfl, ed2, by with_unfolding_all rfl, ?_⟩
      walk_at "my sts"
      refine lst_end (show 2 ≤ 100000 by decide) fun l H3 _ s3 h3 => ?_
      exact k _ H3 (s1.trans (s2.trans s3)) ⟨l, rfl, .inl ⟨e, h3⟩⟩
def sp_law_due (K : PySem.W.Frag) : Sp := fun vs H Q _ => ∃ (p : Addr) (ns : List Str) (z : Str), vs = [.ref p, .str z] ∧ H p = some (.lst (ns.map V.str)) ∧ z.length ≤ 50000 ∧ ns.length ≤ 10 ∧
  (∀ r, wdF ns z = some r → ∀ t H', Same H H' → Rd H' t (.tup (r.map V.str)) → Q (.ref t) H') ∧ (wdF ns z = none → ∀ t H', Same H H' → H' t = some (.lst [.str "BadText", .int 1]) → Q (.ref t) H')
theorem ok_law_due {f : Addr} {fd : FuncData}
    {f_law_row_fault : Addr} {fd_law_row_fault : FuncData} (D_law_row_fault : Dn K mg "_law_row_fault" s_law_row_fault p_law_row_fault f_law_row_fault fd_law_row_fault) (G_law_row_fault : FnOk P w K mg base CX0 1 f_law_row_fault fd_law_row_fault p_law_row_fault (sp_law_row_fault K))
    (T : Txt K mg) (D : Dn K mg "_law_due" s_law_due p_law_due f fd) : FnOk P w K mg base CX0 2 f fd p_law_due (sp_law_due K) := by
  refine D.F.ok sc_law_due (fun vs H Q E h => ?_) (fun cdv A outer s' H vs Q E hr h => ?_)
  · obtain ⟨_, _, _, rfl, _⟩ := h
    rfl
  · obtain ⟨p, ns, z, rfl, hp, lz, ln, kT, kF⟩ := h
    unfold wdF at kT kF
    refine ⟨_, (pss_cons (ps_set (i := 2) sc_law_due.nd rfl (Or.inr rfl) (pe_bm PySem.F.plainAttrs_str PySem.F.slot_str_split PySem.F.type_str_split mt_split (pv 1) (pa_cons pe_str pa_nil)))
  (pss_cons (ps_if (pt_cmpR op_eq (pv 1) pe_str (nomark _)) (pss_one (ps_set (i := 2) sc_law_due.nd rfl (Or.inr rfl) (pe_lst pa_nil))) pss_nil)
  (pss_cons (ps_if (pt_cmpR (op_neN (K := K) rfl hr.units) (pe_call G_law_row_fault (hr.mono (by omega)) (by rfl) D_law_row_fault.m D_law_row_fault.F.kp D_law_row_fault.b .nil pass0 (pa_cons (pv 0) (pa_cons (pv 2) pa_nil))) (pe_lst pa_nil) (nomark _)) (pss_one (ps_ret (pe_lst (pa_cons pe_str (pa_cons pe_int pa_nil))))) pss_nil)
  (pss_one (ps_ret (pe_callTy (n_tupleK (K := K) rfl) (by rfl) T.b_tuple (by decide +kernel) (pa_cons (pe_lc (own := [("name", 3)]) rfl sc_law_due.nd (pi_list (pv 0)) (blkOk_by (own := [("name", 3)]) (N := n_law_due) (sc := defScope s_law_due) (by decide +kernel)) (fun _ _ _ _ _ => (pg_name (i := 3) sc_law_due.nd rfl (Or.inl rfl))) (fun _ _ _ _ _ => (pts_one (pt_cmpR (op_in_seqK (K := K) rfl) (pv 3) (pv 2) (by rfl)))) (fun _ _ _ _ _ => (pv 3))) pa_nil))))))), ?_⟩
    walk_at "my sts"
    refine ⟨z, " ", rfl, rfl, by decide +kernel, Nat.le_trans (show z.length + 2 ≤ 200000 by omega) (by decide), fun L hL => ?_⟩
    have s1 : Same H (upd H L (.lst ((Txt.split z " ").map V.str))) := same_new hL
    have h1 : (upd H L (.lst ((Txt.split z " ").map V.str))) L = some (.lst ((Txt.split z " ").map V.str)) := upd_same
    generalize upd H L (.lst ((Txt.split z " ").map V.str)) = H1 at *
    walk_at "my sts"
    refine i_ite (fun c => ?_) fun c => ?_
    · have ez : z = "-" := by have := of_decide_eq_true c; injection this
      rw [if_pos ez] at kT kF
      walk_at "my sts"
      refine lst_end (xs := []) (by simp) fun L2' H2 hL2 s2 h2 => ?_
      walk_at "my sts"
      refine ⟨p, L2', ns, [], rfl, (s1.trans s2) _ _ hp, h2, Nat.zero_le _, fun t H3 ht s3 h3 => ?_⟩
      have h3 : H3 t = some (.lst []) := h3
      walk_at "my sts"
      refine lst_end (xs := []) (by simp) fun e0 H4 he0 s4 h4 => ?_
      refine i_neN (sqL (s4 _ _ h3)) (sqL h4) ?_
      rw [show (!List.isEmpty ([] : List V)) = false from rfl]
      have s14 := (s1.trans s2).trans (s3.trans s4)
      have hp4 := s14 _ _ hp
      have hrow4 : H4 L2' = some (.lst (([] : List Str).map V.str)) := (s3.trans s4) _ _ h2
      have kT : ∀ r, inN ns [] = r → ∀ t H', Same H H' → Rd H' t (.tup (r.map V.str)) → Q (.ref t) H' := fun r e => kT r (by rw [← e]; unfold inN; congr 1; exact (List.filter_eq_nil_iff.mpr fun a _ => by simp).symm)
      walk_at "my sts"
      have lf := List.length_filter_le (fun x => decide (x ∈ ([] : List Str))) ns
      refine cl (xs := ns.map V.str) (sqL hp4) (fun D i H' => Same H4 H' ∧ H' D = some (.lst (((ns.take i).filter fun x => decide (x ∈ ([] : List Str))).map V.str))) (fun D hD => ⟨same_new hD, upd_same⟩) (fun D i H' _ _ g => sqL (g.1 _ _ hp4)) ?_ ?_
      · rintro D i y H' hD hy ⟨s, hd⟩
        rw [List.getElem?_map] at hy
        obtain ⟨a, ha, rfl⟩ := Option.map_eq_some_iff.mp hy
        have al : (((ns.take i).filter fun x => decide (x ∈ ([] : List Str))).map V.str).length ≤ 1000 := by
          have := List.length_filter_le (fun x : Str => decide (x ∈ ([] : List Str))) (ns.take i)
          rw [List.length_take] at this
          rw [List.length_map]
          omega
        refine ⟨rfl, ?_⟩
        walk_at "my sts"
        refine i_inStr (sqL (s _ _ hrow4)) ?_
        walk_at "my sts"
        refine i_ite (fun h => ?_) fun h => ?_
        · walk_at "my sts"
          refine ⟨_, hd, Nat.lt_of_le_of_lt al (by decide), same_mut s hD, ?_⟩
          rw [upd_same, filter_tkW ha, if_pos h, List.map_append]
          rfl
        · refine ⟨s, ?_⟩
          rw [hd, filter_tkW ha, if_neg (by rw [h]; decide), List.append_nil]
      · rintro D H5 hD ⟨s5, h5⟩
        rw [List.length_map, List.take_length] at h5
        walk_at "my sts"
        refine tuple_end (sqL h5) fun t H6 ht s6 h6 => ?_
        exact kT _ rfl t H6 (s14.trans (s5.trans s6)) (.inl h6)
    · have ez : z ≠ "-" := fun e => absurd (by rw [e]) (of_decide_eq_false c)
      rw [if_neg ez] at kT kF
      have lsp := PyProof.Rows.split_le z " "
      generalize Txt.split z " " = ws at *
      walk_at "my sts"
      refine ⟨p, L, ns, ws, rfl, s1 _ _ hp, h1, by omega, fun t H3 ht s3 h3 => ?_⟩
      walk_at "my sts"
      refine lst_end (xs := []) (by simp) fun e0 H4 he0 s4 h4 => ?_
      refine i_neN (sqL (s4 _ _ h3)) (sqL h4) ?_
      have s14 := s1.trans (s3.trans s4)
      cases c2 : rowF ns [] ws with
      | some cfa =>
        rw [show (!(List.map V.str (flS (some cfa))).isEmpty) = true by obtain ⟨_, _, _⟩ := cfa; rfl]
        rw [c2, if_neg (fun e => nomatch e)] at kF
        walk_at "my sts"
        refine lst_end (show 2 ≤ 100000 by decide) fun a H5 ha s5 h5 => ?_
        exact kF rfl a H5 (s14.trans s5) h5
      | none =>
        rw [show (!(List.map V.str (flS none)).isEmpty) = false from rfl]
        rw [c2, if_pos rfl] at kT
        have hp4 := s14 _ _ hp
        have hrow4 := (s3.trans s4) _ _ h1
        have kT : ∀ r, inN ns ws = r → ∀ t H', Same H H' → Rd H' t (.tup (r.map V.str)) → Q (.ref t) H' := fun r e => kT r (by rw [e])
        walk_at "my sts"
        have lf := List.length_filter_le (fun x => decide (x ∈ ws)) ns
        refine cl (xs := ns.map V.str) (sqL hp4) (fun D i H' => Same H4 H' ∧ H' D = some (.lst (((ns.take i).filter fun x => decide (x ∈ ws)).map V.str))) (fun D hD => ⟨same_new hD, upd_same⟩) (fun D i H' _ _ g => sqL (g.1 _ _ hp4)) ?_ ?_
        · rintro D i y H' hD hy ⟨s, hd⟩
          rw [List.getElem?_map] at hy
          obtain ⟨a, ha, rfl⟩ := Option.map_eq_some_iff.mp hy
          have al : (((ns.take i).filter fun x => decide (x ∈ ws)).map V.str).length ≤ 1000 := by
            have := List.length_filter_le (fun x : Str => decide (x ∈ ws)) (ns.take i)
            rw [List.length_take] at this
            rw [List.length_map]
            omega
          refine ⟨rfl, ?_⟩
          walk_at "my sts"
          refine i_inStr (sqL (s _ _ hrow4)) ?_
          walk_at "my sts"
          refine i_ite (fun h => ?_) fun h => ?_
          · walk_at "my sts"
            refine ⟨_, hd, Nat.lt_of_le_of_lt al (by decide), same_mut s hD, ?_⟩
            rw [upd_same, filter_tkW ha, if_pos h, List.map_append]
            rfl
          · refine ⟨s, ?_⟩
            rw [hd, filter_tkW ha, if_neg (by rw [h]; decide), List.append_nil]
        · rintro D H5 hD ⟨s5, h5⟩
          rw [List.length_map, List.take_length] at h5
          walk_at "my sts"
          refine tuple_end (sqL h5) fun t H6 ht s6 h6 => ?_
          exact kT _ rfl t H6 (s14.trans (s5.trans s6)) (.inl h6)
def CE0 (K : PySem.W.Frag) (g : TG) (tt : TT) (te : TE) (vs : List Nat) (σ : L2.St) (Q : VK) : List V → Hp → Prop := fun us H1 => tLc (iEnum K fun _ H R => R us H) g tt te vs σ H1 Q
instance {K : PySem.W.Frag} {ta : TA} {g : TG} {tt : TT} {te : TE} {vs : List Nat} {σ : L2.St} {H : Hp} {Q : VK} : Nx (tLc (iEnum K ta) g tt te vs σ H Q) (ta σ H fun us H1 => CE0 K g tt te vs σ Q us H1) := ⟨fun q => q⟩
theorem ce0 {K : PySem.W.Frag} {g : TG} {tt : TT} {te : TE} {vs : List Nat} {σ : L2.St} {H : Hp} {Q : VK} {a : Addr} {xs : List V} (h : SqL K H a xs) (Pv : Addr → Nat → Hp → Prop) (p0 : ∀ D, H D = none → Pv D 0 (upd H D (.lst []))) (hl : ∀ D i H', H D = none → Pv D i H' → SqL K H' a xs)
    (ps : ∀ D i T x H', H D = none → xs[i]? = some x → Pv D i H' → H' T = none → g (.ref T) (wipe σ vs) (upd H' T (.tup [.int (i : Int), x])) fun σ2 H2 => wipe σ2 vs = wipe σ vs ∧ tt σ2 H2 fun b H3 => if b = true then te σ2 H3 fun y H4 => ∃ acc, H4 D = some (.lst acc) ∧ acc.length < sizeLine ∧ Pv D (i + 1) (upd H4 D (.lst (acc ++ [y]))) else Pv D (i + 1) H3)
    (pd : ∀ D H', H D = none → Pv D xs.length H' → Q (.ref D) H') : CE0 K g tt te vs σ Q [.ref a] H :=
  ⟨a, xs, rfl, h, fun D hD => lc_it (walk_enum (K := K) (a := a) (xs := xs)) (Pv D) (p0 D hD) (fun i H' _ p => hl D i H' hD p) (fun i x H' H2 hi p y => by
    obtain ⟨T, u, z, rfl, hT, rfl, e1, e2⟩ := y
    cases e1
    exact ps D i T _ H' hD e2 p hT) fun H' p => pd D H' hD p⟩
def fsE (ns : List Str) : List (Str × Int) := ns.zipIdx.map fun q => (q.1, (q.2 : Int))
theorem fsE_get {ns : List Str} {i : Nat} {b : Str} (h : ns[i]? = some b) : (fsE ns)[i]? = some (b, (i : Int)) := by
  unfold fsE
  rw [List.getElem?_map, List.getElem?_zipIdx, h]
  show some (b, ((0 + i : Nat) : Int)) = _
  rw [Nat.zero_add]
theorem fsE_len (ns : List Str) : (fsE ns).length = ns.length := by
  unfold fsE
  rw [List.length_map, List.length_zipIdx]
theorem fsE_names (ns : List Str) : (fsE ns).map (·.1) = ns := by
  refine List.ext_getElem? fun i => ?_
  rw [List.getElem?_map]
  cases h : ns[i]? with
  | none =>
    rw [List.getElem?_eq_none_iff] at h
    rw [List.getElem?_eq_none_iff.mpr (by rw [fsE_len]; exact h)]
    rfl
  | some b => rw [fsE_get h]; rfl
theorem fsE_ok {ns : List Str} (nm : ∀ n ∈ ns, nameB n = true) (l : ns.length ≤ 10) : ∀ f ∈ fsE ns, nameB f.1 = true ∧ 0 ≤ f.2 ∧ f.2 ≤ 9999 := fun f hf => by
  obtain ⟨i, hi⟩ := List.mem_iff_getElem?.mp hf
  have li := (List.getElem?_eq_some_iff.mp hi).1
  rw [fsE_len] at li
  rw [fsE_get (List.getElem?_eq_getElem li)] at hi
  cases hi
  exact ⟨nm _ (List.getElem_mem li), by omega, by omega⟩
def fsO (os : List Str) : List (Str × Int) := os.map fun b => (b, 9999)
theorem fsO_names (os : List Str) : (fsO os).map (·.1) = os := by
  unfold fsO
  rw [List.map_map]
  exact List.map_id _
structure Cx9 (K : PySem.W.Frag) (H : Hp) (s p o x y : Addr) (ns os : List Str) : Prop where
  cp : H p = some (.lst (ns.map V.str))
  co : H o = some (.lst (os.map V.str))
  cx : ∃ ds, WebAt K H x (fsE ns) ds
  cy : ∃ ds, WebAt K H y (fsO os) ds
  np : p ≠ s
  no : o ≠ s
theorem Cx9.fr {K : PySem.W.Frag} {H H' : Hp} {s p o x y : Addr} {ns os : List Str} (h : Cx9 K H s p o x y ns os) (hs : StOk H s) (f : Fr s H H') : Cx9 K H' s p o x y ns os := by
  obtain ⟨a, b, ⟨ds, c⟩, ⟨es, d⟩, e, g⟩ := h
  exact ⟨f.1 _ _ a e, f.1 _ _ b g, ⟨ds, c.nk (Nk.fr f hs)⟩, ⟨es, d.nk (Nk.fr f hs)⟩, e, g⟩
/-- a row that stands in a list of its own -/
def RowL (H : Hp) (s : Addr) (v : V) : Prop := ∃ r row, v = .ref r ∧ r ≠ s ∧ H r = some (.lst ((row : List Str).map V.str)) ∧ row.length ≤ 30 ∧ ∀ z ∈ row, z.length ≤ 1000
theorem RowL.fr {H H' : Hp} {s : Addr} {v : V} (h : RowL H s v) (f : Fr s H H') : RowL H' s v := by
  obtain ⟨r, row, a, b, c, d⟩ := h
  exact ⟨r, row, a, b, f.1 _ _ c b, d⟩
theorem AnsR.same {H H' : Hp} {v : V} {ns row : List Str} (h : AnsR H v ns row) (s : Same H H') : AnsR H' v ns row := h.imp (fun ⟨c, f, a, p, e, g, h⟩ => ⟨c, f, a, p, e, g, s _ _ h⟩) id
theorem sm_ansR {H : Hp} {v w : V} {ns row : List Str} (h : AnsR H v ns row) (g : AnsR H w ns row) : Sm H 4 v w := by
  rcases h with ⟨c, f, a, p, e, rfl, h⟩ | ⟨e, rfl⟩
  · rcases g with ⟨c2, f2, a2, q, e2, rfl, g⟩ | ⟨e2, rfl⟩
    · rw [e] at e2
      cases e2
      refine .lst h g rfl (show 2 ≤ 100000 by decide) fun i x y hx hy => ?_
      rw [hx] at hy
      cases hy
      match i with
      | 0 => cases hx; exact .str _ _
      | 1 => cases hx; exact .str _ _
      | i + 2 => cases hx
    · rw [e] at e2
      cases e2
  · rcases g with ⟨c2, f2, a2, q, e2, rfl, g⟩ | ⟨e2, rfl⟩
    · rw [e] at e2
      cases e2
    · exact .str _ _
theorem AnsW.same {H H' : Hp} {v : V} {o : Option (List Str)} (h : AnsW H v o) (s : Same H H') : AnsW H' v o := by
  obtain ⟨a, e, h⟩ := h
  exact ⟨a, e, h.imp (fun h => ⟨h.1, s _ _ h.2⟩) fun ⟨r, e, h⟩ => ⟨r, e, rd_same s h⟩⟩
theorem sm_ansW {H : Hp} {v w : V} {o : Option (List Str)} (l : ∀ r, o = some r → r.length ≤ 1000) (h : AnsW H v o) (g : AnsW H w o) : Sm H 4 v w := by
  obtain ⟨a, rfl, h⟩ := h
  obtain ⟨b, rfl, g⟩ := g
  rcases h with ⟨e, h⟩ | ⟨r, e, h⟩
  · rcases g with ⟨e2, g⟩ | ⟨r2, e2, g⟩
    · refine .lst h g rfl (show 2 ≤ 100000 by decide) fun i x y hx hy => ?_
      rw [hx] at hy
      cases hy
      match i with
      | 0 => cases hx; exact .str _ _
      | 1 => cases hx; exact .int _ _
      | i + 2 => cases hx
    · rw [e] at e2
      cases e2
  · rcases g with ⟨e2, g⟩ | ⟨r2, e2, g⟩
    · rw [e] at e2
      cases e2
    · rw [e] at e2
      cases e2
      exact sm_strsT h g (l r e)
theorem due_ansR {K : PySem.W.Frag} {H : Hp} {Q : VK} {E : XK} {p q : Addr} {ns row : List Str} (hp : H p = some (.lst (ns.map V.str))) (hq : H q = some (.lst (row.map V.str))) (lr : row.length ≤ 1000) (ln : ns.length ≤ 10) (nm : ∀ n ∈ ns, nameB n = true) (k : ∀ v H', Same H H' → AnsR H' v ns row → Q v H') : sp_law_written_due K [.ref p, .ref q] H Q E :=
  ⟨p, q, ns, row, rfl, hp, hq, lr, ln, nm, fun c f a e t H' _ s h => k _ H' s (.inl ⟨c, f, a, t, e, rfl, h⟩), fun e H' s => k _ H' s (.inr ⟨e, rfl⟩)⟩
theorem due_ansW {K : PySem.W.Frag} {H : Hp} {Q : VK} {E : XK} {p : Addr} {z : Str} {ns : List Str} (hp : H p = some (.lst (ns.map V.str))) (lz : z.length ≤ 50000) (ln : ns.length ≤ 10) (k : ∀ v H', Same H H' → AnsW H' v (wdF ns z) → Q v H') : sp_law_due K [.ref p, .str z] H Q E :=
  ⟨p, ns, z, rfl, hp, lz, ln, fun r e t H' s h => k _ H' s ⟨t, rfl, .inr ⟨r, e, h⟩⟩, fun e t H' s h => k _ H' s ⟨t, rfl, .inl ⟨e, h⟩⟩⟩
theorem wdF_len {ns : List Str} {z : Str} (l : ns.length ≤ 10) : ∀ r, wdF ns z = some r → r.length ≤ 1000 := fun r e => by
  unfold wdF at e
  split at e
  · cases e
    exact Nat.zero_le _
  · split at e
    · cases e
      exact Nat.le_trans (List.length_filter_le _ _) (by omega)
    · cases e
def sp_law (K : PySem.W.Frag) : Sp := fun vs H Q _ => ∃ (a : Addr) (ns : List Int), vs = [.ref a] ∧ SqL K H a (ns.map V.int) ∧ ns.length ≤ 63 ∧ ∀ H', Q (.bl true) H'
theorem ok_law {f : Addr} {fd : FuncData}
    {f_law_store : Addr} {fd_law_store : FuncData} (D_law_store : Dn K mg "_law_store" s_law_store p_law_store f_law_store fd_law_store) (G_law_store : FnOk P w K mg base CX0 1 f_law_store fd_law_store p_law_store (sp_law_store K))
    {f_law_names : Addr} {fd_law_names : FuncData} (D_law_names : Dn K mg "_law_names" s_law_names p_law_names f_law_names fd_law_names) (G_law_names : FnOk P w K mg base CX0 5 f_law_names fd_law_names p_law_names (sp_law_names K))
    {f_law_mixed : Addr} {fd_law_mixed : FuncData} (D_law_mixed : Dn K mg "_law_mixed" s_law_mixed p_law_mixed f_law_mixed fd_law_mixed) (G_law_mixed : FnOk P w K mg base CX0 3 f_law_mixed fd_law_mixed p_law_mixed (sp_law_mixed K))
    {f_Web__init : Addr} {fd_Web__init : FuncData} {dv_Web__init_0 : V} (D_Web__init : Dw K "__init__" "Web.__init__" s_Web__init [dv_Web__init_0] p_Web__init f_Web__init fd_Web__init) (G_Web__init : FnOk P w K mg base (L2.CX P w) 7 f_Web__init fd_Web__init p_Web__init (sp_Web__init K))
    (Mk_Web : Mk K (gad K "Web") f_Web__init)
    (E_Web__init : ∃ t, dv_Web__init_0 = .ref t ∧ ∀ H', SqT K H' t [])
    (B1_Web__init : ∃ ds, Vals [dv_Web__init_0] ds ∧ Binds K fd_Web__init p_Web__init ds)
    {f_law_size : Addr} {fd_law_size : FuncData} (D_law_size : Dn K mg "_law_size" s_law_size p_law_size f_law_size fd_law_size) (G_law_size : FnOk P w K mg base CX0 3 f_law_size fd_law_size p_law_size (sp_law_size K))
    {f_law_awake : Addr} {fd_law_awake : FuncData} (D_law_awake : Dn K mg "_law_awake" s_law_awake p_law_awake f_law_awake fd_law_awake) (G_law_awake : FnOk P w K mg base CX0 5 f_law_awake fd_law_awake p_law_awake (sp_law_awake K))
    {f_law_any_row : Addr} {fd_law_any_row : FuncData} (D_law_any_row : Dn K mg "_law_any_row" s_law_any_row p_law_any_row f_law_any_row fd_law_any_row) (G_law_any_row : FnOk P w K mg base CX0 8 f_law_any_row fd_law_any_row p_law_any_row (sp_law_any_row K))
    {f_law_texts : Addr} {fd_law_texts : FuncData} (D_law_texts : Dn K mg "_law_texts" s_law_texts p_law_texts f_law_texts fd_law_texts) (G_law_texts : FnOk P w K mg base CX0 4 f_law_texts fd_law_texts p_law_texts (sp_law_texts K))
    {f_law_loose : Addr} {fd_law_loose : FuncData} (D_law_loose : Dn K mg "_law_loose" s_law_loose p_law_loose f_law_loose fd_law_loose) (G_law_loose : FnOk P w K mg base CX0 6 f_law_loose fd_law_loose p_law_loose (sp_law_loose K))
    {f_law_bent_world_text : Addr} {fd_law_bent_world_text : FuncData} (D_law_bent_world_text : Dn K mg "_law_bent_world_text" s_law_bent_world_text p_law_bent_world_text f_law_bent_world_text fd_law_bent_world_text) (G_law_bent_world_text : FnOk P w K mg base CX0 8 f_law_bent_world_text fd_law_bent_world_text p_law_bent_world_text (sp_law_bent_world_text K))
    {f_law_same : Addr} {fd_law_same : FuncData} (D_law_same : Dn K mg "_law_same" s_law_same p_law_same f_law_same fd_law_same) (G_law_same : FnOk P w K mg base CX0 5 f_law_same fd_law_same p_law_same (sp_law_same K))
    {f_law_written : Addr} {fd_law_written : FuncData} (D_law_written : Dn K mg "_law_written" s_law_written p_law_written f_law_written fd_law_written) (G_law_written : FnOk P w K mg base CX0 8 f_law_written fd_law_written p_law_written (sp_law_written K))
    {f_law_written_due : Addr} {fd_law_written_due : FuncData} (D_law_written_due : Dn K mg "_law_written_due" s_law_written_due p_law_written_due f_law_written_due fd_law_written_due) (G_law_written_due : FnOk P w K mg base CX0 2 f_law_written_due fd_law_written_due p_law_written_due (sp_law_written_due K))
    {f_law_told : Addr} {fd_law_told : FuncData} (D_law_told : Dn K mg "_law_told" s_law_told p_law_told f_law_told fd_law_told) (G_law_told : FnOk P w K mg base CX0 8 f_law_told fd_law_told p_law_told (sp_law_told K))
    {f_law_due : Addr} {fd_law_due : FuncData} (D_law_due : Dn K mg "_law_due" s_law_due p_law_due f_law_due fd_law_due) (G_law_due : FnOk P w K mg base CX0 2 f_law_due fd_law_due p_law_due (sp_law_due K))
    (X_Web : Ci K mg "Web" ["_folk", "_names", "_watches", "_pulls"])
    (T : Txt K mg) (D : Dn K mg "law" s_law p_law f fd) : FnOk P w K mg base CX0 9 f fd p_law (sp_law K) := by
  refine D.F.ok sc_law (fun vs H Q E h => ?_) (fun cdv A outer s' H vs Q E hr h => ?_)
  · obtain ⟨a, ns, rfl, _⟩ := h
    rfl
  · obtain ⟨a, script, rfl, hS, hl, k⟩ := h
    obtain ⟨ds_W, V_Web__init, B_Web__init⟩ := B1_Web__init
    refine ⟨_, (pss_cons (ps_set (i := 1) sc_law.nd rfl (Or.inr rfl) (pe_call G_law_store (hr.mono (by omega)) (by rfl) D_law_store.m D_law_store.F.kp D_law_store.b .nil pass0 (pa_cons (pv 0) pa_nil)))
  (pss_cons (ps_set (i := 2) sc_law.nd rfl (Or.inr rfl) (pe_call G_law_names (hr.mono (by omega)) (by rfl) D_law_names.m D_law_names.F.kp D_law_names.b .nil pass0 (pa_cons (pv 1) (pa_cons (pe_call G_law_size (hr.mono (by omega)) (by rfl) D_law_size.m D_law_size.F.kp D_law_size.b .nil pass0 (pa_cons (pv 1) (pa_cons pe_int (pa_cons pe_int (pa_cons pe_int pa_nil))))) pa_nil))))
  (pss_cons (ps_set (i := 3) sc_law.nd rfl (Or.inl rfl) (pe_call G_law_mixed (hr.mono (by omega)) (by rfl) D_law_mixed.m D_law_mixed.F.kp D_law_mixed.b .nil pass0 (pa_cons (pv 1) (pa_cons (pv 2) pa_nil))))
  (pss_cons (ps_set (i := 4) sc_law.nd rfl (Or.inl rfl) (pe_make Mk_Web G_Web__init (hr.mono (by omega)) (by rfl) X_Web.g B_Web__init V_Web__init passL (pa_cons (pe_lc (own := [("k", 12), ("name", 13)]) rfl sc_law.nd (pi_enum (by rfl) T.b_enumerate (pa_cons (pv 2) pa_nil)) (blkOk_by (own := [("k", 12), ("name", 13)]) (N := n_law) (sc := defScope s_law) (by decide +kernel)) (fun _ _ _ _ _ => (by refine pg_tupK (K := K) (n := 2) (t := (gCons (gName 12) (gCons (gName 13) gNil))) rfl rfl ?_; refine pgs_cons (pg_name (i := 12) sc_law.nd rfl (Or.inl rfl)) ?_; refine pgs_cons (pg_name (i := 13) sc_law.nd rfl (Or.inl rfl)) ?_; exact pgs_nil)) (fun _ _ _ _ _ => pts_nil) (fun _ _ _ _ _ => (pe_tup (pa_cons (pv 13) (pa_cons (pv 12) pa_nil))))) pa_nil)))
  (pss_cons (ps_set (i := 5) sc_law.nd rfl (Or.inl rfl) (pe_make Mk_Web G_Web__init (hr.mono (by omega)) (by rfl) X_Web.g B_Web__init V_Web__init passL (pa_cons (pe_lc (own := [("name", 13)]) rfl sc_law.nd (pi_list (pv 3)) (blkOk_by (own := [("name", 13)]) (N := n_law) (sc := defScope s_law) (by decide +kernel)) (fun _ _ _ _ _ => (pg_name (i := 13) sc_law.nd rfl (Or.inl rfl))) (fun _ _ _ _ _ => pts_nil) (fun _ _ _ _ _ => (pe_tup (pa_cons (pv 13) (pa_cons pe_int pa_nil))))) pa_nil)))
  (pss_cons (ps_set (i := 6) sc_law.nd rfl (Or.inl rfl) (pe_lst (pa_cons (pe_call G_law_awake (hr.mono (by omega)) (by rfl) D_law_awake.m D_law_awake.F.kp D_law_awake.b .nil pass0 (pa_cons (pv 1) (pa_cons (pv 2) pa_nil))) (pa_cons (pe_call G_law_awake (hr.mono (by omega)) (by rfl) D_law_awake.m D_law_awake.F.kp D_law_awake.b .nil pass0 (pa_cons (pv 1) (pa_cons (pv 2) pa_nil))) (pa_cons (pe_callTy (n_listK (K := K) rfl) (by rfl) T.b_list (by decide +kernel) (pa_cons (pv 2) pa_nil)) (pa_cons (pe_lst pa_nil) (pa_cons (pe_call G_law_any_row (hr.mono (by omega)) (by rfl) D_law_any_row.m D_law_any_row.F.kp D_law_any_row.b .nil pass0 (pa_cons (pv 1) (pa_cons (pv 2) pa_nil))) pa_nil)))))))
  (pss_cons (ps_set (i := 7) sc_law.nd rfl (Or.inl rfl) (pe_op op_cat (pe_op op_cat (pe_lst (pa_cons pe_str (pa_cons pe_str (pa_cons pe_str pa_nil)))) (pe_lc (own := [("k", 12)]) rfl sc_law.nd (pi_range1 (by rfl) T.b_range (pa_cons pe_int pa_nil)) (blkOk_by (own := [("k", 12)]) (N := n_law) (sc := defScope s_law) (by decide +kernel)) (fun _ _ _ _ _ => (pg_name (i := 12) sc_law.nd rfl (Or.inl rfl))) (fun _ _ _ _ _ => pts_nil) (fun _ _ _ _ _ => (pe_call G_law_bent_world_text (hr.mono (by omega)) (by rfl) D_law_bent_world_text.m D_law_bent_world_text.F.kp D_law_bent_world_text.b .nil pass0 (pa_cons (pv 1) (pa_cons (pv 2) pa_nil)))))) (pe_lst (pa_cons (pe_bm PySem.F.plainAttrs_str PySem.F.slot_str_join PySem.F.type_str_join mt_join pe_str (pa_cons (pe_ix (ix_listK (K := K) rfl) (pv 6) pe_int (fun _ _ => rfl)) pa_nil)) pa_nil))))
  (pss_cons (ps_for PassesOwn.never rfl (pi_list (pe_slice (sl_listK (K := K) rfl) (pv 6) po_none (po_some pe_int))) (pg_name (i := 8) sc_law.nd rfl (Or.inl rfl))
   (pss_one (ps_set (i := 7) sc_law.nd rfl (Or.inl rfl) (pe_op op_cat (pv 7) (pe_call G_law_texts (hr.mono (by omega)) (by rfl) D_law_texts.m D_law_texts.F.kp D_law_texts.b .nil pass0 (pa_cons (pv 1) (pa_cons (pv 2) (pa_cons (pv 8) pa_nil))))))))
  (pss_cons (ps_for PassesOwn.never rfl (pi_range1 (by rfl) T.b_range (pa_cons pe_int pa_nil)) (pg_name (i := 9) sc_law.nd rfl (Or.inl rfl))
   (pss_cons (ps_for PassesOwn.never rfl (pi_list (pv 6)) (pg_name (i := 8) sc_law.nd rfl (Or.inl rfl))
   (pss_cons (ps_set (i := 10) sc_law.nd rfl (Or.inl rfl) (pe_call G_law_loose (hr.mono (by omega)) (by rfl) D_law_loose.m D_law_loose.F.kp D_law_loose.b .nil pass0 (pa_cons (pv 1) (pa_cons (pv 8) pa_nil))))
  (pss_cons (ps_if (PW.pt (pw_or (pt_not (pt_val (pe_call G_law_same (hr.mono (by omega)) (by rfl) D_law_same.m D_law_same.F.kp D_law_same.b .nil pass0 (pa_cons (pe_call G_law_written (hr.mono (by omega)) (by rfl) D_law_written.m D_law_written.F.kp D_law_written.b .nil pass0 (pa_cons (pv 4) (pa_cons (pv 10) pa_nil))) (pa_cons (pe_call G_law_written_due (hr.mono (by omega)) (by rfl) D_law_written_due.m D_law_written_due.F.kp D_law_written_due.b .nil pass0 (pa_cons (pv 2) (pa_cons (pv 8) pa_nil))) pa_nil))))) (pw_or1 (pt_cmpR (op_neS (K := K) rfl hr.units) (pe_callTy (n_listK (K := K) rfl) (by rfl) T.b_list (by decide +kernel) (pa_cons (pv 10) pa_nil)) (pv 8) (nomark _))))) (pss_one (ps_ret pe_bl)) pss_nil)
  (pss_one (ps_if (pt_not (pt_val (pe_call G_law_same (hr.mono (by omega)) (by rfl) D_law_same.m D_law_same.F.kp D_law_same.b .nil pass0 (pa_cons (pe_call G_law_written (hr.mono (by omega)) (by rfl) D_law_written.m D_law_written.F.kp D_law_written.b .nil pass0 (pa_cons (pv 5) (pa_cons (pv 10) pa_nil))) (pa_cons (pe_call G_law_written_due (hr.mono (by omega)) (by rfl) D_law_written_due.m D_law_written_due.F.kp D_law_written_due.b .nil pass0 (pa_cons (pv 3) (pa_cons (pv 8) pa_nil))) pa_nil))))) (pss_one (ps_ret pe_bl)) pss_nil)))))
  (pss_one (ps_for PassesOwn.never rfl (pi_list (pv 7)) (pg_name (i := 11) sc_law.nd rfl (Or.inl rfl))
   (pss_cons (ps_if (pt_not (pt_val (pe_call G_law_same (hr.mono (by omega)) (by rfl) D_law_same.m D_law_same.F.kp D_law_same.b .nil pass0 (pa_cons (pe_call G_law_told (hr.mono (by omega)) (by rfl) D_law_told.m D_law_told.F.kp D_law_told.b .nil pass0 (pa_cons (pv 4) (pa_cons (pv 11) pa_nil))) (pa_cons (pe_call G_law_due (hr.mono (by omega)) (by rfl) D_law_due.m D_law_due.F.kp D_law_due.b .nil pass0 (pa_cons (pv 2) (pa_cons (pv 11) pa_nil))) pa_nil))))) (pss_one (ps_ret pe_bl)) pss_nil)
  (pss_one (ps_if (pt_not (pt_val (pe_call G_law_same (hr.mono (by omega)) (by rfl) D_law_same.m D_law_same.F.kp D_law_same.b .nil pass0 (pa_cons (pe_call G_law_told (hr.mono (by omega)) (by rfl) D_law_told.m D_law_told.F.kp D_law_told.b .nil pass0 (pa_cons (pv 5) (pa_cons (pv 11) pa_nil))) (pa_cons (pe_call G_law_due (hr.mono (by omega)) (by rfl) D_law_due.m D_law_due.F.kp D_law_due.b .nil pass0 (pa_cons (pv 3) (pa_cons (pv 11) pa_nil))) pa_nil))))) (pss_one (ps_ret pe_bl)) pss_nil)))))))
  (pss_one (ps_ret pe_bl))))))))))), ?_⟩
    walk_at "my sts"
    refine ⟨a, script, rfl, hS, by omega, fun s H1 hs hst1 s1 => ?_⟩
    walk_at "my sts"
    refine ⟨s, 1, 5, 10, rfl, hst1, by decide, by decide, by decide, fun n H2 n0 n1 hst2 f2 => ?_⟩
    walk_at "my sts"
    refine ⟨s, n, rfl, hst2, by omega, by omega, fun p ns H3 hp h3 ln nd nm hst3 f3 => ?_⟩
    have np := hst2.ne hp
    walk_at "my sts"
    refine ⟨s, p, _, rfl, hst3, .inl h3, np, by rw [List.length_map]; omega, fun o yo H4 ho h4 pm hst4 f4 => ?_⟩
    have no := hst3.ne ho
    obtain ⟨os, pos, rfl⟩ := perm_map_inv V.str pm
    have h34 := f4.1 _ _ h3 np
    have lo := pos.length_eq
    walk_at "my sts"
    have l10 : ns.length ≤ 10 := by omega
    refine ce0 (sqL h34) (fun D i H' => Same H4 H' ∧ ∃ ys, H' D = some (.lst ys) ∧ ys.length ≤ i ∧ Rows H' ys (((fsE ns).take i).map frow)) (fun D hD => ⟨same_new hD, [], upd_same, Nat.le_refl _, Rows.nil⟩) (fun D i H' _ g => sqL (g.1 _ _ h34)) ?_ ?_
    · rintro D i T v H' hD hv ⟨sa, ys, hys, ly, rys⟩ hT
      rw [List.getElem?_map] at hv
      obtain ⟨b, eb, rfl⟩ := Option.map_eq_some_iff.mp hv
      have hi := (List.getElem?_eq_some_iff.mp eb).1
      have sT : Same H' (upd H' T (.tup [.int (i : Int), .str b])) := same_new hT
      refine ⟨T, _, rfl, sqT upd_same, rfl, _, _, rfl, _, _, rfl, rfl, rfl, ?_⟩
      generalize upd H' T (.tup [.int (i : Int), .str b]) = H5 at *
      walk_at "my sts"
      refine tup_end (show 2 ≤ 100000 by decide) fun t H6 ht s6 h6 => ?_
      have sT6 := sT.trans s6
      refine ⟨ys, sT6 _ _ hys, Nat.lt_of_le_of_lt (show ys.length ≤ 1000 by omega) (by decide), same_mut (sa.trans sT6) hD, _, upd_same, by rw [List.length_append]; show ys.length + 1 ≤ i + 1; omega, ?_⟩
      have tk : Tk H6 (upd H6 D (.lst (ys ++ [.ref t]))) := fun x d e => Tk.lst (sT6 _ _ hys) _ _ e
      rw [take_map _ (fsE_get eb)]
      exact ((rys.keep (Tk.same sT6)).keep tk).app (Rows.one (tk _ _ h6))
    rintro D H5 hD ⟨s5, ys, h5, ly, r5⟩
    rw [List.length_map, ← fsE_len, List.take_length] at r5
    have le := fsE_len ns
    walk_at "my sts"
    refine web_made (P := fun _ => True) (ws := []) rfl (rp_rows (n := 0) (.inl ⟨h5, trivial⟩) r5 (atomF _) (by rw [List.length_map]; omega)) (.inr ⟨rfl, E_Web__init⟩) (fsE_ok nm l10) (by rw [fsE_names]; exact nd) (by omega) (by omega) List.nodup_nil nofun (Nat.zero_le _) fun x ds H6 hx _ _ s6 _ => ?_
    have s46 := s5.trans s6
    have h46 := s46 _ _ h4
    walk_at "my sts"
    have lo10 : os.length ≤ 10 := by omega
    have om : ∀ n ∈ os, nameB n = true := fun n hn => nm n (pos.mem_iff.mp hn)
    have ond : os.Nodup := pos.nodup_iff.mpr nd
    refine cl (xs := os.map V.str) (sqL h46) (fun D i H' => Same H6 H' ∧ ∃ ys, H' D = some (.lst ys) ∧ ys.length ≤ i ∧ Rows H' ys (((fsO os).take i).map frow)) (fun D hD => ⟨same_new hD, [], upd_same, Nat.le_refl _, Rows.nil⟩) (fun D i H' _ _ g => sqL (g.1 _ _ h46)) ?_ ?_
    · rintro D i v H' hD hv ⟨sa, ys, hys, ly, rys⟩
      rw [List.getElem?_map] at hv
      obtain ⟨b, eb, rfl⟩ := Option.map_eq_some_iff.mp hv
      have hi := (List.getElem?_eq_some_iff.mp eb).1
      refine ⟨rfl, ?_⟩
      walk_at "my sts"
      refine tup_end (show 2 ≤ 100000 by decide) fun t H7 ht s7 h7 => ?_
      refine ⟨ys, s7 _ _ hys, Nat.lt_of_le_of_lt (show ys.length ≤ 1000 by omega) (by decide), same_mut (sa.trans s7) hD, _, upd_same, by rw [List.length_append]; show ys.length + 1 ≤ i + 1; omega, ?_⟩
      have tk : Tk H7 (upd H7 D (.lst (ys ++ [.ref t]))) := fun x d e => Tk.lst (s7 _ _ hys) _ _ e
      have ef : (fsO os)[i]? = some (b, 9999) := by
        unfold fsO
        rw [List.getElem?_map, eb]
        rfl
      rw [take_map _ ef]
      exact ((rys.keep (Tk.same s7)).keep tk).app (Rows.one (tk _ _ h7))
    rintro D7 H7 hD7 ⟨s7, ys7, h7, ly7, r7⟩
    have loE : (fsO os).length = os.length := by unfold fsO; rw [List.length_map]
    rw [List.length_map, ← loE, List.take_length] at r7
    walk_at "my sts"
    refine web_made (P := fun _ => True) (ws := []) rfl (rp_rows (n := 0) (.inl ⟨h7, trivial⟩) r7 (atomF _) (by rw [List.length_map]; omega)) (.inr ⟨rfl, E_Web__init⟩) (fun f hf => by
      unfold fsO at hf
      obtain ⟨b, hb, rfl⟩ := List.mem_map.mp hf
      exact ⟨om b hb, show (0 : Int) ≤ 9999 by decide, show (9999 : Int) ≤ 9999 by decide⟩) (by rw [fsO_names]; exact ond) (by omega) (by omega) List.nodup_nil nofun (Nat.zero_le _) fun y es H8 hy _ _ s8 _ => ?_
    have s68 := s7.trans s8
    have s48 := s46.trans s68
    have hst8 := hst4.same s48
    have c8 : Cx9 K H8 s p o x y ns os := ⟨s48 _ _ h34, s48 _ _ h4, ⟨_, hx.same s68⟩, ⟨_, hy⟩, np, no⟩
    clear hx hy h5 r5 h7 r7 h46 s5 s6 s7 s8 s68 s46 h34 h3 h4 f2 f3 f4 s48 hst2 hst3 hst4
    have lawake : ∀ {row ms : List Str}, ms.Sublist ns → row.Perm ms → row.length ≤ 10 ∧ ∀ z ∈ row, z.length ≤ 8 := fun {row ms} a b => ⟨by have := a.length_le; have := b.length_eq; omega, fun z hz => (nameB_len (nm z (a.subset (b.mem_iff.mp hz)))).2⟩
    walk_at "my sts"
    refine ⟨s, p, ns, rfl, hst8, c8.cp, np, by omega, fun r0 row0 ms0 H9 hr0 h9 sub0 pm0 hst9 f9 => ?_⟩
    have n0' := hst8.ne hr0
    obtain ⟨l0, z0⟩ := lawake sub0 pm0
    have c9 := c8.fr hst8 f9
    walk_at "my sts"
    refine ⟨s, p, ns, rfl, hst9, c9.cp, np, by omega, fun r1 row1 ms1 H10 hr1 h10 sub1 pm1 hst10 f10 => ?_⟩
    have n1' := hst9.ne hr1
    obtain ⟨l1, z1⟩ := lawake sub1 pm1
    have c10 := c9.fr hst9 f10
    have h9a := f10.1 _ _ h9 n0'
    walk_at "my sts"
    refine list_end (sqL c10.cp) fun r2 H11 hr2 s11 h11 => ?_
    have n2' := hst10.ne hr2
    walk_at "my sts"
    refine lst_end (xs := []) (by simp) fun r3 H12 hr3 s12 h12 => ?_
    have n3' := (hst10.same s11).ne hr3
    have s1012 := s11.trans s12
    have hst12 := hst10.same s1012
    have c12 := c10.fr hst10 (Fr.same s1012)
    walk_at "my sts"
    refine ⟨s, p, ns, rfl, hst12, c12.cp, np, by omega, nm, fun r4 row4 H13 hr4 h13 l4 z4 hst13 f13 => ?_⟩
    have n4' := hst12.ne hr4
    have c13 := c12.fr hst12 f13
    walk_at "my sts"
    refine lst_end (xs := [.ref r0, .ref r1, .ref r2, .ref r3, .ref r4]) (show 5 ≤ 100000 by decide) fun rr H14 hrr s14 h14 => ?_
    have nrr := hst13.ne hrr
    have hst14 := hst13.same s14
    have c14 := c13.fr hst13 (Fr.same s14)
    have q0 : H14 r0 = some (.lst (row0.map V.str)) := s14 _ _ (f13.1 _ _ (s1012 _ _ h9a) n0')
    have q1 : H14 r1 = some (.lst (row1.map V.str)) := s14 _ _ (f13.1 _ _ (s1012 _ _ h10) n1')
    have q2 : H14 r2 = some (.lst (ns.map V.str)) := s14 _ _ (f13.1 _ _ (s12 _ _ h11) n2')
    have q3 : H14 r3 = some (.lst (([] : List Str).map V.str)) := s14 _ _ (f13.1 _ _ h12 n3')
    have q4 : H14 r4 = some (.lst (row4.map V.str)) := s14 _ _ h13
    clear h9 h9a h10 h11 h12 h13 f9 f10 f13 s11 s12 s14 s1012 c8 c9 c10 c12 c13 hst8 hst9 hst10 hst12 hst13
    walk_at "my sts"
    have rows : ∀ v ∈ [V.ref r0, .ref r1, .ref r2, .ref r3, .ref r4], RowL H14 s v := fun v hv => by
      simp only [List.mem_cons, List.not_mem_nil, or_false] at hv
      rcases hv with rfl | rfl | rfl | rfl | rfl
      · exact ⟨r0, row0, rfl, n0', q0, by omega, fun z hz => Nat.le_trans (z0 z hz) (by decide)⟩
      · exact ⟨r1, row1, rfl, n1', q1, by omega, fun z hz => Nat.le_trans (z1 z hz) (by decide)⟩
      · exact ⟨r2, ns, rfl, n2', q2, by omega, fun z hz => Nat.le_trans (nameB_len (nm z hz)).2 (by decide)⟩
      · exact ⟨r3, [], rfl, n3', q3, Nat.zero_le _, nofun⟩
      · exact ⟨r4, row4, rfl, n4', q4, l4, z4⟩
    have short : ∀ v ∈ [V.ref r0, .ref r1, .ref r2], ∃ r row, v = .ref r ∧ r ≠ s ∧ H14 r = some (.lst ((row : List Str).map V.str)) ∧ row.length ≤ 10 ∧ ∀ z ∈ row, z.length ≤ 8 := fun v hv => by
      simp only [List.mem_cons, List.not_mem_nil, or_false] at hv
      rcases hv with rfl | rfl | rfl
      · exact ⟨r0, row0, rfl, n0', q0, l0, z0⟩
      · exact ⟨r1, row1, rfl, n1', q1, l1, z1⟩
      · exact ⟨r2, ns, rfl, n2', q2, l10, fun z hz => (nameB_len (nm z hz)).2⟩
    refine lst_end (xs := [(Str.ofString "-"), Str.ofString "", Str.ofString " "].map V.str) (show 3 ≤ 100000 by decide) fun t0 H15 ht0 s15 h15 => ?_
    have nt0 := hst14.ne ht0
    have hst15 := hst14.same s15
    have c15 := c14.fr hst14 (Fr.same s15)
    walk_at "my sts"
    refine cr1 (by decide) (by decide) (fun D i H' => StOk H' s ∧ Fr s H15 H' ∧ ∃ zs, H' D = some (.lst ((zs : List Str).map V.str)) ∧ zs.length = i ∧ ∀ z ∈ zs, z.length ≤ 50000) (fun D hD => ⟨hst15.new hD, Fr.new Fr.refl hD, [], upd_same, rfl, fun _ h => nomatch h⟩) ?_ ?_
    · rintro D i H' hD hi ⟨hst', f', zs, hz, lz, az⟩
      have nD := hst15.ne hD
      refine ⟨rfl, ?_⟩
      walk_at "my sts"
      refine ⟨s, p, ns, rfl, hst', (c15.fr hst15 f').cp, np, by omega, l10, nd, nm, fun z H'' lz2 hst2 f2 => ?_⟩
      have h2 := f2.1 _ _ hz nD
      obtain ⟨b1, b2, b3, b4⟩ := mut_all (ys := zs.map V.str ++ [V.str z]) hst15 (f'.trans f2) hst2 hD
      have hi3 : i < 3 := hi
      refine ⟨_, h2, Nat.lt_of_le_of_lt (show _ ≤ 1000 by rw [List.length_map]; omega) (by decide), b1, b2, zs ++ [z], ?_, by rw [List.length_append, lz]; rfl, fun y hy => ?_⟩
      · rw [List.map_append]
        exact b3
      · rcases List.mem_append.mp hy with hy | hy
        · exact az y hy
        · rw [List.mem_singleton.mp hy]
          exact lz2
    rintro D H16 hD ⟨hst16, f16, zs, hz16, lz, az⟩
    have lz : zs.length = 3 := lz
    have nD := hst15.ne hD
    refine cat_end (f16.1 _ _ h15 nt0) hz16 (by rw [List.length_map, List.length_map, lz]; decide) fun t1 H17 ht1 s17 h17 => ?_
    have nt1 := hst16.ne ht1
    have f417 := (Fr.same s15).trans (f16.trans (Fr.same s17))
    have g17 := f417.1 _ _ h14 nrr
    have g4 := f417.1 _ _ q4 n4'
    have hst17 := hst16.same s17
    walk_at "my sts"
    have sum4 := sumT_le z4
    have b4 : row4.length * 1000 ≤ 30 * 1000 := Nat.mul_le_mul_right _ l4
    have e1 : (Str.ofString " ").length = 1 := by decide +kernel
    have lj : (Txt.join (Str.ofString " ") row4).length ≤ (row4.map fun x => x.length).sum + row4.length * (Str.ofString " ").length := by
      rw [TL.join_eq]
      exact joinT_le _ _
    rw [e1] at lj
    refine ⟨_, r4, row4, rfl, rfl, .inl (sqL g4), by rw [e1]; omega, ?_⟩
    walk_at "my sts"
    refine lst_end (xs := [Txt.join (Str.ofString " ") row4].map V.str) (show 1 ≤ 100000 by decide) fun t2 H18 ht2 s18 h18 => ?_
    have h17' : H17 t1 = some (.lst (([(Str.ofString "-"), Str.ofString "", Str.ofString " "] ++ zs).map V.str)) := by rw [List.map_append]; exact h17
    refine cat_end (s18 _ _ h17') h18 (by rw [List.length_map, List.length_append, lz]; show 3 + 3 + 1 ≤ 100000; decide) fun t3 H19 ht3 s19 h19 => ?_
    rw [← List.map_append] at h19
    have nt3 := (hst17.same s18).ne ht3
    have f19 := f417.trans (Fr.same (s18.trans s19))
    have hst19 := hst17.same (s18.trans s19)
    have ltx : ([(Str.ofString "-"), Str.ofString "", Str.ofString " "] ++ zs ++ [Txt.join (Str.ofString " ") row4]).length = 7 := by rw [List.length_append, List.length_append, lz]; rfl
    have atx : ∀ z ∈ [(Str.ofString "-"), Str.ofString "", Str.ofString " "] ++ zs ++ [Txt.join (Str.ofString " ") row4], z.length ≤ 50000 := fun z hz => by
      rcases List.mem_append.mp hz with hz | hz
      · rcases List.mem_append.mp hz with hz | hz
        · simp only [List.mem_cons, List.not_mem_nil, or_false] at hz
          rcases hz with rfl | rfl | rfl
          · decide +kernel
          · decide +kernel
          · decide +kernel
        · exact az z hz
      · rw [List.mem_singleton.mp hz]
        omega
    generalize [(Str.ofString "-"), Str.ofString "", Str.ofString " "] ++ zs ++ [Txt.join (Str.ofString " ") row4] = tx0 at *
    have g19 := f19.1 _ _ h14 nrr
    walk_at "my sts"
    refine sl_end (sqL g19) fun rs H20 hrs s20 h20 => ?_
    rw [show cutV [V.ref r0, .ref r1, .ref r2, .ref r3, .ref r4] none (some 3) = [V.ref r0, .ref r1, .ref r2] from cutV_to _ 3] at h20
    have nrs := hst19.ne hrs
    have f20 := f19.trans (Fr.same s20)
    have hst20 := hst19.same s20
    have h320 := s20 _ _ h19
    refine fl (sqL h20) (fun i σ' H' => StOk H' s ∧ Fr s H20 H' ∧ ∃ tt zs u9 u10 u11 u12 u13 u14, σ' = [some (.ref a), some (.ref s), some (.ref p), some (.ref o), some (.ref x), some (.ref y), some (.ref rr), some (.ref tt), u9, u10, u11, u12, u13, u14] ∧ tt ≠ s ∧ H' tt = some (.lst ((zs : List Str).map V.str)) ∧ zs.length ≤ 7 + 9 * i ∧ ∀ z ∈ zs, z.length ≤ 50000) ⟨hst20, Fr.refl, t3, tx0, _, _, _, _, _, _, rfl, nt3, h320, by omega, atx⟩ (fun i σ' H' _ g => sqL (g.2.1.1 _ _ h20 nrs)) ?_ ?_
    · rintro i v σ' H' hv ⟨hst', f', tt, zs2, u9, u10, u11, u12, u13, u14, rfl, ntt, htt, lzz, azz⟩
      obtain ⟨r, row, rfl, nr, hr4, lrow, zrow⟩ := short v (List.mem_of_getElem? hv)
      have hi := (List.getElem?_eq_some_iff.mp hv).1
      have hi : i < 3 := hi
      have hr5 := f'.1 _ _ (f20.1 _ _ hr4 nr) nr
      walk_at "my sts"
      refine ⟨s, p, r, ns, row, rfl, hst', hr5, nr, lrow, zrow, fun t5 ws H'' ht5 h5 lws aws hst5 f5 => ?_⟩
      have htt2 := f5.1 _ _ htt ntt
      refine cat_end htt2 h5 (by rw [List.length_map, List.length_map]; omega) fun t6 H6 ht6 s6 h6 => ?_
      rw [← List.map_append] at h6
      walk_at "my sts"
      refine ⟨hst5.same s6, f'.trans (f5.trans (Fr.same s6)), t6, _, _, _, _, _, _, _, rfl, hst5.ne ht6, h6, by rw [List.length_append]; omega, fun z hz => ?_⟩
      rcases List.mem_append.mp hz with hz | hz
      · exact azz z hz
      · exact aws z hz
    rintro σ' H21 ⟨hst21, f21, tt, zs2, u9, u10, u11, u12, u13, u14, rfl, ntt, htt, lzz, azz⟩
    have lzz : zs2.length ≤ 34 := lzz
    have f421 := f20.trans f21
    have c21 := c14.fr hst14 f421
    have g21 := f421.1 _ _ h14 nrr
    walk_at "my sts"
    refine fr1 (by decide) (by decide) (fun i σ' H' => StOk H' s ∧ Fr s H21 H' ∧ ∃ u9 u10 u11 u12 u13 u14, σ' = [some (.ref a), some (.ref s), some (.ref p), some (.ref o), some (.ref x), some (.ref y), some (.ref rr), some (.ref tt), u9, u10, u11, u12, u13, u14]) ⟨hst21, Fr.refl, _, _, _, _, _, _, rfl⟩ ?_ ?_
    · rintro i σ' H' hi ⟨hst', f', v9, v10, v11, v12, v13, v14, rfl⟩
      have gr := f'.1 _ _ g21 nrr
      walk_at "my sts"
      refine fl (sqL gr) (fun i σ2 H2 => StOk H2 s ∧ Fr s H21 H2 ∧ ∃ u9 u10 u11 u12 u13 u14, σ2 = [some (.ref a), some (.ref s), some (.ref p), some (.ref o), some (.ref x), some (.ref y), some (.ref rr), some (.ref tt), u9, u10, u11, u12, u13, u14]) ⟨hst', f', _, _, _, _, _, _, rfl⟩ (fun i σ' H' _ g => sqL (g.2.1.1 _ _ g21 nrr)) ?_ ?_
      · rintro j v σ2 H2 hv ⟨hst2, f2, w9, w10, w11, w12, w13, w14, rfl⟩
        have f42 := f421.trans f2
        obtain ⟨r, row, rfl, nr, hr2, lrow, zrow⟩ := (rows v (List.mem_of_getElem? hv)).fr f42
        walk_at "my sts"
        refine loose_row hst2 hr2 nr (by omega) fun h H3 hh nh hst3 f3 => ?_
        have f43 := f42.trans f3
        have c3 := c21.fr hst21 (f2.trans f3)
        obtain ⟨ds, hx⟩ := c3.cx
        walk_at "my sts"
        refine ⟨x, h, fsE ns, ds, row, rfl, hx, hh, by rw [fsE_names]; exact nd, by rw [fsE_len]; exact l10, fun f hf => (fsE_ok nm l10 f hf).1, fun v1 H4 s4 a1 => ?_⟩
        rw [fsE_names] at a1
        have hr4 := s4 _ _ (f3.1 _ _ hr2 nr)
        have hp4 := s4 _ _ c3.cp
        walk_at "my sts"
        refine due_ansR hp4 hr4 (by omega) l10 nm fun v2 H5 s5 a2 => ?_
        walk_at "my sts"
        refine ⟨_, _, rfl, sm_ansR (a1.same s5) a2, fun H6 s6 => ?_⟩
        have s46 := s4.trans (s5.trans s6)
        have hh6 := hh.same s46
        walk_at "my sts"
        refine list_endLt hh6 fun l7 H7 _ s7 h7 => ?_
        walk_at "my sts"
        refine i_neSS (r1 := row) (sqL h7) (sqL ((s46.trans s7) _ _ (f3.1 _ _ hr2 nr))) ?_
        have s47 := s46.trans s7
        obtain ⟨es, hy⟩ := c3.cy
        walk_at "my sts"
        refine ⟨y, h, fsO os, es, row, rfl, hy.same s47, hh.same s47, by rw [fsO_names]; exact ond, by omega, fun f hf => nm _ (pos.mem_iff.mp (by rw [← fsO_names os]; exact List.mem_map.mpr ⟨f, hf, rfl⟩)), fun v3 H8 s8 a3 => ?_⟩
        rw [fsO_names] at a3
        have s48 := s47.trans s8
        walk_at "my sts"
        refine due_ansR (s48 _ _ c3.co) (s48 _ _ (f3.1 _ _ hr2 nr)) (by omega) lo10 om fun v4 H9 s9 a4 => ?_
        walk_at "my sts"
        refine ⟨_, _, rfl, sm_ansR (a3.same s9) a4, fun H10 s10 => ?_⟩
        have s4a := s48.trans (s9.trans s10)
        walk_at "my sts"
        exact ⟨hst3.same s4a, (f2.trans f3).trans (Fr.same s4a), _, _, _, _, _, _, rfl⟩
      · rintro σ2 H2 ⟨hst2, f2, w9, w10, w11, w12, w13, w14, rfl⟩
        have ht2 := (f2.1 _ _ htt ntt)
        walk_at "my sts"
        refine fl (sqL ht2) (fun i σ3 H3 => StOk H3 s ∧ Fr s H21 H3 ∧ ∃ u9 u10 u11 u12 u13 u14, σ3 = [some (.ref a), some (.ref s), some (.ref p), some (.ref o), some (.ref x), some (.ref y), some (.ref rr), some (.ref tt), u9, u10, u11, u12, u13, u14]) ⟨hst2, f2, _, _, _, _, _, _, rfl⟩ (fun i σ' H' _ g => sqL (g.2.1.1 _ _ htt ntt)) ?_ ?_
        · rintro j v σ3 H3 hv ⟨hst3, f3, x9, x10, x11, x12, x13, x14, rfl⟩
          rw [List.getElem?_map] at hv
          obtain ⟨z, ez, rfl⟩ := Option.map_eq_some_iff.mp hv
          have lz := azz z (List.mem_of_getElem? ez)
          have c3 := c21.fr hst21 f3
          obtain ⟨ds, hx⟩ := c3.cx
          obtain ⟨es, hy⟩ := c3.cy
          walk_at "my sts"
          refine ⟨x, fsE ns, ds, z, rfl, hx, by rw [fsE_names]; exact nd, by rw [fsE_len]; exact l10, lz, fun v1 H4 s4 a1 => ?_⟩
          rw [fsE_names] at a1
          walk_at "my sts"
          refine due_ansW (s4 _ _ c3.cp) lz l10 fun v2 H5 s5 a2 => ?_
          walk_at "my sts"
          refine ⟨_, _, rfl, sm_ansW (wdF_len l10) (a1.same s5) a2, fun H6 s6 => ?_⟩
          have s36 := s4.trans (s5.trans s6)
          walk_at "my sts"
          refine ⟨y, fsO os, es, z, rfl, hy.same s36, by rw [fsO_names]; exact ond, by omega, lz, fun v3 H7 s7 a3 => ?_⟩
          rw [fsO_names] at a3
          have s37 := s36.trans s7
          walk_at "my sts"
          refine due_ansW (s37 _ _ c3.co) lz lo10 fun v4 H8 s8 a4 => ?_
          walk_at "my sts"
          refine ⟨_, _, rfl, sm_ansW (wdF_len lo10) (a3.same s8) a4, fun H9 s9 => ?_⟩
          have s39 := s37.trans (s8.trans s9)
          walk_at "my sts"
          exact ⟨hst3.same s39, f3.trans (Fr.same s39), _, _, _, _, _, _, rfl⟩
        · rintro σ3 H3 ⟨hst3, f3, x9, x10, x11, x12, x13, x14, rfl⟩
          exact ⟨hst3, f3, _, _, _, _, _, _, rfl⟩
    · rintro σ' H' ⟨hst', f', v9, v10, v11, v12, v13, v14, rfl⟩
      walk_at "my sts"
      exact k H'
theorem all_mk {l : PySem.W.OpenLaw} {w : World} {K : PySem.W.Frag} {h : Heap} {mg : Str → Option Value} {fa : Addr} (X : K.In h) (G : h.Ns mainGlobals mg) (hfa : mg "law" = some (.ref fa))
    {A_Web : Addr}
    (a_Web : PySem.W.nsIn K mainGlobals "Web" = some (some (.ref A_Web)))
    (pg_Web : PySem.W.plainGet K A_Web Str.empty = true)
    (hd_Web : PySem.W.hasDictIn K A_Web = true)
    (po_Web : PySem.W.plainOver K A_Web = true)
    (sa_Web : PySem.W.findIn K (.ref A_Web) "__setattr__" = some (some (.builtin "object.__setattr__")))
    (mk_Web : PySem.W.makesIn K A_Web = true)
    (kc_Web : PySem.W.keepIn K (.ref A_Web) = true)
    (no_Web_0 : PySem.W.findIn K (.ref A_Web) "_folk" = some none)
    (no_Web_1 : PySem.W.findIn K (.ref A_Web) "_names" = some none)
    (no_Web_2 : PySem.W.findIn K (.ref A_Web) "_watches" = some none)
    (no_Web_3 : PySem.W.findIn K (.ref A_Web) "_pulls" = some none)
    (ex_gc : PySem.W.specialIn K (.builtin "object.__class__") "__get__" = some (some (.builtin "getset_descriptor.__get__")))
    (ex_tc : PySem.W.takesIn K (.builtin "object.__class__") = some true)
    {A_DrowseError : Addr}
    (a_DrowseError : PySem.W.nsIn K mainGlobals "DrowseError" = some (some (.ref A_DrowseError)))
    (ga_DrowseError : PySem.W.findIn K (.ref A_DrowseError) "__getattribute__" = some (some (.builtin "BaseException.__getattribute__")))
    (gg_DrowseError : PySem.W.findIn K (.ref A_DrowseError) "__getattr__" = some none)
    (sb_DrowseError : PySem.W.subIn K (.ref A_DrowseError) (.type "BaseException") = some true)
    (hd_DrowseError : PySem.W.hasDictIn K A_DrowseError = true)
    (cl_DrowseError : PySem.W.findIn K (.ref A_DrowseError) "__class__" = some (some (.builtin "object.__class__")))
    (mr_DrowseError : PySem.W.mroIn K A_DrowseError (.type "object") = some true)
    (ty_DrowseError : PySem.W.typeIn K (.ref A_DrowseError) = some (.type "type"))
    (ic_DrowseError : PySem.W.isClsIn K A_DrowseError = true)
    (ss_DrowseError : PySem.W.subIn K (.ref A_DrowseError) (.ref A_DrowseError) = some true)
    {A_BadName : Addr}
    (a_BadName : PySem.W.nsIn K mainGlobals "BadName" = some (some (.ref A_BadName)))
    (ga_BadName : PySem.W.findIn K (.ref A_BadName) "__getattribute__" = some (some (.builtin "BaseException.__getattribute__")))
    (gg_BadName : PySem.W.findIn K (.ref A_BadName) "__getattr__" = some none)
    (sb_BadName : PySem.W.subIn K (.ref A_BadName) (.type "BaseException") = some true)
    (hd_BadName : PySem.W.hasDictIn K A_BadName = true)
    (cl_BadName : PySem.W.findIn K (.ref A_BadName) "__class__" = some (some (.builtin "object.__class__")))
    (mr_BadName : PySem.W.mroIn K A_BadName (.type "object") = some true)
    (ty_BadName : PySem.W.typeIn K (.ref A_BadName) = some (.type "type"))
    (ic_BadName : PySem.W.isClsIn K A_BadName = true)
    (ss_BadName : PySem.W.subIn K (.ref A_BadName) (.ref A_BadName) = some true)
    {A_BadNumber : Addr}
    (a_BadNumber : PySem.W.nsIn K mainGlobals "BadNumber" = some (some (.ref A_BadNumber)))
    (ga_BadNumber : PySem.W.findIn K (.ref A_BadNumber) "__getattribute__" = some (some (.builtin "BaseException.__getattribute__")))
    (gg_BadNumber : PySem.W.findIn K (.ref A_BadNumber) "__getattr__" = some none)
    (sb_BadNumber : PySem.W.subIn K (.ref A_BadNumber) (.type "BaseException") = some true)
    (hd_BadNumber : PySem.W.hasDictIn K A_BadNumber = true)
    (cl_BadNumber : PySem.W.findIn K (.ref A_BadNumber) "__class__" = some (some (.builtin "object.__class__")))
    (mr_BadNumber : PySem.W.mroIn K A_BadNumber (.type "object") = some true)
    (ty_BadNumber : PySem.W.typeIn K (.ref A_BadNumber) = some (.type "type"))
    (ic_BadNumber : PySem.W.isClsIn K A_BadNumber = true)
    (ss_BadNumber : PySem.W.subIn K (.ref A_BadNumber) (.ref A_BadNumber) = some true)
    {A_BadCount : Addr}
    (a_BadCount : PySem.W.nsIn K mainGlobals "BadCount" = some (some (.ref A_BadCount)))
    (ga_BadCount : PySem.W.findIn K (.ref A_BadCount) "__getattribute__" = some (some (.builtin "BaseException.__getattribute__")))
    (gg_BadCount : PySem.W.findIn K (.ref A_BadCount) "__getattr__" = some none)
    (sb_BadCount : PySem.W.subIn K (.ref A_BadCount) (.type "BaseException") = some true)
    (hd_BadCount : PySem.W.hasDictIn K A_BadCount = true)
    (cl_BadCount : PySem.W.findIn K (.ref A_BadCount) "__class__" = some (some (.builtin "object.__class__")))
    (mr_BadCount : PySem.W.mroIn K A_BadCount (.type "object") = some true)
    (ty_BadCount : PySem.W.typeIn K (.ref A_BadCount) = some (.type "type"))
    (ic_BadCount : PySem.W.isClsIn K A_BadCount = true)
    (ss_BadCount : PySem.W.subIn K (.ref A_BadCount) (.ref A_BadCount) = some true)
    {A_Repeated : Addr}
    (a_Repeated : PySem.W.nsIn K mainGlobals "Repeated" = some (some (.ref A_Repeated)))
    (ga_Repeated : PySem.W.findIn K (.ref A_Repeated) "__getattribute__" = some (some (.builtin "BaseException.__getattribute__")))
    (gg_Repeated : PySem.W.findIn K (.ref A_Repeated) "__getattr__" = some none)
    (sb_Repeated : PySem.W.subIn K (.ref A_Repeated) (.type "BaseException") = some true)
    (hd_Repeated : PySem.W.hasDictIn K A_Repeated = true)
    (cl_Repeated : PySem.W.findIn K (.ref A_Repeated) "__class__" = some (some (.builtin "object.__class__")))
    (mr_Repeated : PySem.W.mroIn K A_Repeated (.type "object") = some true)
    (ty_Repeated : PySem.W.typeIn K (.ref A_Repeated) = some (.type "type"))
    (ic_Repeated : PySem.W.isClsIn K A_Repeated = true)
    (ss_Repeated : PySem.W.subIn K (.ref A_Repeated) (.ref A_Repeated) = some true)
    {A_UnknownFolk : Addr}
    (a_UnknownFolk : PySem.W.nsIn K mainGlobals "UnknownFolk" = some (some (.ref A_UnknownFolk)))
    (ga_UnknownFolk : PySem.W.findIn K (.ref A_UnknownFolk) "__getattribute__" = some (some (.builtin "BaseException.__getattribute__")))
    (gg_UnknownFolk : PySem.W.findIn K (.ref A_UnknownFolk) "__getattr__" = some none)
    (sb_UnknownFolk : PySem.W.subIn K (.ref A_UnknownFolk) (.type "BaseException") = some true)
    (hd_UnknownFolk : PySem.W.hasDictIn K A_UnknownFolk = true)
    (cl_UnknownFolk : PySem.W.findIn K (.ref A_UnknownFolk) "__class__" = some (some (.builtin "object.__class__")))
    (mr_UnknownFolk : PySem.W.mroIn K A_UnknownFolk (.type "object") = some true)
    (ty_UnknownFolk : PySem.W.typeIn K (.ref A_UnknownFolk) = some (.type "type"))
    (ic_UnknownFolk : PySem.W.isClsIn K A_UnknownFolk = true)
    (ss_UnknownFolk : PySem.W.subIn K (.ref A_UnknownFolk) (.ref A_UnknownFolk) = some true)
    {A_SelfWatch : Addr}
    (a_SelfWatch : PySem.W.nsIn K mainGlobals "SelfWatch" = some (some (.ref A_SelfWatch)))
    (ga_SelfWatch : PySem.W.findIn K (.ref A_SelfWatch) "__getattribute__" = some (some (.builtin "BaseException.__getattribute__")))
    (gg_SelfWatch : PySem.W.findIn K (.ref A_SelfWatch) "__getattr__" = some none)
    (sb_SelfWatch : PySem.W.subIn K (.ref A_SelfWatch) (.type "BaseException") = some true)
    (hd_SelfWatch : PySem.W.hasDictIn K A_SelfWatch = true)
    (cl_SelfWatch : PySem.W.findIn K (.ref A_SelfWatch) "__class__" = some (some (.builtin "object.__class__")))
    (mr_SelfWatch : PySem.W.mroIn K A_SelfWatch (.type "object") = some true)
    (ty_SelfWatch : PySem.W.typeIn K (.ref A_SelfWatch) = some (.type "type"))
    (ic_SelfWatch : PySem.W.isClsIn K A_SelfWatch = true)
    (ss_SelfWatch : PySem.W.subIn K (.ref A_SelfWatch) (.ref A_SelfWatch) = some true)
    {A_BadText : Addr}
    (a_BadText : PySem.W.nsIn K mainGlobals "BadText" = some (some (.ref A_BadText)))
    (ga_BadText : PySem.W.findIn K (.ref A_BadText) "__getattribute__" = some (some (.builtin "BaseException.__getattribute__")))
    (gg_BadText : PySem.W.findIn K (.ref A_BadText) "__getattr__" = some none)
    (sb_BadText : PySem.W.subIn K (.ref A_BadText) (.type "BaseException") = some true)
    (hd_BadText : PySem.W.hasDictIn K A_BadText = true)
    (cl_BadText : PySem.W.findIn K (.ref A_BadText) "__class__" = some (some (.builtin "object.__class__")))
    (mr_BadText : PySem.W.mroIn K A_BadText (.type "object") = some true)
    (ty_BadText : PySem.W.typeIn K (.ref A_BadText) = some (.type "type"))
    (ic_BadText : PySem.W.isClsIn K A_BadText = true)
    (ss_BadText : PySem.W.subIn K (.ref A_BadText) (.ref A_BadText) = some true)
    {A_BorderWatch : Addr}
    (a_BorderWatch : PySem.W.nsIn K mainGlobals "BorderWatch" = some (some (.ref A_BorderWatch)))
    (ga_BorderWatch : PySem.W.findIn K (.ref A_BorderWatch) "__getattribute__" = some (some (.builtin "BaseException.__getattribute__")))
    (gg_BorderWatch : PySem.W.findIn K (.ref A_BorderWatch) "__getattr__" = some none)
    (sb_BorderWatch : PySem.W.subIn K (.ref A_BorderWatch) (.type "BaseException") = some true)
    (hd_BorderWatch : PySem.W.hasDictIn K A_BorderWatch = true)
    (cl_BorderWatch : PySem.W.findIn K (.ref A_BorderWatch) "__class__" = some (some (.builtin "object.__class__")))
    (mr_BorderWatch : PySem.W.mroIn K A_BorderWatch (.type "object") = some true)
    (ty_BorderWatch : PySem.W.typeIn K (.ref A_BorderWatch) = some (.type "type"))
    (ic_BorderWatch : PySem.W.isClsIn K A_BorderWatch = true)
    (ss_BorderWatch : PySem.W.subIn K (.ref A_BorderWatch) (.ref A_BorderWatch) = some true)
    {nm_BadName qn_BadName : Str} {N_BadName fI_BadName : Addr} {bs_BadName bm_BadName sb2_BadName : List Value} {sn_BadName : List Str} {ab_BadName : Bool} {col_BadName : Option Bool} {dd_BadName : Option Addr} {m0_BadName m1_BadName m2_BadName m3_BadName m5_BadName : Option Value}
    (xL_BadName : K.lookup A_BadName = some (excClassObj nm_BadName qn_BadName A_BadName N_BadName bs_BadName bm_BadName true sn_BadName sb2_BadName ab_BadName col_BadName dd_BadName m0_BadName m1_BadName m2_BadName m3_BadName m5_BadName "ValueError.__new__"))
    (sa_BadName : PySem.W.findIn K (.ref A_BadName) "__setattr__" = some (some (.builtin "object.__setattr__")))
    (kc_BadName : PySem.W.keepIn K (.ref A_BadName) = true)
    (iC_BadName : PySem.W.findIn K (.ref A_BadName) "__init__" = some (some (.ref fI_BadName)))
    (tI_BadName : PySem.W.typeIn K (.ref fI_BadName) = some (.type "function"))
    (no_BadName_0 : PySem.W.findIn K (.ref A_BadName) "name" = some none)
    (rv_BadName : PySem.HandSPX.refsVE bm_BadName = true)
    {nm_BadNumber qn_BadNumber : Str} {N_BadNumber fI_BadNumber : Addr} {bs_BadNumber bm_BadNumber sb2_BadNumber : List Value} {sn_BadNumber : List Str} {ab_BadNumber : Bool} {col_BadNumber : Option Bool} {dd_BadNumber : Option Addr} {m0_BadNumber m1_BadNumber m2_BadNumber m3_BadNumber m5_BadNumber : Option Value}
    (xL_BadNumber : K.lookup A_BadNumber = some (excClassObj nm_BadNumber qn_BadNumber A_BadNumber N_BadNumber bs_BadNumber bm_BadNumber true sn_BadNumber sb2_BadNumber ab_BadNumber col_BadNumber dd_BadNumber m0_BadNumber m1_BadNumber m2_BadNumber m3_BadNumber m5_BadNumber "ValueError.__new__"))
    (sa_BadNumber : PySem.W.findIn K (.ref A_BadNumber) "__setattr__" = some (some (.builtin "object.__setattr__")))
    (kc_BadNumber : PySem.W.keepIn K (.ref A_BadNumber) = true)
    (iC_BadNumber : PySem.W.findIn K (.ref A_BadNumber) "__init__" = some (some (.ref fI_BadNumber)))
    (tI_BadNumber : PySem.W.typeIn K (.ref fI_BadNumber) = some (.type "function"))
    (no_BadNumber_0 : PySem.W.findIn K (.ref A_BadNumber) "value" = some none)
    (rv_BadNumber : PySem.HandSPX.refsVE bm_BadNumber = true)
    {nm_BadCount qn_BadCount : Str} {N_BadCount fI_BadCount : Addr} {bs_BadCount bm_BadCount sb2_BadCount : List Value} {sn_BadCount : List Str} {ab_BadCount : Bool} {col_BadCount : Option Bool} {dd_BadCount : Option Addr} {m0_BadCount m1_BadCount m2_BadCount m3_BadCount m5_BadCount : Option Value}
    (xL_BadCount : K.lookup A_BadCount = some (excClassObj nm_BadCount qn_BadCount A_BadCount N_BadCount bs_BadCount bm_BadCount true sn_BadCount sb2_BadCount ab_BadCount col_BadCount dd_BadCount m0_BadCount m1_BadCount m2_BadCount m3_BadCount m5_BadCount "ValueError.__new__"))
    (sa_BadCount : PySem.W.findIn K (.ref A_BadCount) "__setattr__" = some (some (.builtin "object.__setattr__")))
    (kc_BadCount : PySem.W.keepIn K (.ref A_BadCount) = true)
    (iC_BadCount : PySem.W.findIn K (.ref A_BadCount) "__init__" = some (some (.ref fI_BadCount)))
    (tI_BadCount : PySem.W.typeIn K (.ref fI_BadCount) = some (.type "function"))
    (no_BadCount_0 : PySem.W.findIn K (.ref A_BadCount) "what" = some none)
    (no_BadCount_1 : PySem.W.findIn K (.ref A_BadCount) "number" = some none)
    (rv_BadCount : PySem.HandSPX.refsVE bm_BadCount = true)
    {nm_Repeated qn_Repeated : Str} {N_Repeated fI_Repeated : Addr} {bs_Repeated bm_Repeated sb2_Repeated : List Value} {sn_Repeated : List Str} {ab_Repeated : Bool} {col_Repeated : Option Bool} {dd_Repeated : Option Addr} {m0_Repeated m1_Repeated m2_Repeated m3_Repeated m5_Repeated : Option Value}
    (xL_Repeated : K.lookup A_Repeated = some (excClassObj nm_Repeated qn_Repeated A_Repeated N_Repeated bs_Repeated bm_Repeated true sn_Repeated sb2_Repeated ab_Repeated col_Repeated dd_Repeated m0_Repeated m1_Repeated m2_Repeated m3_Repeated m5_Repeated "ValueError.__new__"))
    (sa_Repeated : PySem.W.findIn K (.ref A_Repeated) "__setattr__" = some (some (.builtin "object.__setattr__")))
    (kc_Repeated : PySem.W.keepIn K (.ref A_Repeated) = true)
    (iC_Repeated : PySem.W.findIn K (.ref A_Repeated) "__init__" = some (some (.ref fI_Repeated)))
    (tI_Repeated : PySem.W.typeIn K (.ref fI_Repeated) = some (.type "function"))
    (no_Repeated_0 : PySem.W.findIn K (.ref A_Repeated) "value" = some none)
    (rv_Repeated : PySem.HandSPX.refsVE bm_Repeated = true)
    {nm_UnknownFolk qn_UnknownFolk : Str} {N_UnknownFolk fI_UnknownFolk : Addr} {bs_UnknownFolk bm_UnknownFolk sb2_UnknownFolk : List Value} {sn_UnknownFolk : List Str} {ab_UnknownFolk : Bool} {col_UnknownFolk : Option Bool} {dd_UnknownFolk : Option Addr} {m0_UnknownFolk m1_UnknownFolk m2_UnknownFolk m3_UnknownFolk m5_UnknownFolk : Option Value}
    (xL_UnknownFolk : K.lookup A_UnknownFolk = some (excClassObj nm_UnknownFolk qn_UnknownFolk A_UnknownFolk N_UnknownFolk bs_UnknownFolk bm_UnknownFolk true sn_UnknownFolk sb2_UnknownFolk ab_UnknownFolk col_UnknownFolk dd_UnknownFolk m0_UnknownFolk m1_UnknownFolk m2_UnknownFolk m3_UnknownFolk m5_UnknownFolk "ValueError.__new__"))
    (sa_UnknownFolk : PySem.W.findIn K (.ref A_UnknownFolk) "__setattr__" = some (some (.builtin "object.__setattr__")))
    (kc_UnknownFolk : PySem.W.keepIn K (.ref A_UnknownFolk) = true)
    (iC_UnknownFolk : PySem.W.findIn K (.ref A_UnknownFolk) "__init__" = some (some (.ref fI_UnknownFolk)))
    (tI_UnknownFolk : PySem.W.typeIn K (.ref fI_UnknownFolk) = some (.type "function"))
    (no_UnknownFolk_0 : PySem.W.findIn K (.ref A_UnknownFolk) "name" = some none)
    (rv_UnknownFolk : PySem.HandSPX.refsVE bm_UnknownFolk = true)
    {nm_SelfWatch qn_SelfWatch : Str} {N_SelfWatch fI_SelfWatch : Addr} {bs_SelfWatch bm_SelfWatch sb2_SelfWatch : List Value} {sn_SelfWatch : List Str} {ab_SelfWatch : Bool} {col_SelfWatch : Option Bool} {dd_SelfWatch : Option Addr} {m0_SelfWatch m1_SelfWatch m2_SelfWatch m3_SelfWatch m5_SelfWatch : Option Value}
    (xL_SelfWatch : K.lookup A_SelfWatch = some (excClassObj nm_SelfWatch qn_SelfWatch A_SelfWatch N_SelfWatch bs_SelfWatch bm_SelfWatch true sn_SelfWatch sb2_SelfWatch ab_SelfWatch col_SelfWatch dd_SelfWatch m0_SelfWatch m1_SelfWatch m2_SelfWatch m3_SelfWatch m5_SelfWatch "ValueError.__new__"))
    (sa_SelfWatch : PySem.W.findIn K (.ref A_SelfWatch) "__setattr__" = some (some (.builtin "object.__setattr__")))
    (kc_SelfWatch : PySem.W.keepIn K (.ref A_SelfWatch) = true)
    (iC_SelfWatch : PySem.W.findIn K (.ref A_SelfWatch) "__init__" = some (some (.ref fI_SelfWatch)))
    (tI_SelfWatch : PySem.W.typeIn K (.ref fI_SelfWatch) = some (.type "function"))
    (no_SelfWatch_0 : PySem.W.findIn K (.ref A_SelfWatch) "name" = some none)
    (rv_SelfWatch : PySem.HandSPX.refsVE bm_SelfWatch = true)
    {nm_BadText qn_BadText : Str} {N_BadText fI_BadText : Addr} {bs_BadText bm_BadText sb2_BadText : List Value} {sn_BadText : List Str} {ab_BadText : Bool} {col_BadText : Option Bool} {dd_BadText : Option Addr} {m0_BadText m1_BadText m2_BadText m3_BadText m5_BadText : Option Value}
    (xL_BadText : K.lookup A_BadText = some (excClassObj nm_BadText qn_BadText A_BadText N_BadText bs_BadText bm_BadText true sn_BadText sb2_BadText ab_BadText col_BadText dd_BadText m0_BadText m1_BadText m2_BadText m3_BadText m5_BadText "ValueError.__new__"))
    (sa_BadText : PySem.W.findIn K (.ref A_BadText) "__setattr__" = some (some (.builtin "object.__setattr__")))
    (kc_BadText : PySem.W.keepIn K (.ref A_BadText) = true)
    (iC_BadText : PySem.W.findIn K (.ref A_BadText) "__init__" = some (some (.ref fI_BadText)))
    (tI_BadText : PySem.W.typeIn K (.ref fI_BadText) = some (.type "function"))
    (no_BadText_0 : PySem.W.findIn K (.ref A_BadText) "line" = some none)
    (rv_BadText : PySem.HandSPX.refsVE bm_BadText = true)
    {nm_BorderWatch qn_BorderWatch : Str} {N_BorderWatch fI_BorderWatch : Addr} {bs_BorderWatch bm_BorderWatch sb2_BorderWatch : List Value} {sn_BorderWatch : List Str} {ab_BorderWatch : Bool} {col_BorderWatch : Option Bool} {dd_BorderWatch : Option Addr} {m0_BorderWatch m1_BorderWatch m2_BorderWatch m3_BorderWatch m5_BorderWatch : Option Value}
    (xL_BorderWatch : K.lookup A_BorderWatch = some (excClassObj nm_BorderWatch qn_BorderWatch A_BorderWatch N_BorderWatch bs_BorderWatch bm_BorderWatch true sn_BorderWatch sb2_BorderWatch ab_BorderWatch col_BorderWatch dd_BorderWatch m0_BorderWatch m1_BorderWatch m2_BorderWatch m3_BorderWatch m5_BorderWatch "ValueError.__new__"))
    (sa_BorderWatch : PySem.W.findIn K (.ref A_BorderWatch) "__setattr__" = some (some (.builtin "object.__setattr__")))
    (kc_BorderWatch : PySem.W.keepIn K (.ref A_BorderWatch) = true)
    (iC_BorderWatch : PySem.W.findIn K (.ref A_BorderWatch) "__init__" = some (some (.ref fI_BorderWatch)))
    (tI_BorderWatch : PySem.W.typeIn K (.ref fI_BorderWatch) = some (.type "function"))
    (no_BorderWatch_0 : PySem.W.findIn K (.ref A_BorderWatch) "watcher" = some none)
    (no_BorderWatch_1 : PySem.W.findIn K (.ref A_BorderWatch) "watched" = some none)
    (rv_BorderWatch : PySem.HandSPX.refsVE bm_BorderWatch = true)
    (sub_BadName_DrowseError : PySem.W.subIn K (.ref A_BadName) (.ref A_DrowseError) = some true)
    (sub_BadName_UnknownFolk : PySem.W.subIn K (.ref A_BadName) (.ref A_UnknownFolk) = some false)
    (sub_BadName_Repeated : PySem.W.subIn K (.ref A_BadName) (.ref A_Repeated) = some false)
    (sub_BadName_BadText : PySem.W.subIn K (.ref A_BadName) (.ref A_BadText) = some false)
    (sub_BadNumber_DrowseError : PySem.W.subIn K (.ref A_BadNumber) (.ref A_DrowseError) = some true)
    (sub_BadNumber_UnknownFolk : PySem.W.subIn K (.ref A_BadNumber) (.ref A_UnknownFolk) = some false)
    (sub_BadNumber_Repeated : PySem.W.subIn K (.ref A_BadNumber) (.ref A_Repeated) = some false)
    (sub_BadNumber_BadText : PySem.W.subIn K (.ref A_BadNumber) (.ref A_BadText) = some false)
    (sub_BadNumber_BadName : PySem.W.subIn K (.ref A_BadNumber) (.ref A_BadName) = some false)
    (sub_BadCount_DrowseError : PySem.W.subIn K (.ref A_BadCount) (.ref A_DrowseError) = some true)
    (sub_BadCount_UnknownFolk : PySem.W.subIn K (.ref A_BadCount) (.ref A_UnknownFolk) = some false)
    (sub_BadCount_Repeated : PySem.W.subIn K (.ref A_BadCount) (.ref A_Repeated) = some false)
    (sub_BadCount_BadText : PySem.W.subIn K (.ref A_BadCount) (.ref A_BadText) = some false)
    (sub_BadCount_BadName : PySem.W.subIn K (.ref A_BadCount) (.ref A_BadName) = some false)
    (sub_Repeated_DrowseError : PySem.W.subIn K (.ref A_Repeated) (.ref A_DrowseError) = some true)
    (sub_Repeated_UnknownFolk : PySem.W.subIn K (.ref A_Repeated) (.ref A_UnknownFolk) = some false)
    (sub_Repeated_BadText : PySem.W.subIn K (.ref A_Repeated) (.ref A_BadText) = some false)
    (sub_Repeated_BadName : PySem.W.subIn K (.ref A_Repeated) (.ref A_BadName) = some false)
    (sub_UnknownFolk_DrowseError : PySem.W.subIn K (.ref A_UnknownFolk) (.ref A_DrowseError) = some true)
    (sub_UnknownFolk_Repeated : PySem.W.subIn K (.ref A_UnknownFolk) (.ref A_Repeated) = some false)
    (sub_UnknownFolk_BadText : PySem.W.subIn K (.ref A_UnknownFolk) (.ref A_BadText) = some false)
    (sub_UnknownFolk_BadName : PySem.W.subIn K (.ref A_UnknownFolk) (.ref A_BadName) = some false)
    (sub_SelfWatch_DrowseError : PySem.W.subIn K (.ref A_SelfWatch) (.ref A_DrowseError) = some true)
    (sub_SelfWatch_UnknownFolk : PySem.W.subIn K (.ref A_SelfWatch) (.ref A_UnknownFolk) = some false)
    (sub_SelfWatch_Repeated : PySem.W.subIn K (.ref A_SelfWatch) (.ref A_Repeated) = some false)
    (sub_SelfWatch_BadText : PySem.W.subIn K (.ref A_SelfWatch) (.ref A_BadText) = some false)
    (sub_SelfWatch_BadName : PySem.W.subIn K (.ref A_SelfWatch) (.ref A_BadName) = some false)
    (sub_BadText_DrowseError : PySem.W.subIn K (.ref A_BadText) (.ref A_DrowseError) = some true)
    (sub_BadText_UnknownFolk : PySem.W.subIn K (.ref A_BadText) (.ref A_UnknownFolk) = some false)
    (sub_BadText_Repeated : PySem.W.subIn K (.ref A_BadText) (.ref A_Repeated) = some false)
    (sub_BadText_BadName : PySem.W.subIn K (.ref A_BadText) (.ref A_BadName) = some false)
    (sub_BorderWatch_DrowseError : PySem.W.subIn K (.ref A_BorderWatch) (.ref A_DrowseError) = some true)
    (sub_BorderWatch_UnknownFolk : PySem.W.subIn K (.ref A_BorderWatch) (.ref A_UnknownFolk) = some false)
    (sub_BorderWatch_Repeated : PySem.W.subIn K (.ref A_BorderWatch) (.ref A_Repeated) = some false)
    (sub_BorderWatch_BadText : PySem.W.subIn K (.ref A_BorderWatch) (.ref A_BadText) = some false)
    (sub_BorderWatch_BadName : PySem.W.subIn K (.ref A_BorderWatch) (.ref A_BadName) = some false)
    {f0 : Addr}
    {od0 an0 : Option Addr} {sl0 : Array (Option Value)} {oc0 kV0 dc0 pm0 cd0 ct0 : Value}
    (a0 : PySem.W.nsIn K mainGlobals "plain" = some (some (.ref f0)))
    (l0 : K.lookup f0 = some ⟨oc0, od0, .func (PySem.W.fnOf "plain" "plain" (defArgs s_plain) (defBody s_plain) (defScope s_plain) .none kV0 dc0 pm0 an0 cd0 ct0), sl0⟩)
    (c0 : PySem.W.codeIn K cd0 "plain" = true)
    (k0 : PySem.W.keepIn K (.ref f0) = true)
    {od1 an1 : Option Addr} {sl1 : Array (Option Value)} {oc1 kV1 dc1 pm1 cd1 ct1 : Value}
    (l1 : K.lookup fI_BadName = some ⟨oc1, od1, .func (PySem.W.fnOf "__init__" "BadName.__init__" (defArgs s_BadName__init) (defBody s_BadName__init) (defScope s_BadName__init) .none kV1 dc1 pm1 an1 cd1 ct1), sl1⟩)
    (c1 : PySem.W.codeIn K cd1 "BadName.__init__" = true)
    (k1 : PySem.W.keepIn K (.ref fI_BadName) = true)
    {od2 an2 : Option Addr} {sl2 : Array (Option Value)} {oc2 kV2 dc2 pm2 cd2 ct2 : Value}
    (l2 : K.lookup fI_BadNumber = some ⟨oc2, od2, .func (PySem.W.fnOf "__init__" "BadNumber.__init__" (defArgs s_BadNumber__init) (defBody s_BadNumber__init) (defScope s_BadNumber__init) .none kV2 dc2 pm2 an2 cd2 ct2), sl2⟩)
    (c2 : PySem.W.codeIn K cd2 "BadNumber.__init__" = true)
    (k2 : PySem.W.keepIn K (.ref fI_BadNumber) = true)
    {od3 an3 : Option Addr} {sl3 : Array (Option Value)} {oc3 kV3 dc3 pm3 cd3 ct3 : Value}
    (l3 : K.lookup fI_BadCount = some ⟨oc3, od3, .func (PySem.W.fnOf "__init__" "BadCount.__init__" (defArgs s_BadCount__init) (defBody s_BadCount__init) (defScope s_BadCount__init) .none kV3 dc3 pm3 an3 cd3 ct3), sl3⟩)
    (c3 : PySem.W.codeIn K cd3 "BadCount.__init__" = true)
    (k3 : PySem.W.keepIn K (.ref fI_BadCount) = true)
    {od4 an4 : Option Addr} {sl4 : Array (Option Value)} {oc4 kV4 dc4 pm4 cd4 ct4 : Value}
    (l4 : K.lookup fI_Repeated = some ⟨oc4, od4, .func (PySem.W.fnOf "__init__" "Repeated.__init__" (defArgs s_Repeated__init) (defBody s_Repeated__init) (defScope s_Repeated__init) .none kV4 dc4 pm4 an4 cd4 ct4), sl4⟩)
    (c4 : PySem.W.codeIn K cd4 "Repeated.__init__" = true)
    (k4 : PySem.W.keepIn K (.ref fI_Repeated) = true)
    {od5 an5 : Option Addr} {sl5 : Array (Option Value)} {oc5 kV5 dc5 pm5 cd5 ct5 : Value}
    (l5 : K.lookup fI_UnknownFolk = some ⟨oc5, od5, .func (PySem.W.fnOf "__init__" "UnknownFolk.__init__" (defArgs s_UnknownFolk__init) (defBody s_UnknownFolk__init) (defScope s_UnknownFolk__init) .none kV5 dc5 pm5 an5 cd5 ct5), sl5⟩)
    (c5 : PySem.W.codeIn K cd5 "UnknownFolk.__init__" = true)
    (k5 : PySem.W.keepIn K (.ref fI_UnknownFolk) = true)
    {od6 an6 : Option Addr} {sl6 : Array (Option Value)} {oc6 kV6 dc6 pm6 cd6 ct6 : Value}
    (l6 : K.lookup fI_SelfWatch = some ⟨oc6, od6, .func (PySem.W.fnOf "__init__" "SelfWatch.__init__" (defArgs s_SelfWatch__init) (defBody s_SelfWatch__init) (defScope s_SelfWatch__init) .none kV6 dc6 pm6 an6 cd6 ct6), sl6⟩)
    (c6 : PySem.W.codeIn K cd6 "SelfWatch.__init__" = true)
    (k6 : PySem.W.keepIn K (.ref fI_SelfWatch) = true)
    {od7 an7 : Option Addr} {sl7 : Array (Option Value)} {oc7 kV7 dc7 pm7 cd7 ct7 : Value}
    (l7 : K.lookup fI_BadText = some ⟨oc7, od7, .func (PySem.W.fnOf "__init__" "BadText.__init__" (defArgs s_BadText__init) (defBody s_BadText__init) (defScope s_BadText__init) .none kV7 dc7 pm7 an7 cd7 ct7), sl7⟩)
    (c7 : PySem.W.codeIn K cd7 "BadText.__init__" = true)
    (k7 : PySem.W.keepIn K (.ref fI_BadText) = true)
    {od8 an8 : Option Addr} {sl8 : Array (Option Value)} {oc8 kV8 dc8 pm8 cd8 ct8 : Value}
    (l8 : K.lookup fI_BorderWatch = some ⟨oc8, od8, .func (PySem.W.fnOf "__init__" "BorderWatch.__init__" (defArgs s_BorderWatch__init) (defBody s_BorderWatch__init) (defScope s_BorderWatch__init) .none kV8 dc8 pm8 an8 cd8 ct8), sl8⟩)
    (c8 : PySem.W.codeIn K cd8 "BorderWatch.__init__" = true)
    (k8 : PySem.W.keepIn K (.ref fI_BorderWatch) = true)
    {f9 : Addr}
    {od9 an9 : Option Addr} {sl9 : Array (Option Value)} {oc9 kV9 dc9 pm9 cd9 ct9 : Value}
    (a9 : PySem.W.nsIn K mainGlobals "is_name" = some (some (.ref f9)))
    (l9 : K.lookup f9 = some ⟨oc9, od9, .func (PySem.W.fnOf "is_name" "is_name" (defArgs s_is_name) (defBody s_is_name) (defScope s_is_name) .none kV9 dc9 pm9 an9 cd9 ct9), sl9⟩)
    (c9 : PySem.W.codeIn K cd9 "is_name" = true)
    (k9 : PySem.W.keepIn K (.ref f9) = true)
    {f10 : Addr}
    {od10 an10 : Option Addr} {sl10 : Array (Option Value)} {oc10 kV10 dc10 pm10 cd10 ct10 : Value}
    (a10 : PySem.W.nsIn K mainGlobals "is_number" = some (some (.ref f10)))
    (l10 : K.lookup f10 = some ⟨oc10, od10, .func (PySem.W.fnOf "is_number" "is_number" (defArgs s_is_number) (defBody s_is_number) (defScope s_is_number) .none kV10 dc10 pm10 an10 cd10 ct10), sl10⟩)
    (c10 : PySem.W.codeIn K cd10 "is_number" = true)
    (k10 : PySem.W.keepIn K (.ref f10) = true)
    {f11 : Addr}
    {od11 an11 : Option Addr} {sl11 : Array (Option Value)} {oc11 kV11 dc11 pm11 cd11 ct11 : Value}
    (a11 : PySem.W.nsIn K mainGlobals "check_number" = some (some (.ref f11)))
    (l11 : K.lookup f11 = some ⟨oc11, od11, .func (PySem.W.fnOf "check_number" "check_number" (defArgs s_check_number) (defBody s_check_number) (defScope s_check_number) .none kV11 dc11 pm11 an11 cd11 ct11), sl11⟩)
    (c11 : PySem.W.codeIn K cd11 "check_number" = true)
    (k11 : PySem.W.keepIn K (.ref f11) = true)
    {f12 : Addr}
    {od12 an12 : Option Addr} {sl12 : Array (Option Value)} {oc12 kV12 dc12 pm12 cd12 ct12 : Value}
    (a12 : PySem.W.nsIn K mainGlobals "check_count" = some (some (.ref f12)))
    (l12 : K.lookup f12 = some ⟨oc12, od12, .func (PySem.W.fnOf "check_count" "check_count" (defArgs s_check_count) (defBody s_check_count) (defScope s_check_count) .none kV12 dc12 pm12 an12 cd12 ct12), sl12⟩)
    (c12 : PySem.W.codeIn K cd12 "check_count" = true)
    (k12 : PySem.W.keepIn K (.ref f12) = true)
    {f13 : Addr}
    {od13 an13 : Option Addr} {sl13 : Array (Option Value)} {oc13 kV13 dc13 pm13 cd13 ct13 : Value}
    (a13 : PySem.W.nsIn K mainGlobals "check_new_name" = some (some (.ref f13)))
    (l13 : K.lookup f13 = some ⟨oc13, od13, .func (PySem.W.fnOf "check_new_name" "check_new_name" (defArgs s_check_new_name) (defBody s_check_new_name) (defScope s_check_new_name) .none kV13 dc13 pm13 an13 cd13 ct13), sl13⟩)
    (c13 : PySem.W.codeIn K cd13 "check_new_name" = true)
    (k13 : PySem.W.keepIn K (.ref f13) = true)
    {f14 : Addr}
    {od14 an14 : Option Addr} {sl14 : Array (Option Value)} {oc14 kV14 dc14 pm14 cd14 ct14 : Value}
    (a14 : PySem.W.nsIn K mainGlobals "place_in" = some (some (.ref f14)))
    (l14 : K.lookup f14 = some ⟨oc14, od14, .func (PySem.W.fnOf "place_in" "place_in" (defArgs s_place_in) (defBody s_place_in) (defScope s_place_in) .none kV14 dc14 pm14 an14 cd14 ct14), sl14⟩)
    (c14 : PySem.W.codeIn K cd14 "place_in" = true)
    (k14 : PySem.W.keepIn K (.ref f14) = true)
    {f15 : Addr}
    {od15 an15 : Option Addr} {sl15 : Array (Option Value)} {oc15 kV15 dc15 pm15 cd15 ct15 : Value}
    (a15 : PySem.W.nsIn K mainGlobals "mask_of" = some (some (.ref f15)))
    (l15 : K.lookup f15 = some ⟨oc15, od15, .func (PySem.W.fnOf "mask_of" "mask_of" (defArgs s_mask_of) (defBody s_mask_of) (defScope s_mask_of) .none kV15 dc15 pm15 an15 cd15 ct15), sl15⟩)
    (c15 : PySem.W.codeIn K cd15 "mask_of" = true)
    (k15 : PySem.W.keepIn K (.ref f15) = true)
    {f16 : Addr}
    {od16 an16 : Option Addr} {sl16 : Array (Option Value)} {oc16 kV16 dc16 pm16 cd16 ct16 : Value}
    (a16 : PySem.W.nsIn K mainGlobals "positions" = some (some (.ref f16)))
    (l16 : K.lookup f16 = some ⟨oc16, od16, .func (PySem.W.fnOf "positions" "positions" (defArgs s_positions) (defBody s_positions) (defScope s_positions) .none kV16 dc16 pm16 an16 cd16 ct16), sl16⟩)
    (c16 : PySem.W.codeIn K cd16 "positions" = true)
    (k16 : PySem.W.keepIn K (.ref f16) = true)
    {f17 : Addr}
    {od17 an17 : Option Addr} {sl17 : Array (Option Value)} {oc17 kV17 dc17 pm17 cd17 ct17 : Value}
    (a17 : PySem.W.nsIn K mainGlobals "tell" = some (some (.ref f17)))
    (l17 : K.lookup f17 = some ⟨oc17, od17, .func (PySem.W.fnOf "tell" "tell" (defArgs s_tell) (defBody s_tell) (defScope s_tell) .none kV17 dc17 pm17 an17 cd17 ct17), sl17⟩)
    (c17 : PySem.W.codeIn K cd17 "tell" = true)
    (k17 : PySem.W.keepIn K (.ref f17) = true)
    {f18 : Addr}
    {od18 an18 : Option Addr} {sl18 : Array (Option Value)} {oc18 kV18 dc18 pm18 cd18 ct18 : Value}
    (a18 : PySem.W.nsIn K mainGlobals "examined_folk" = some (some (.ref f18)))
    (l18 : K.lookup f18 = some ⟨oc18, od18, .func (PySem.W.fnOf "examined_folk" "examined_folk" (defArgs s_examined_folk) (defBody s_examined_folk) (defScope s_examined_folk) .none kV18 dc18 pm18 an18 cd18 ct18), sl18⟩)
    (c18 : PySem.W.codeIn K cd18 "examined_folk" = true)
    (k18 : PySem.W.keepIn K (.ref f18) = true)
    {f19 : Addr}
    {od19 an19 : Option Addr} {sl19 : Array (Option Value)} {oc19 kV19 dc19 pm19 cd19 ct19 : Value}
    (a19 : PySem.W.nsIn K mainGlobals "examined_watches" = some (some (.ref f19)))
    (l19 : K.lookup f19 = some ⟨oc19, od19, .func (PySem.W.fnOf "examined_watches" "examined_watches" (defArgs s_examined_watches) (defBody s_examined_watches) (defScope s_examined_watches) .none kV19 dc19 pm19 an19 cd19 ct19), sl19⟩)
    (c19 : PySem.W.codeIn K cd19 "examined_watches" = true)
    (k19 : PySem.W.keepIn K (.ref f19) = true)
    {f20 : Addr}
    {od20 an20 : Option Addr} {sl20 : Array (Option Value)} {oc20 kV20 dc20 pm20 cd20 ct20 : Value}
    (a20 : PySem.W.nsIn K mainGlobals "all_pulls" = some (some (.ref f20)))
    (l20 : K.lookup f20 = some ⟨oc20, od20, .func (PySem.W.fnOf "all_pulls" "all_pulls" (defArgs s_all_pulls) (defBody s_all_pulls) (defScope s_all_pulls) .none kV20 dc20 pm20 an20 cd20 ct20), sl20⟩)
    (c20 : PySem.W.codeIn K cd20 "all_pulls" = true)
    (k20 : PySem.W.keepIn K (.ref f20) = true)
    {f21 : Addr}
    {od21 an21 : Option Addr} {sl21 : Array (Option Value)} {oc21 kV21 dc21 pm21 cd21 ct21 : Value}
    {T21 td21 : Addr} {oT21 : Value} {dT21 d221 : Option Addr} {nT21 n221 : Nat} {slT21 sl221 : Array (Option Value)}
    (a21 : PySem.W.findIn K (.ref A_Web) "__init__" = some (some (.ref f21)))
    (n21 : PySem.W.isFn K (.ref f21) = true)
    (l21 : K.lookup f21 = some ⟨oc21, od21, .func (PySem.W.fnOf "__init__" "Web.__init__" (defArgs s_Web__init) (defBody s_Web__init) (defScope s_Web__init) (.ref T21) kV21 dc21 pm21 an21 cd21 ct21), sl21⟩)
    (c21 : PySem.W.codeIn K cd21 "Web.__init__" = true)
    (k21 : PySem.W.keepIn K (.ref f21) = true)
    (lT21 : K.lookup T21 = some ⟨oT21, dT21, .seq [Value.ref td21].toArray nT21, slT21⟩)
    (ld21 : K.lookup td21 = some ⟨.type "tuple", d221, .seq #[] n221, sl221⟩)
    {f22 : Addr}
    {od22 an22 : Option Addr} {sl22 : Array (Option Value)} {oc22 kV22 dc22 pm22 cd22 ct22 : Value}
    {pp22 : Addr} {rest22 : List Value}
    (a22 : PySem.W.findIn K (.ref A_Web) "names" = some (some (.ref pp22)))
    (g22 : PySem.W.specialIn K (.ref pp22) "__get__" = some (some (.builtin "property.__get__")))
    (t22 : PySem.W.takesIn K (.ref pp22) = some true)
    (r22 : PySem.W.recIn K pp22 "property" = some (.ref f22 :: rest22))
    (l22 : K.lookup f22 = some ⟨oc22, od22, .func (PySem.W.fnOf "names" "Web.names" (defArgs s_Web_names) (defBody s_Web_names) (defScope s_Web_names) .none kV22 dc22 pm22 an22 cd22 ct22), sl22⟩)
    (c22 : PySem.W.codeIn K cd22 "Web.names" = true)
    (k22 : PySem.W.keepIn K (.ref f22) = true)
    {f23 : Addr}
    {od23 an23 : Option Addr} {sl23 : Array (Option Value)} {oc23 kV23 dc23 pm23 cd23 ct23 : Value}
    (a23 : PySem.W.findIn K (.ref A_Web) "__contains__" = some (some (.ref f23)))
    (n23 : PySem.W.isFn K (.ref f23) = true)
    (l23 : K.lookup f23 = some ⟨oc23, od23, .func (PySem.W.fnOf "__contains__" "Web.__contains__" (defArgs s_Web__contains) (defBody s_Web__contains) (defScope s_Web__contains) .none kV23 dc23 pm23 an23 cd23 ct23), sl23⟩)
    (c23 : PySem.W.codeIn K cd23 "Web.__contains__" = true)
    (k23 : PySem.W.keepIn K (.ref f23) = true)
    {f24 : Addr}
    {od24 an24 : Option Addr} {sl24 : Array (Option Value)} {oc24 kV24 dc24 pm24 cd24 ct24 : Value}
    (a24 : PySem.W.nsIn K mainGlobals "world_text" = some (some (.ref f24)))
    (l24 : K.lookup f24 = some ⟨oc24, od24, .func (PySem.W.fnOf "world_text" "world_text" (defArgs s_world_text) (defBody s_world_text) (defScope s_world_text) .none kV24 dc24 pm24 an24 cd24 ct24), sl24⟩)
    (c24 : PySem.W.codeIn K cd24 "world_text" = true)
    (k24 : PySem.W.keepIn K (.ref f24) = true)
    {f25 : Addr}
    {od25 an25 : Option Addr} {sl25 : Array (Option Value)} {oc25 kV25 dc25 pm25 cd25 ct25 : Value}
    (a25 : PySem.W.nsIn K mainGlobals "read_world" = some (some (.ref f25)))
    (l25 : K.lookup f25 = some ⟨oc25, od25, .func (PySem.W.fnOf "read_world" "read_world" (defArgs s_read_world) (defBody s_read_world) (defScope s_read_world) .none kV25 dc25 pm25 an25 cd25 ct25), sl25⟩)
    (c25 : PySem.W.codeIn K cd25 "read_world" = true)
    (k25 : PySem.W.keepIn K (.ref f25) = true)
    {f26 : Addr}
    {od26 an26 : Option Addr} {sl26 : Array (Option Value)} {oc26 kV26 dc26 pm26 cd26 ct26 : Value}
    (a26 : PySem.W.nsIn K mainGlobals "_law_store" = some (some (.ref f26)))
    (l26 : K.lookup f26 = some ⟨oc26, od26, .func (PySem.W.fnOf "_law_store" "_law_store" (defArgs s_law_store) (defBody s_law_store) (defScope s_law_store) .none kV26 dc26 pm26 an26 cd26 ct26), sl26⟩)
    (c26 : PySem.W.codeIn K cd26 "_law_store" = true)
    (k26 : PySem.W.keepIn K (.ref f26) = true)
    {f27 : Addr}
    {od27 an27 : Option Addr} {sl27 : Array (Option Value)} {oc27 kV27 dc27 pm27 cd27 ct27 : Value}
    (a27 : PySem.W.nsIn K mainGlobals "_law_next" = some (some (.ref f27)))
    (l27 : K.lookup f27 = some ⟨oc27, od27, .func (PySem.W.fnOf "_law_next" "_law_next" (defArgs s_law_next) (defBody s_law_next) (defScope s_law_next) .none kV27 dc27 pm27 an27 cd27 ct27), sl27⟩)
    (c27 : PySem.W.codeIn K cd27 "_law_next" = true)
    (k27 : PySem.W.keepIn K (.ref f27) = true)
    {f28 : Addr}
    {od28 an28 : Option Addr} {sl28 : Array (Option Value)} {oc28 kV28 dc28 pm28 cd28 ct28 : Value}
    (a28 : PySem.W.nsIn K mainGlobals "_law_raw" = some (some (.ref f28)))
    (l28 : K.lookup f28 = some ⟨oc28, od28, .func (PySem.W.fnOf "_law_raw" "_law_raw" (defArgs s_law_raw) (defBody s_law_raw) (defScope s_law_raw) .none kV28 dc28 pm28 an28 cd28 ct28), sl28⟩)
    (c28 : PySem.W.codeIn K cd28 "_law_raw" = true)
    (k28 : PySem.W.keepIn K (.ref f28) = true)
    {f29 : Addr}
    {od29 an29 : Option Addr} {sl29 : Array (Option Value)} {oc29 kV29 dc29 pm29 cd29 ct29 : Value}
    (a29 : PySem.W.nsIn K mainGlobals "_law_take" = some (some (.ref f29)))
    (l29 : K.lookup f29 = some ⟨oc29, od29, .func (PySem.W.fnOf "_law_take" "_law_take" (defArgs s_law_take) (defBody s_law_take) (defScope s_law_take) .none kV29 dc29 pm29 an29 cd29 ct29), sl29⟩)
    (c29 : PySem.W.codeIn K cd29 "_law_take" = true)
    (k29 : PySem.W.keepIn K (.ref f29) = true)
    {f30 : Addr}
    {od30 an30 : Option Addr} {sl30 : Array (Option Value)} {oc30 kV30 dc30 pm30 cd30 ct30 : Value}
    (a30 : PySem.W.nsIn K mainGlobals "_law_some" = some (some (.ref f30)))
    (l30 : K.lookup f30 = some ⟨oc30, od30, .func (PySem.W.fnOf "_law_some" "_law_some" (defArgs s_law_some) (defBody s_law_some) (defScope s_law_some) .none kV30 dc30 pm30 an30 cd30 ct30), sl30⟩)
    (c30 : PySem.W.codeIn K cd30 "_law_some" = true)
    (k30 : PySem.W.keepIn K (.ref f30) = true)
    {f31 : Addr}
    {od31 an31 : Option Addr} {sl31 : Array (Option Value)} {oc31 kV31 dc31 pm31 cd31 ct31 : Value}
    (a31 : PySem.W.nsIn K mainGlobals "_law_size" = some (some (.ref f31)))
    (l31 : K.lookup f31 = some ⟨oc31, od31, .func (PySem.W.fnOf "_law_size" "_law_size" (defArgs s_law_size) (defBody s_law_size) (defScope s_law_size) .none kV31 dc31 pm31 an31 cd31 ct31), sl31⟩)
    (c31 : PySem.W.codeIn K cd31 "_law_size" = true)
    (k31 : PySem.W.keepIn K (.ref f31) = true)
    {f32 : Addr}
    {od32 an32 : Option Addr} {sl32 : Array (Option Value)} {oc32 kV32 dc32 pm32 cd32 ct32 : Value}
    (a32 : PySem.W.nsIn K mainGlobals "_law_pick" = some (some (.ref f32)))
    (l32 : K.lookup f32 = some ⟨oc32, od32, .func (PySem.W.fnOf "_law_pick" "_law_pick" (defArgs s_law_pick) (defBody s_law_pick) (defScope s_law_pick) .none kV32 dc32 pm32 an32 cd32 ct32), sl32⟩)
    (c32 : PySem.W.codeIn K cd32 "_law_pick" = true)
    (k32 : PySem.W.keepIn K (.ref f32) = true)
    {f33 : Addr}
    {od33 an33 : Option Addr} {sl33 : Array (Option Value)} {oc33 kV33 dc33 pm33 cd33 ct33 : Value}
    (a33 : PySem.W.nsIn K mainGlobals "_law_mixed" = some (some (.ref f33)))
    (l33 : K.lookup f33 = some ⟨oc33, od33, .func (PySem.W.fnOf "_law_mixed" "_law_mixed" (defArgs s_law_mixed) (defBody s_law_mixed) (defScope s_law_mixed) .none kV33 dc33 pm33 an33 cd33 ct33), sl33⟩)
    (c33 : PySem.W.codeIn K cd33 "_law_mixed" = true)
    (k33 : PySem.W.keepIn K (.ref f33) = true)
    {f34 : Addr}
    {od34 an34 : Option Addr} {sl34 : Array (Option Value)} {oc34 kV34 dc34 pm34 cd34 ct34 : Value}
    (a34 : PySem.W.nsIn K mainGlobals "_law_some_of" = some (some (.ref f34)))
    (l34 : K.lookup f34 = some ⟨oc34, od34, .func (PySem.W.fnOf "_law_some_of" "_law_some_of" (defArgs s_law_some_of) (defBody s_law_some_of) (defScope s_law_some_of) .none kV34 dc34 pm34 an34 cd34 ct34), sl34⟩)
    (c34 : PySem.W.codeIn K cd34 "_law_some_of" = true)
    (k34 : PySem.W.keepIn K (.ref f34) = true)
    {f35 : Addr}
    {od35 an35 : Option Addr} {sl35 : Array (Option Value)} {oc35 kV35 dc35 pm35 cd35 ct35 : Value}
    (a35 : PySem.W.nsIn K mainGlobals "_law_loose" = some (some (.ref f35)))
    (l35 : K.lookup f35 = some ⟨oc35, od35, .func (PySem.W.fnOf "_law_loose" "_law_loose" (defArgs s_law_loose) (defBody s_law_loose) (defScope s_law_loose) .none kV35 dc35 pm35 an35 cd35 ct35), sl35⟩)
    (c35 : PySem.W.codeIn K cd35 "_law_loose" = true)
    (k35 : PySem.W.keepIn K (.ref f35) = true)
    {f36 : Addr}
    {od36 an36 : Option Addr} {sl36 : Array (Option Value)} {oc36 kV36 dc36 pm36 cd36 ct36 : Value}
    (a36 : PySem.W.nsIn K mainGlobals "_law_same" = some (some (.ref f36)))
    (l36 : K.lookup f36 = some ⟨oc36, od36, .func (PySem.W.fnOf "_law_same" "_law_same" (defArgs s_law_same) (defBody s_law_same) (defScope s_law_same) .none kV36 dc36 pm36 an36 cd36 ct36), sl36⟩)
    (c36 : PySem.W.codeIn K cd36 "_law_same" = true)
    (k36 : PySem.W.keepIn K (.ref f36) = true)
    {f37 : Addr}
    {od37 an37 : Option Addr} {sl37 : Array (Option Value)} {oc37 kV37 dc37 pm37 cd37 ct37 : Value}
    (a37 : PySem.W.nsIn K mainGlobals "_law_unlike" = some (some (.ref f37)))
    (l37 : K.lookup f37 = some ⟨oc37, od37, .func (PySem.W.fnOf "_law_unlike" "_law_unlike" (defArgs s_law_unlike) (defBody s_law_unlike) (defScope s_law_unlike) .none kV37 dc37 pm37 an37 cd37 ct37), sl37⟩)
    (c37 : PySem.W.codeIn K cd37 "_law_unlike" = true)
    (k37 : PySem.W.keepIn K (.ref f37) = true)
    {f38 : Addr}
    {od38 an38 : Option Addr} {sl38 : Array (Option Value)} {oc38 kV38 dc38 pm38 cd38 ct38 : Value}
    (a38 : PySem.W.nsIn K mainGlobals "_law_name" = some (some (.ref f38)))
    (l38 : K.lookup f38 = some ⟨oc38, od38, .func (PySem.W.fnOf "_law_name" "_law_name" (defArgs s_law_name) (defBody s_law_name) (defScope s_law_name) .none kV38 dc38 pm38 an38 cd38 ct38), sl38⟩)
    (c38 : PySem.W.codeIn K cd38 "_law_name" = true)
    (k38 : PySem.W.keepIn K (.ref f38) = true)
    {f39 : Addr}
    {od39 an39 : Option Addr} {sl39 : Array (Option Value)} {oc39 kV39 dc39 pm39 cd39 ct39 : Value}
    (a39 : PySem.W.nsIn K mainGlobals "_law_names" = some (some (.ref f39)))
    (l39 : K.lookup f39 = some ⟨oc39, od39, .func (PySem.W.fnOf "_law_names" "_law_names" (defArgs s_law_names) (defBody s_law_names) (defScope s_law_names) .none kV39 dc39 pm39 an39 cd39 ct39), sl39⟩)
    (c39 : PySem.W.codeIn K cd39 "_law_names" = true)
    (k39 : PySem.W.keepIn K (.ref f39) = true)
    {f40 : Addr}
    {od40 an40 : Option Addr} {sl40 : Array (Option Value)} {oc40 kV40 dc40 pm40 cd40 ct40 : Value}
    (a40 : PySem.W.nsIn K mainGlobals "_law_bad_name" = some (some (.ref f40)))
    (l40 : K.lookup f40 = some ⟨oc40, od40, .func (PySem.W.fnOf "_law_bad_name" "_law_bad_name" (defArgs s_law_bad_name) (defBody s_law_bad_name) (defScope s_law_bad_name) .none kV40 dc40 pm40 an40 cd40 ct40), sl40⟩)
    (c40 : PySem.W.codeIn K cd40 "_law_bad_name" = true)
    (k40 : PySem.W.keepIn K (.ref f40) = true)
    {f41 : Addr}
    {od41 an41 : Option Addr} {sl41 : Array (Option Value)} {oc41 kV41 dc41 pm41 cd41 ct41 : Value}
    (a41 : PySem.W.nsIn K mainGlobals "_law_stranger" = some (some (.ref f41)))
    (l41 : K.lookup f41 = some ⟨oc41, od41, .func (PySem.W.fnOf "_law_stranger" "_law_stranger" (defArgs s_law_stranger) (defBody s_law_stranger) (defScope s_law_stranger) .none kV41 dc41 pm41 an41 cd41 ct41), sl41⟩)
    (c41 : PySem.W.codeIn K cd41 "_law_stranger" = true)
    (k41 : PySem.W.keepIn K (.ref f41) = true)
    {f42 : Addr}
    {od42 an42 : Option Addr} {sl42 : Array (Option Value)} {oc42 kV42 dc42 pm42 cd42 ct42 : Value}
    (a42 : PySem.W.nsIn K mainGlobals "_law_fresh" = some (some (.ref f42)))
    (l42 : K.lookup f42 = some ⟨oc42, od42, .func (PySem.W.fnOf "_law_fresh" "_law_fresh" (defArgs s_law_fresh) (defBody s_law_fresh) (defScope s_law_fresh) .none kV42 dc42 pm42 an42 cd42 ct42), sl42⟩)
    (c42 : PySem.W.codeIn K cd42 "_law_fresh" = true)
    (k42 : PySem.W.keepIn K (.ref f42) = true)
    {f43 : Addr}
    {od43 an43 : Option Addr} {sl43 : Array (Option Value)} {oc43 kV43 dc43 pm43 cd43 ct43 : Value}
    (a43 : PySem.W.nsIn K mainGlobals "_law_row_fault" = some (some (.ref f43)))
    (l43 : K.lookup f43 = some ⟨oc43, od43, .func (PySem.W.fnOf "_law_row_fault" "_law_row_fault" (defArgs s_law_row_fault) (defBody s_law_row_fault) (defScope s_law_row_fault) .none kV43 dc43 pm43 an43 cd43 ct43), sl43⟩)
    (c43 : PySem.W.codeIn K cd43 "_law_row_fault" = true)
    (k43 : PySem.W.keepIn K (.ref f43) = true)
    {f44 : Addr}
    {od44 an44 : Option Addr} {sl44 : Array (Option Value)} {oc44 kV44 dc44 pm44 cd44 ct44 : Value}
    (a44 : PySem.W.nsIn K mainGlobals "_law_bent_row" = some (some (.ref f44)))
    (l44 : K.lookup f44 = some ⟨oc44, od44, .func (PySem.W.fnOf "_law_bent_row" "_law_bent_row" (defArgs s_law_bent_row) (defBody s_law_bent_row) (defScope s_law_bent_row) .none kV44 dc44 pm44 an44 cd44 ct44), sl44⟩)
    (c44 : PySem.W.codeIn K cd44 "_law_bent_row" = true)
    (k44 : PySem.W.keepIn K (.ref f44) = true)
    {f45 : Addr}
    {od45 an45 : Option Addr} {sl45 : Array (Option Value)} {oc45 kV45 dc45 pm45 cd45 ct45 : Value}
    (a45 : PySem.W.nsIn K mainGlobals "_law_any_row" = some (some (.ref f45)))
    (l45 : K.lookup f45 = some ⟨oc45, od45, .func (PySem.W.fnOf "_law_any_row" "_law_any_row" (defArgs s_law_any_row) (defBody s_law_any_row) (defScope s_law_any_row) .none kV45 dc45 pm45 an45 cd45 ct45), sl45⟩)
    (c45 : PySem.W.codeIn K cd45 "_law_any_row" = true)
    (k45 : PySem.W.keepIn K (.ref f45) = true)
    {f46 : Addr}
    {od46 an46 : Option Addr} {sl46 : Array (Option Value)} {oc46 kV46 dc46 pm46 cd46 ct46 : Value}
    (a46 : PySem.W.nsIn K mainGlobals "_law_rest" = some (some (.ref f46)))
    (l46 : K.lookup f46 = some ⟨oc46, od46, .func (PySem.W.fnOf "_law_rest" "_law_rest" (defArgs s_law_rest) (defBody s_law_rest) (defScope s_law_rest) .none kV46 dc46 pm46 an46 cd46 ct46), sl46⟩)
    (c46 : PySem.W.codeIn K cd46 "_law_rest" = true)
    (k46 : PySem.W.keepIn K (.ref f46) = true)
    {f47 : Addr}
    {od47 an47 : Option Addr} {sl47 : Array (Option Value)} {oc47 kV47 dc47 pm47 cd47 ct47 : Value}
    (a47 : PySem.W.nsIn K mainGlobals "_law_awake" = some (some (.ref f47)))
    (l47 : K.lookup f47 = some ⟨oc47, od47, .func (PySem.W.fnOf "_law_awake" "_law_awake" (defArgs s_law_awake) (defBody s_law_awake) (defScope s_law_awake) .none kV47 dc47 pm47 an47 cd47 ct47), sl47⟩)
    (c47 : PySem.W.codeIn K cd47 "_law_awake" = true)
    (k47 : PySem.W.keepIn K (.ref f47) = true)
    {f48 : Addr}
    {od48 an48 : Option Addr} {sl48 : Array (Option Value)} {oc48 kV48 dc48 pm48 cd48 ct48 : Value}
    (a48 : PySem.W.nsIn K mainGlobals "_law_world_line" = some (some (.ref f48)))
    (l48 : K.lookup f48 = some ⟨oc48, od48, .func (PySem.W.fnOf "_law_world_line" "_law_world_line" (defArgs s_law_world_line) (defBody s_law_world_line) (defScope s_law_world_line) .none kV48 dc48 pm48 an48 cd48 ct48), sl48⟩)
    (c48 : PySem.W.codeIn K cd48 "_law_world_line" = true)
    (k48 : PySem.W.keepIn K (.ref f48) = true)
    {f49 : Addr}
    {od49 an49 : Option Addr} {sl49 : Array (Option Value)} {oc49 kV49 dc49 pm49 cd49 ct49 : Value}
    (a49 : PySem.W.nsIn K mainGlobals "_law_bent_world_text" = some (some (.ref f49)))
    (l49 : K.lookup f49 = some ⟨oc49, od49, .func (PySem.W.fnOf "_law_bent_world_text" "_law_bent_world_text" (defArgs s_law_bent_world_text) (defBody s_law_bent_world_text) (defScope s_law_bent_world_text) .none kV49 dc49 pm49 an49 cd49 ct49), sl49⟩)
    (c49 : PySem.W.codeIn K cd49 "_law_bent_world_text" = true)
    (k49 : PySem.W.keepIn K (.ref f49) = true)
    {f50 : Addr}
    {od50 an50 : Option Addr} {sl50 : Array (Option Value)} {oc50 kV50 dc50 pm50 cd50 ct50 : Value}
    (a50 : PySem.W.nsIn K mainGlobals "_law_written" = some (some (.ref f50)))
    (l50 : K.lookup f50 = some ⟨oc50, od50, .func (PySem.W.fnOf "_law_written" "_law_written" (defArgs s_law_written) (defBody s_law_written) (defScope s_law_written) .none kV50 dc50 pm50 an50 cd50 ct50), sl50⟩)
    (c50 : PySem.W.codeIn K cd50 "_law_written" = true)
    (k50 : PySem.W.keepIn K (.ref f50) = true)
    {f51 : Addr}
    {od51 an51 : Option Addr} {sl51 : Array (Option Value)} {oc51 kV51 dc51 pm51 cd51 ct51 : Value}
    (a51 : PySem.W.nsIn K mainGlobals "_law_written_due" = some (some (.ref f51)))
    (l51 : K.lookup f51 = some ⟨oc51, od51, .func (PySem.W.fnOf "_law_written_due" "_law_written_due" (defArgs s_law_written_due) (defBody s_law_written_due) (defScope s_law_written_due) .none kV51 dc51 pm51 an51 cd51 ct51), sl51⟩)
    (c51 : PySem.W.codeIn K cd51 "_law_written_due" = true)
    (k51 : PySem.W.keepIn K (.ref f51) = true)
    {f52 : Addr}
    {od52 an52 : Option Addr} {sl52 : Array (Option Value)} {oc52 kV52 dc52 pm52 cd52 ct52 : Value}
    (a52 : PySem.W.nsIn K mainGlobals "_law_told" = some (some (.ref f52)))
    (l52 : K.lookup f52 = some ⟨oc52, od52, .func (PySem.W.fnOf "_law_told" "_law_told" (defArgs s_law_told) (defBody s_law_told) (defScope s_law_told) .none kV52 dc52 pm52 an52 cd52 ct52), sl52⟩)
    (c52 : PySem.W.codeIn K cd52 "_law_told" = true)
    (k52 : PySem.W.keepIn K (.ref f52) = true)
    {f53 : Addr}
    {od53 an53 : Option Addr} {sl53 : Array (Option Value)} {oc53 kV53 dc53 pm53 cd53 ct53 : Value}
    (a53 : PySem.W.nsIn K mainGlobals "_law_due" = some (some (.ref f53)))
    (l53 : K.lookup f53 = some ⟨oc53, od53, .func (PySem.W.fnOf "_law_due" "_law_due" (defArgs s_law_due) (defBody s_law_due) (defScope s_law_due) .none kV53 dc53 pm53 an53 cd53 ct53), sl53⟩)
    (c53 : PySem.W.codeIn K cd53 "_law_due" = true)
    (k53 : PySem.W.keepIn K (.ref f53) = true)
    {f54 : Addr}
    {od54 an54 : Option Addr} {sl54 : Array (Option Value)} {oc54 kV54 dc54 pm54 cd54 ct54 : Value}
    (a54 : PySem.W.nsIn K mainGlobals "_law_texts" = some (some (.ref f54)))
    (l54 : K.lookup f54 = some ⟨oc54, od54, .func (PySem.W.fnOf "_law_texts" "_law_texts" (defArgs s_law_texts) (defBody s_law_texts) (defScope s_law_texts) .none kV54 dc54 pm54 an54 cd54 ct54), sl54⟩)
    (c54 : PySem.W.codeIn K cd54 "_law_texts" = true)
    (k54 : PySem.W.keepIn K (.ref f54) = true)
    {f55 : Addr}
    {od55 an55 : Option Addr} {sl55 : Array (Option Value)} {oc55 kV55 dc55 pm55 cd55 ct55 : Value}
    (a55 : PySem.W.nsIn K mainGlobals "law" = some (some (.ref f55)))
    (l55 : K.lookup f55 = some ⟨oc55, od55, .func (PySem.W.fnOf "law" "law" (defArgs s_law) (defBody s_law) (defScope s_law) .none kV55 dc55 pm55 an55 cd55 ct55), sl55⟩)
    (c55 : PySem.W.codeIn K cd55 "law" = true)
    (k55 : PySem.W.keepIn K (.ref f55) = true)
    (z_all : PySem.W.nsIn K mainGlobals "all" = some none)
    (z_bool : PySem.W.nsIn K mainGlobals "bool" = some none)
    (z_enumerate : PySem.W.nsIn K mainGlobals "enumerate" = some none)
    (z_int : PySem.W.nsIn K mainGlobals "int" = some none)
    (z_isinstance : PySem.W.nsIn K mainGlobals "isinstance" = some none)
    (z_iter : PySem.W.nsIn K mainGlobals "iter" = some none)
    (z_len : PySem.W.nsIn K mainGlobals "len" = some none)
    (z_list : PySem.W.nsIn K mainGlobals "list" = some none)
    (z_range : PySem.W.nsIn K mainGlobals "range" = some none)
    (z_sorted : PySem.W.nsIn K mainGlobals "sorted" = some none)
    (z_str : PySem.W.nsIn K mainGlobals "str" = some none)
    (z_sum : PySem.W.nsIn K mainGlobals "sum" = some none)
    (z_tuple : PySem.W.nsIn K mainGlobals "tuple" = some none)
    {t_MOST_FOLK : Tok}
    (y_MOST_FOLK : PySem.W.nsIn K mainGlobals "MOST_FOLK" = some (some (Value.int 10 t_MOST_FOLK)))
    {t_MOST_NUMBER : Tok}
    (y_MOST_NUMBER : PySem.W.nsIn K mainGlobals "MOST_NUMBER" = some (some (Value.int 9999 t_MOST_NUMBER)))
    {t_MOST_WATCHES : Tok}
    (y_MOST_WATCHES : PySem.W.nsIn K mainGlobals "MOST_WATCHES" = some (some (Value.int 24 t_MOST_WATCHES)))
    {t_LETTERS : Tok}
    (y_LETTERS : PySem.W.nsIn K mainGlobals "_LETTERS" = some (some (Value.str "abcdefghijklmnopqrstuvwxyz" t_LETTERS)))
    {t_LETTERS_AND_DIGITS : Tok}
    (y_LETTERS_AND_DIGITS : PySem.W.nsIn K mainGlobals "_LETTERS_AND_DIGITS" = some (some (Value.str "abcdefghijklmnopqrstuvwxyz0123456789" t_LETTERS_AND_DIGITS)))
    {t_LONGEST_NAME : Tok}
    (y_LONGEST_NAME : PySem.W.nsIn K mainGlobals "_LONGEST_NAME" = some (some (Value.int 8 t_LONGEST_NAME)))
    {t_NOBODY : Tok}
    (y_NOBODY : PySem.W.nsIn K mainGlobals "_NOBODY" = some (some (Value.str "-" t_NOBODY)))
    : ∃ fd : FuncData, (∀ (s : Shared) (v : Value), BindsTo s fd ⟨[v], []⟩ [("script", v)]) ∧ ∀ base : Heap, K.In base → base.Ns mainGlobals mg → FnOk l.prog w K mg base CX0 9 fa fd ["script"] (sp_law K) := by
  have e := hfa.symm.trans (PySem.W.mg_of X G a55)
  cases e
  have T : Txt K mg := ⟨PySem.W.mg_none_of X G z_all, PySem.W.mg_none_of X G z_bool, PySem.W.mg_none_of X G z_enumerate, PySem.W.mg_none_of X G z_int, PySem.W.mg_none_of X G z_isinstance, PySem.W.mg_none_of X G z_iter, PySem.W.mg_none_of X G z_len, PySem.W.mg_none_of X G z_list, PySem.W.mg_none_of X G z_range, PySem.W.mg_none_of X G z_sorted, PySem.W.mg_none_of X G z_str, PySem.W.mg_none_of X G z_sum, PySem.W.mg_none_of X G z_tuple, ⟨_, PySem.W.mg_of X G y_MOST_FOLK, ⟨_, rfl⟩⟩, ⟨_, PySem.W.mg_of X G y_MOST_NUMBER, ⟨_, rfl⟩⟩, ⟨_, PySem.W.mg_of X G y_MOST_WATCHES, ⟨_, rfl⟩⟩, ⟨_, PySem.W.mg_of X G y_LETTERS, ⟨_, rfl⟩⟩, ⟨_, PySem.W.mg_of X G y_LETTERS_AND_DIGITS, ⟨_, rfl⟩⟩, ⟨_, PySem.W.mg_of X G y_LONGEST_NAME, ⟨_, rfl⟩⟩, ⟨_, PySem.W.mg_of X G y_NOBODY, ⟨_, rfl⟩⟩⟩
  have e_Web := gad_of a_Web
  have X_Web : Ci K mg "Web" ["_folk", "_names", "_watches", "_pulls"] := ⟨by rw [e_Web]; exact PySem.W.mg_of X G a_Web, by rw [e_Web]; exact ⟨pg_Web, hd_Web, po_Web, sa_Web⟩, fun f hf => by rw [e_Web]; (simp only [List.mem_cons, List.not_mem_nil, or_false] at hf); rcases hf with rfl | rfl | rfl | rfl; exact no_Web_0; exact no_Web_1; exact no_Web_2; exact no_Web_3⟩
  have e_DrowseError := gad_of a_DrowseError
  have Y_DrowseError : Ee K mg "DrowseError" := ⟨by rw [e_DrowseError]; exact PySem.W.mg_of X G a_DrowseError, by rw [e_DrowseError]; exact ⟨ga_DrowseError, gg_DrowseError, sb_DrowseError, hd_DrowseError, cl_DrowseError, ex_gc, ex_tc, mr_DrowseError⟩, by rw [e_DrowseError]; exact ⟨ga_DrowseError, gg_DrowseError, sb_DrowseError, hd_DrowseError⟩⟩
  have e_BadName := gad_of a_BadName
  have Y_BadName : Ee K mg "BadName" := ⟨by rw [e_BadName]; exact PySem.W.mg_of X G a_BadName, by rw [e_BadName]; exact ⟨ga_BadName, gg_BadName, sb_BadName, hd_BadName, cl_BadName, ex_gc, ex_tc, mr_BadName⟩, by rw [e_BadName]; exact ⟨ga_BadName, gg_BadName, sb_BadName, hd_BadName⟩⟩
  have e_BadNumber := gad_of a_BadNumber
  have Y_BadNumber : Ee K mg "BadNumber" := ⟨by rw [e_BadNumber]; exact PySem.W.mg_of X G a_BadNumber, by rw [e_BadNumber]; exact ⟨ga_BadNumber, gg_BadNumber, sb_BadNumber, hd_BadNumber, cl_BadNumber, ex_gc, ex_tc, mr_BadNumber⟩, by rw [e_BadNumber]; exact ⟨ga_BadNumber, gg_BadNumber, sb_BadNumber, hd_BadNumber⟩⟩
  have e_BadCount := gad_of a_BadCount
  have Y_BadCount : Ee K mg "BadCount" := ⟨by rw [e_BadCount]; exact PySem.W.mg_of X G a_BadCount, by rw [e_BadCount]; exact ⟨ga_BadCount, gg_BadCount, sb_BadCount, hd_BadCount, cl_BadCount, ex_gc, ex_tc, mr_BadCount⟩, by rw [e_BadCount]; exact ⟨ga_BadCount, gg_BadCount, sb_BadCount, hd_BadCount⟩⟩
  have e_Repeated := gad_of a_Repeated
  have Y_Repeated : Ee K mg "Repeated" := ⟨by rw [e_Repeated]; exact PySem.W.mg_of X G a_Repeated, by rw [e_Repeated]; exact ⟨ga_Repeated, gg_Repeated, sb_Repeated, hd_Repeated, cl_Repeated, ex_gc, ex_tc, mr_Repeated⟩, by rw [e_Repeated]; exact ⟨ga_Repeated, gg_Repeated, sb_Repeated, hd_Repeated⟩⟩
  have e_UnknownFolk := gad_of a_UnknownFolk
  have Y_UnknownFolk : Ee K mg "UnknownFolk" := ⟨by rw [e_UnknownFolk]; exact PySem.W.mg_of X G a_UnknownFolk, by rw [e_UnknownFolk]; exact ⟨ga_UnknownFolk, gg_UnknownFolk, sb_UnknownFolk, hd_UnknownFolk, cl_UnknownFolk, ex_gc, ex_tc, mr_UnknownFolk⟩, by rw [e_UnknownFolk]; exact ⟨ga_UnknownFolk, gg_UnknownFolk, sb_UnknownFolk, hd_UnknownFolk⟩⟩
  have e_SelfWatch := gad_of a_SelfWatch
  have Y_SelfWatch : Ee K mg "SelfWatch" := ⟨by rw [e_SelfWatch]; exact PySem.W.mg_of X G a_SelfWatch, by rw [e_SelfWatch]; exact ⟨ga_SelfWatch, gg_SelfWatch, sb_SelfWatch, hd_SelfWatch, cl_SelfWatch, ex_gc, ex_tc, mr_SelfWatch⟩, by rw [e_SelfWatch]; exact ⟨ga_SelfWatch, gg_SelfWatch, sb_SelfWatch, hd_SelfWatch⟩⟩
  have e_BadText := gad_of a_BadText
  have Y_BadText : Ee K mg "BadText" := ⟨by rw [e_BadText]; exact PySem.W.mg_of X G a_BadText, by rw [e_BadText]; exact ⟨ga_BadText, gg_BadText, sb_BadText, hd_BadText, cl_BadText, ex_gc, ex_tc, mr_BadText⟩, by rw [e_BadText]; exact ⟨ga_BadText, gg_BadText, sb_BadText, hd_BadText⟩⟩
  have e_BorderWatch := gad_of a_BorderWatch
  have Y_BorderWatch : Ee K mg "BorderWatch" := ⟨by rw [e_BorderWatch]; exact PySem.W.mg_of X G a_BorderWatch, by rw [e_BorderWatch]; exact ⟨ga_BorderWatch, gg_BorderWatch, sb_BorderWatch, hd_BorderWatch, cl_BorderWatch, ex_gc, ex_tc, mr_BorderWatch⟩, by rw [e_BorderWatch]; exact ⟨ga_BorderWatch, gg_BorderWatch, sb_BorderWatch, hd_BorderWatch⟩⟩
  have O_BadName : OexC K A_BadName := ⟨⟨_, _, _, _, _, _, _, _, _, _, _, _, _, _, _, xL_BadName, rv_BadName⟩, sa_BadName, sb_BadName, ty_BadName, kc_BadName⟩
  have X_BadName : Dx K mg "BadName" (gad K "BadName") fI_BadName ["name"] := ⟨Y_BadName.g, by rw [e_BadName]; exact O_BadName, by rw [e_BadName]; exact iC_BadName, tI_BadName, fun f hf => by rw [e_BadName]; (simp only [List.mem_cons, List.not_mem_nil, or_false] at hf); rcases hf with rfl; exact no_BadName_0⟩
  have O_BadNumber : OexC K A_BadNumber := ⟨⟨_, _, _, _, _, _, _, _, _, _, _, _, _, _, _, xL_BadNumber, rv_BadNumber⟩, sa_BadNumber, sb_BadNumber, ty_BadNumber, kc_BadNumber⟩
  have X_BadNumber : Dx K mg "BadNumber" (gad K "BadNumber") fI_BadNumber ["value"] := ⟨Y_BadNumber.g, by rw [e_BadNumber]; exact O_BadNumber, by rw [e_BadNumber]; exact iC_BadNumber, tI_BadNumber, fun f hf => by rw [e_BadNumber]; (simp only [List.mem_cons, List.not_mem_nil, or_false] at hf); rcases hf with rfl; exact no_BadNumber_0⟩
  have O_BadCount : OexC K A_BadCount := ⟨⟨_, _, _, _, _, _, _, _, _, _, _, _, _, _, _, xL_BadCount, rv_BadCount⟩, sa_BadCount, sb_BadCount, ty_BadCount, kc_BadCount⟩
  have X_BadCount : Dx K mg "BadCount" (gad K "BadCount") fI_BadCount ["what", "number"] := ⟨Y_BadCount.g, by rw [e_BadCount]; exact O_BadCount, by rw [e_BadCount]; exact iC_BadCount, tI_BadCount, fun f hf => by rw [e_BadCount]; (simp only [List.mem_cons, List.not_mem_nil, or_false] at hf); rcases hf with rfl | rfl; exact no_BadCount_0; exact no_BadCount_1⟩
  have O_Repeated : OexC K A_Repeated := ⟨⟨_, _, _, _, _, _, _, _, _, _, _, _, _, _, _, xL_Repeated, rv_Repeated⟩, sa_Repeated, sb_Repeated, ty_Repeated, kc_Repeated⟩
  have X_Repeated : Dx K mg "Repeated" (gad K "Repeated") fI_Repeated ["value"] := ⟨Y_Repeated.g, by rw [e_Repeated]; exact O_Repeated, by rw [e_Repeated]; exact iC_Repeated, tI_Repeated, fun f hf => by rw [e_Repeated]; (simp only [List.mem_cons, List.not_mem_nil, or_false] at hf); rcases hf with rfl; exact no_Repeated_0⟩
  have O_UnknownFolk : OexC K A_UnknownFolk := ⟨⟨_, _, _, _, _, _, _, _, _, _, _, _, _, _, _, xL_UnknownFolk, rv_UnknownFolk⟩, sa_UnknownFolk, sb_UnknownFolk, ty_UnknownFolk, kc_UnknownFolk⟩
  have X_UnknownFolk : Dx K mg "UnknownFolk" (gad K "UnknownFolk") fI_UnknownFolk ["name"] := ⟨Y_UnknownFolk.g, by rw [e_UnknownFolk]; exact O_UnknownFolk, by rw [e_UnknownFolk]; exact iC_UnknownFolk, tI_UnknownFolk, fun f hf => by rw [e_UnknownFolk]; (simp only [List.mem_cons, List.not_mem_nil, or_false] at hf); rcases hf with rfl; exact no_UnknownFolk_0⟩
  have O_SelfWatch : OexC K A_SelfWatch := ⟨⟨_, _, _, _, _, _, _, _, _, _, _, _, _, _, _, xL_SelfWatch, rv_SelfWatch⟩, sa_SelfWatch, sb_SelfWatch, ty_SelfWatch, kc_SelfWatch⟩
  have X_SelfWatch : Dx K mg "SelfWatch" (gad K "SelfWatch") fI_SelfWatch ["name"] := ⟨Y_SelfWatch.g, by rw [e_SelfWatch]; exact O_SelfWatch, by rw [e_SelfWatch]; exact iC_SelfWatch, tI_SelfWatch, fun f hf => by rw [e_SelfWatch]; (simp only [List.mem_cons, List.not_mem_nil, or_false] at hf); rcases hf with rfl; exact no_SelfWatch_0⟩
  have O_BadText : OexC K A_BadText := ⟨⟨_, _, _, _, _, _, _, _, _, _, _, _, _, _, _, xL_BadText, rv_BadText⟩, sa_BadText, sb_BadText, ty_BadText, kc_BadText⟩
  have X_BadText : Dx K mg "BadText" (gad K "BadText") fI_BadText ["line"] := ⟨Y_BadText.g, by rw [e_BadText]; exact O_BadText, by rw [e_BadText]; exact iC_BadText, tI_BadText, fun f hf => by rw [e_BadText]; (simp only [List.mem_cons, List.not_mem_nil, or_false] at hf); rcases hf with rfl; exact no_BadText_0⟩
  have O_BorderWatch : OexC K A_BorderWatch := ⟨⟨_, _, _, _, _, _, _, _, _, _, _, _, _, _, _, xL_BorderWatch, rv_BorderWatch⟩, sa_BorderWatch, sb_BorderWatch, ty_BorderWatch, kc_BorderWatch⟩
  have X_BorderWatch : Dx K mg "BorderWatch" (gad K "BorderWatch") fI_BorderWatch ["watcher", "watched"] := ⟨Y_BorderWatch.g, by rw [e_BorderWatch]; exact O_BorderWatch, by rw [e_BorderWatch]; exact iC_BorderWatch, tI_BorderWatch, fun f hf => by rw [e_BorderWatch]; (simp only [List.mem_cons, List.not_mem_nil, or_false] at hf); rcases hf with rfl | rfl; exact no_BorderWatch_0; exact no_BorderWatch_1⟩
  have Kt : Ek K := ⟨trivial, by rw [e_BadName, e_DrowseError]; exact PySem.W.exm_ref sb_DrowseError hd_DrowseError ty_DrowseError sub_BadName_DrowseError,
    by rw [e_BadName, e_UnknownFolk]; exact kit_ref sub_BadName_UnknownFolk ic_UnknownFolk ty_UnknownFolk ss_UnknownFolk,
    by rw [e_BadName, e_Repeated]; exact kit_ref sub_BadName_Repeated ic_Repeated ty_Repeated ss_Repeated,
    by rw [e_BadName, e_BadText]; exact kit_ref sub_BadName_BadText ic_BadText ty_BadText ss_BadText,
    by rw [e_BadName]; exact kit_ref ss_BadName ic_BadName ty_BadName ss_BadName,
    by rw [e_BadNumber, e_DrowseError]; exact PySem.W.exm_ref sb_DrowseError hd_DrowseError ty_DrowseError sub_BadNumber_DrowseError,
    by rw [e_BadNumber, e_UnknownFolk]; exact kit_ref sub_BadNumber_UnknownFolk ic_UnknownFolk ty_UnknownFolk ss_UnknownFolk,
    by rw [e_BadNumber, e_Repeated]; exact kit_ref sub_BadNumber_Repeated ic_Repeated ty_Repeated ss_Repeated,
    by rw [e_BadNumber, e_BadText]; exact kit_ref sub_BadNumber_BadText ic_BadText ty_BadText ss_BadText,
    by rw [e_BadNumber, e_BadName]; exact kit_ref sub_BadNumber_BadName ic_BadName ty_BadName ss_BadName,
    by rw [e_BadCount, e_DrowseError]; exact PySem.W.exm_ref sb_DrowseError hd_DrowseError ty_DrowseError sub_BadCount_DrowseError,
    by rw [e_BadCount, e_UnknownFolk]; exact kit_ref sub_BadCount_UnknownFolk ic_UnknownFolk ty_UnknownFolk ss_UnknownFolk,
    by rw [e_BadCount, e_Repeated]; exact kit_ref sub_BadCount_Repeated ic_Repeated ty_Repeated ss_Repeated,
    by rw [e_BadCount, e_BadText]; exact kit_ref sub_BadCount_BadText ic_BadText ty_BadText ss_BadText,
    by rw [e_BadCount, e_BadName]; exact kit_ref sub_BadCount_BadName ic_BadName ty_BadName ss_BadName,
    by rw [e_Repeated, e_DrowseError]; exact PySem.W.exm_ref sb_DrowseError hd_DrowseError ty_DrowseError sub_Repeated_DrowseError,
    by rw [e_Repeated, e_UnknownFolk]; exact kit_ref sub_Repeated_UnknownFolk ic_UnknownFolk ty_UnknownFolk ss_UnknownFolk,
    by rw [e_Repeated]; exact kit_ref ss_Repeated ic_Repeated ty_Repeated ss_Repeated,
    by rw [e_Repeated, e_BadText]; exact kit_ref sub_Repeated_BadText ic_BadText ty_BadText ss_BadText,
    by rw [e_Repeated, e_BadName]; exact kit_ref sub_Repeated_BadName ic_BadName ty_BadName ss_BadName,
    by rw [e_UnknownFolk, e_DrowseError]; exact PySem.W.exm_ref sb_DrowseError hd_DrowseError ty_DrowseError sub_UnknownFolk_DrowseError,
    by rw [e_UnknownFolk]; exact kit_ref ss_UnknownFolk ic_UnknownFolk ty_UnknownFolk ss_UnknownFolk,
    by rw [e_UnknownFolk, e_Repeated]; exact kit_ref sub_UnknownFolk_Repeated ic_Repeated ty_Repeated ss_Repeated,
    by rw [e_UnknownFolk, e_BadText]; exact kit_ref sub_UnknownFolk_BadText ic_BadText ty_BadText ss_BadText,
    by rw [e_UnknownFolk, e_BadName]; exact kit_ref sub_UnknownFolk_BadName ic_BadName ty_BadName ss_BadName,
    by rw [e_SelfWatch, e_DrowseError]; exact PySem.W.exm_ref sb_DrowseError hd_DrowseError ty_DrowseError sub_SelfWatch_DrowseError,
    by rw [e_SelfWatch, e_UnknownFolk]; exact kit_ref sub_SelfWatch_UnknownFolk ic_UnknownFolk ty_UnknownFolk ss_UnknownFolk,
    by rw [e_SelfWatch, e_Repeated]; exact kit_ref sub_SelfWatch_Repeated ic_Repeated ty_Repeated ss_Repeated,
    by rw [e_SelfWatch, e_BadText]; exact kit_ref sub_SelfWatch_BadText ic_BadText ty_BadText ss_BadText,
    by rw [e_SelfWatch, e_BadName]; exact kit_ref sub_SelfWatch_BadName ic_BadName ty_BadName ss_BadName,
    by rw [e_BadText, e_DrowseError]; exact PySem.W.exm_ref sb_DrowseError hd_DrowseError ty_DrowseError sub_BadText_DrowseError,
    by rw [e_BadText, e_UnknownFolk]; exact kit_ref sub_BadText_UnknownFolk ic_UnknownFolk ty_UnknownFolk ss_UnknownFolk,
    by rw [e_BadText, e_Repeated]; exact kit_ref sub_BadText_Repeated ic_Repeated ty_Repeated ss_Repeated,
    by rw [e_BadText]; exact kit_ref ss_BadText ic_BadText ty_BadText ss_BadText,
    by rw [e_BadText, e_BadName]; exact kit_ref sub_BadText_BadName ic_BadName ty_BadName ss_BadName,
    by rw [e_BorderWatch, e_DrowseError]; exact PySem.W.exm_ref sb_DrowseError hd_DrowseError ty_DrowseError sub_BorderWatch_DrowseError,
    by rw [e_BorderWatch, e_UnknownFolk]; exact kit_ref sub_BorderWatch_UnknownFolk ic_UnknownFolk ty_UnknownFolk ss_UnknownFolk,
    by rw [e_BorderWatch, e_Repeated]; exact kit_ref sub_BorderWatch_Repeated ic_Repeated ty_Repeated ss_Repeated,
    by rw [e_BorderWatch, e_BadText]; exact kit_ref sub_BorderWatch_BadText ic_BadText ty_BadText ss_BadText,
    by rw [e_BorderWatch, e_BadName]; exact kit_ref sub_BorderWatch_BadName ic_BadName ty_BadName ss_BadName⟩
  have F0 := fun_mk (st := s_plain) l0 c0 k0
  have b0 := F0.binds (ps := p_plain) fun _ _ _ _ _ _ us hl => match us, hl with | [_], _ => rfl
  have D_plain : Dn K mg "plain" s_plain p_plain _ _ := ⟨F0, b0, PySem.W.mg_of X G a0⟩
  have F1 := fun_mk (st := s_BadName__init) l1 c1 k1
  have b1 := F1.binds (ps := p_BadName__init) fun _ _ _ _ _ _ us hl => match us, hl with | [_, _], _ => rfl
  have D_BadName__init : Dm K "__init__" "BadName.__init__" s_BadName__init p_BadName__init _ _ := ⟨F1, b1⟩
  have F2 := fun_mk (st := s_BadNumber__init) l2 c2 k2
  have b2 := F2.binds (ps := p_BadNumber__init) fun _ _ _ _ _ _ us hl => match us, hl with | [_, _], _ => rfl
  have D_BadNumber__init : Dm K "__init__" "BadNumber.__init__" s_BadNumber__init p_BadNumber__init _ _ := ⟨F2, b2⟩
  have F3 := fun_mk (st := s_BadCount__init) l3 c3 k3
  have b3 := F3.binds (ps := p_BadCount__init) fun _ _ _ _ _ _ us hl => match us, hl with | [_, _, _], _ => rfl
  have D_BadCount__init : Dm K "__init__" "BadCount.__init__" s_BadCount__init p_BadCount__init _ _ := ⟨F3, b3⟩
  have F4 := fun_mk (st := s_Repeated__init) l4 c4 k4
  have b4 := F4.binds (ps := p_Repeated__init) fun _ _ _ _ _ _ us hl => match us, hl with | [_, _], _ => rfl
  have D_Repeated__init : Dm K "__init__" "Repeated.__init__" s_Repeated__init p_Repeated__init _ _ := ⟨F4, b4⟩
  have F5 := fun_mk (st := s_UnknownFolk__init) l5 c5 k5
  have b5 := F5.binds (ps := p_UnknownFolk__init) fun _ _ _ _ _ _ us hl => match us, hl with | [_, _], _ => rfl
  have D_UnknownFolk__init : Dm K "__init__" "UnknownFolk.__init__" s_UnknownFolk__init p_UnknownFolk__init _ _ := ⟨F5, b5⟩
  have F6 := fun_mk (st := s_SelfWatch__init) l6 c6 k6
  have b6 := F6.binds (ps := p_SelfWatch__init) fun _ _ _ _ _ _ us hl => match us, hl with | [_, _], _ => rfl
  have D_SelfWatch__init : Dm K "__init__" "SelfWatch.__init__" s_SelfWatch__init p_SelfWatch__init _ _ := ⟨F6, b6⟩
  have F7 := fun_mk (st := s_BadText__init) l7 c7 k7
  have b7 := F7.binds (ps := p_BadText__init) fun _ _ _ _ _ _ us hl => match us, hl with | [_, _], _ => rfl
  have D_BadText__init : Dm K "__init__" "BadText.__init__" s_BadText__init p_BadText__init _ _ := ⟨F7, b7⟩
  have F8 := fun_mk (st := s_BorderWatch__init) l8 c8 k8
  have b8 := F8.binds (ps := p_BorderWatch__init) fun _ _ _ _ _ _ us hl => match us, hl with | [_, _, _], _ => rfl
  have D_BorderWatch__init : Dm K "__init__" "BorderWatch.__init__" s_BorderWatch__init p_BorderWatch__init _ _ := ⟨F8, b8⟩
  have F9 := fun_mk (st := s_is_name) l9 c9 k9
  have b9 := F9.binds (ps := p_is_name) fun _ _ _ _ _ _ us hl => match us, hl with | [_], _ => rfl
  have D_is_name : Dn K mg "is_name" s_is_name p_is_name _ _ := ⟨F9, b9, PySem.W.mg_of X G a9⟩
  have F10 := fun_mk (st := s_is_number) l10 c10 k10
  have b10 := F10.binds (ps := p_is_number) fun _ _ _ _ _ _ us hl => match us, hl with | [_, _, _], _ => rfl
  have D_is_number : Dn K mg "is_number" s_is_number p_is_number _ _ := ⟨F10, b10, PySem.W.mg_of X G a10⟩
  have F11 := fun_mk (st := s_check_number) l11 c11 k11
  have b11 := F11.binds (ps := p_check_number) fun _ _ _ _ _ _ us hl => match us, hl with | [_, _, _], _ => rfl
  have D_check_number : Dn K mg "check_number" s_check_number p_check_number _ _ := ⟨F11, b11, PySem.W.mg_of X G a11⟩
  have F12 := fun_mk (st := s_check_count) l12 c12 k12
  have b12 := F12.binds (ps := p_check_count) fun _ _ _ _ _ _ us hl => match us, hl with | [_, _, _, _], _ => rfl
  have D_check_count : Dn K mg "check_count" s_check_count p_check_count _ _ := ⟨F12, b12, PySem.W.mg_of X G a12⟩
  have F13 := fun_mk (st := s_check_new_name) l13 c13 k13
  have b13 := F13.binds (ps := p_check_new_name) fun _ _ _ _ _ _ us hl => match us, hl with | [_], _ => rfl
  have D_check_new_name : Dn K mg "check_new_name" s_check_new_name p_check_new_name _ _ := ⟨F13, b13, PySem.W.mg_of X G a13⟩
  have F14 := fun_mk (st := s_place_in) l14 c14 k14
  have b14 := F14.binds (ps := p_place_in) fun _ _ _ _ _ _ us hl => match us, hl with | [_, _], _ => rfl
  have D_place_in : Dn K mg "place_in" s_place_in p_place_in _ _ := ⟨F14, b14, PySem.W.mg_of X G a14⟩
  have F15 := fun_mk (st := s_mask_of) l15 c15 k15
  have b15 := F15.binds (ps := p_mask_of) fun _ _ _ _ _ _ us hl => match us, hl with | [_, _], _ => rfl
  have D_mask_of : Dn K mg "mask_of" s_mask_of p_mask_of _ _ := ⟨F15, b15, PySem.W.mg_of X G a15⟩
  have F16 := fun_mk (st := s_positions) l16 c16 k16
  have b16 := F16.binds (ps := p_positions) fun _ _ _ _ _ _ us hl => match us, hl with | [_], _ => rfl
  have D_positions : Dn K mg "positions" s_positions p_positions _ _ := ⟨F16, b16, PySem.W.mg_of X G a16⟩
  have F17 := fun_mk (st := s_tell) l17 c17 k17
  have b17 := F17.binds (ps := p_tell) fun _ _ _ _ _ _ us hl => match us, hl with | [_, _], _ => rfl
  have D_tell : Dn K mg "tell" s_tell p_tell _ _ := ⟨F17, b17, PySem.W.mg_of X G a17⟩
  have F18 := fun_mk (st := s_examined_folk) l18 c18 k18
  have b18 := F18.binds (ps := p_examined_folk) fun _ _ _ _ _ _ us hl => match us, hl with | [_, _], _ => rfl
  have D_examined_folk : Dn K mg "examined_folk" s_examined_folk p_examined_folk _ _ := ⟨F18, b18, PySem.W.mg_of X G a18⟩
  have F19 := fun_mk (st := s_examined_watches) l19 c19 k19
  have b19 := F19.binds (ps := p_examined_watches) fun _ _ _ _ _ _ us hl => match us, hl with | [_, _, _], _ => rfl
  have D_examined_watches : Dn K mg "examined_watches" s_examined_watches p_examined_watches _ _ := ⟨F19, b19, PySem.W.mg_of X G a19⟩
  have F20 := fun_mk (st := s_all_pulls) l20 c20 k20
  have b20 := F20.binds (ps := p_all_pulls) fun _ _ _ _ _ _ us hl => match us, hl with | [_, _], _ => rfl
  have D_all_pulls : Dn K mg "all_pulls" s_all_pulls p_all_pulls _ _ := ⟨F20, b20, PySem.W.mg_of X G a20⟩
  have F21 := dw_mk (st := s_Web__init) (dvs := [V.ref td21]) l21 c21 k21 lT21 (.cons rfl .nil) (by simp)
  have b21 := dw_binds (ps := p_Web__init) F21 3 1 (by simp) rfl rfl fun _ _ _ _ _ _ _ us its hl hl2 => match us, hl, its, hl2 with | [_, _, _], _, [_], _ => ⟨_, rfl, rfl⟩
  have D_Web__init : Dw K "__init__" "Web.__init__" s_Web__init [V.ref td21] p_Web__init _ _ := ⟨F21, b21⟩
  have E_Web__init : ∃ t, V.ref td21 = .ref t ∧ ∀ H', SqT K H' t [] := ⟨_, rfl, fun H' => sqT_written ld21 H'⟩
  have B1_Web__init := F21.binds1 (ps := p_Web__init) 2 0 (by simp) rfl fun _ _ _ _ _ _ _ us its hl hl2 => match us, hl, its, hl2 with | [_, _], _, [_], _ => ⟨_, rfl, rfl⟩
  have Mk_Web : Mk K (gad K "Web") f21 := by rw [e_Web]; exact ⟨mk_Web, a21, n21, kc_Web⟩
  have F22 := fun_mk (st := s_Web_names) l22 c22 k22
  have b22 := F22.binds (ps := p_Web_names) fun _ _ _ _ _ _ us hl => match us, hl with | [_], _ => rfl
  have D_Web_names : Dm K "names" "Web.names" s_Web_names p_Web_names _ _ := ⟨F22, b22⟩
  have P_Web_names : PropOf K (gad K "Web") "names" pp22 f22 := by rw [e_Web]; exact ⟨a22, g22, t22, ⟨_, r22⟩⟩
  have F23 := fun_mk (st := s_Web__contains) l23 c23 k23
  have b23 := F23.binds (ps := p_Web__contains) fun _ _ _ _ _ _ us hl => match us, hl with | [_, _], _ => rfl
  have D_Web__contains : Dm K "__contains__" "Web.__contains__" s_Web__contains p_Web__contains _ _ := ⟨F23, b23⟩
  have M_Web__contains : Meth K (gad K "Web") "__contains__" f23 := by rw [e_Web]; exact ⟨a23, n23, k23⟩
  have F24 := fun_mk (st := s_world_text) l24 c24 k24
  have b24 := F24.binds (ps := p_world_text) fun _ _ _ _ _ _ us hl => match us, hl with | [_, _], _ => rfl
  have D_world_text : Dn K mg "world_text" s_world_text p_world_text _ _ := ⟨F24, b24, PySem.W.mg_of X G a24⟩
  have F25 := fun_mk (st := s_read_world) l25 c25 k25
  have b25 := F25.binds (ps := p_read_world) fun _ _ _ _ _ _ us hl => match us, hl with | [_, _], _ => rfl
  have D_read_world : Dn K mg "read_world" s_read_world p_read_world _ _ := ⟨F25, b25, PySem.W.mg_of X G a25⟩
  have F26 := fun_mk (st := s_law_store) l26 c26 k26
  have b26 := F26.binds (ps := p_law_store) fun _ _ _ _ _ _ us hl => match us, hl with | [_], _ => rfl
  have D_law_store : Dn K mg "_law_store" s_law_store p_law_store _ _ := ⟨F26, b26, PySem.W.mg_of X G a26⟩
  have F27 := fun_mk (st := s_law_next) l27 c27 k27
  have b27 := F27.binds (ps := p_law_next) fun _ _ _ _ _ _ us hl => match us, hl with | [_], _ => rfl
  have D_law_next : Dn K mg "_law_next" s_law_next p_law_next _ _ := ⟨F27, b27, PySem.W.mg_of X G a27⟩
  have F28 := fun_mk (st := s_law_raw) l28 c28 k28
  have b28 := F28.binds (ps := p_law_raw) fun _ _ _ _ _ _ us hl => match us, hl with | [_], _ => rfl
  have D_law_raw : Dn K mg "_law_raw" s_law_raw p_law_raw _ _ := ⟨F28, b28, PySem.W.mg_of X G a28⟩
  have F29 := fun_mk (st := s_law_take) l29 c29 k29
  have b29 := F29.binds (ps := p_law_take) fun _ _ _ _ _ _ us hl => match us, hl with | [_, _], _ => rfl
  have D_law_take : Dn K mg "_law_take" s_law_take p_law_take _ _ := ⟨F29, b29, PySem.W.mg_of X G a29⟩
  have F30 := fun_mk (st := s_law_some) l30 c30 k30
  have b30 := F30.binds (ps := p_law_some) fun _ _ _ _ _ _ us hl => match us, hl with | [_, _, _], _ => rfl
  have D_law_some : Dn K mg "_law_some" s_law_some p_law_some _ _ := ⟨F30, b30, PySem.W.mg_of X G a30⟩
  have F31 := fun_mk (st := s_law_size) l31 c31 k31
  have b31 := F31.binds (ps := p_law_size) fun _ _ _ _ _ _ us hl => match us, hl with | [_, _, _, _], _ => rfl
  have D_law_size : Dn K mg "_law_size" s_law_size p_law_size _ _ := ⟨F31, b31, PySem.W.mg_of X G a31⟩
  have F32 := fun_mk (st := s_law_pick) l32 c32 k32
  have b32 := F32.binds (ps := p_law_pick) fun _ _ _ _ _ _ us hl => match us, hl with | [_, _], _ => rfl
  have D_law_pick : Dn K mg "_law_pick" s_law_pick p_law_pick _ _ := ⟨F32, b32, PySem.W.mg_of X G a32⟩
  have F33 := fun_mk (st := s_law_mixed) l33 c33 k33
  have b33 := F33.binds (ps := p_law_mixed) fun _ _ _ _ _ _ us hl => match us, hl with | [_, _], _ => rfl
  have D_law_mixed : Dn K mg "_law_mixed" s_law_mixed p_law_mixed _ _ := ⟨F33, b33, PySem.W.mg_of X G a33⟩
  have F34 := fun_mk (st := s_law_some_of) l34 c34 k34
  have b34 := F34.binds (ps := p_law_some_of) fun _ _ _ _ _ _ us hl => match us, hl with | [_, _], _ => rfl
  have D_law_some_of : Dn K mg "_law_some_of" s_law_some_of p_law_some_of _ _ := ⟨F34, b34, PySem.W.mg_of X G a34⟩
  have F35 := fun_mk (st := s_law_loose) l35 c35 k35
  have b35 := F35.binds (ps := p_law_loose) fun _ _ _ _ _ _ us hl => match us, hl with | [_, _], _ => rfl
  have D_law_loose : Dn K mg "_law_loose" s_law_loose p_law_loose _ _ := ⟨F35, b35, PySem.W.mg_of X G a35⟩
  have F36 := fun_mk (st := s_law_same) l36 c36 k36
  have b36 := F36.binds (ps := p_law_same) fun _ _ _ _ _ _ us hl => match us, hl with | [_, _], _ => rfl
  have D_law_same : Dn K mg "_law_same" s_law_same p_law_same _ _ := ⟨F36, b36, PySem.W.mg_of X G a36⟩
  have F37 := fun_mk (st := s_law_unlike) l37 c37 k37
  have b37 := F37.binds (ps := p_law_unlike) fun _ _ _ _ _ _ us hl => match us, hl with | [_, _], _ => rfl
  have D_law_unlike : Dn K mg "_law_unlike" s_law_unlike p_law_unlike _ _ := ⟨F37, b37, PySem.W.mg_of X G a37⟩
  have F38 := fun_mk (st := s_law_name) l38 c38 k38
  have b38 := F38.binds (ps := p_law_name) fun _ _ _ _ _ _ us hl => match us, hl with | [_], _ => rfl
  have D_law_name : Dn K mg "_law_name" s_law_name p_law_name _ _ := ⟨F38, b38, PySem.W.mg_of X G a38⟩
  have F39 := fun_mk (st := s_law_names) l39 c39 k39
  have b39 := F39.binds (ps := p_law_names) fun _ _ _ _ _ _ us hl => match us, hl with | [_, _], _ => rfl
  have D_law_names : Dn K mg "_law_names" s_law_names p_law_names _ _ := ⟨F39, b39, PySem.W.mg_of X G a39⟩
  have F40 := fun_mk (st := s_law_bad_name) l40 c40 k40
  have b40 := F40.binds (ps := p_law_bad_name) fun _ _ _ _ _ _ us hl => match us, hl with | [_], _ => rfl
  have D_law_bad_name : Dn K mg "_law_bad_name" s_law_bad_name p_law_bad_name _ _ := ⟨F40, b40, PySem.W.mg_of X G a40⟩
  have F41 := fun_mk (st := s_law_stranger) l41 c41 k41
  have b41 := F41.binds (ps := p_law_stranger) fun _ _ _ _ _ _ us hl => match us, hl with | [_, _], _ => rfl
  have D_law_stranger : Dn K mg "_law_stranger" s_law_stranger p_law_stranger _ _ := ⟨F41, b41, PySem.W.mg_of X G a41⟩
  have F42 := fun_mk (st := s_law_fresh) l42 c42 k42
  have b42 := F42.binds (ps := p_law_fresh) fun _ _ _ _ _ _ us hl => match us, hl with | [_, _], _ => rfl
  have D_law_fresh : Dn K mg "_law_fresh" s_law_fresh p_law_fresh _ _ := ⟨F42, b42, PySem.W.mg_of X G a42⟩
  have F43 := fun_mk (st := s_law_row_fault) l43 c43 k43
  have b43 := F43.binds (ps := p_law_row_fault) fun _ _ _ _ _ _ us hl => match us, hl with | [_, _], _ => rfl
  have D_law_row_fault : Dn K mg "_law_row_fault" s_law_row_fault p_law_row_fault _ _ := ⟨F43, b43, PySem.W.mg_of X G a43⟩
  have F44 := fun_mk (st := s_law_bent_row) l44 c44 k44
  have b44 := F44.binds (ps := p_law_bent_row) fun _ _ _ _ _ _ us hl => match us, hl with | [_, _, _], _ => rfl
  have D_law_bent_row : Dn K mg "_law_bent_row" s_law_bent_row p_law_bent_row _ _ := ⟨F44, b44, PySem.W.mg_of X G a44⟩
  have F45 := fun_mk (st := s_law_any_row) l45 c45 k45
  have b45 := F45.binds (ps := p_law_any_row) fun _ _ _ _ _ _ us hl => match us, hl with | [_, _], _ => rfl
  have D_law_any_row : Dn K mg "_law_any_row" s_law_any_row p_law_any_row _ _ := ⟨F45, b45, PySem.W.mg_of X G a45⟩
  have F46 := fun_mk (st := s_law_rest) l46 c46 k46
  have b46 := F46.binds (ps := p_law_rest) fun _ _ _ _ _ _ us hl => match us, hl with | [_, _], _ => rfl
  have D_law_rest : Dn K mg "_law_rest" s_law_rest p_law_rest _ _ := ⟨F46, b46, PySem.W.mg_of X G a46⟩
  have F47 := fun_mk (st := s_law_awake) l47 c47 k47
  have b47 := F47.binds (ps := p_law_awake) fun _ _ _ _ _ _ us hl => match us, hl with | [_, _], _ => rfl
  have D_law_awake : Dn K mg "_law_awake" s_law_awake p_law_awake _ _ := ⟨F47, b47, PySem.W.mg_of X G a47⟩
  have F48 := fun_mk (st := s_law_world_line) l48 c48 k48
  have b48 := F48.binds (ps := p_law_world_line) fun _ _ _ _ _ _ us hl => match us, hl with | [_], _ => rfl
  have D_law_world_line : Dn K mg "_law_world_line" s_law_world_line p_law_world_line _ _ := ⟨F48, b48, PySem.W.mg_of X G a48⟩
  have F49 := fun_mk (st := s_law_bent_world_text) l49 c49 k49
  have b49 := F49.binds (ps := p_law_bent_world_text) fun _ _ _ _ _ _ us hl => match us, hl with | [_, _], _ => rfl
  have D_law_bent_world_text : Dn K mg "_law_bent_world_text" s_law_bent_world_text p_law_bent_world_text _ _ := ⟨F49, b49, PySem.W.mg_of X G a49⟩
  have F50 := fun_mk (st := s_law_written) l50 c50 k50
  have b50 := F50.binds (ps := p_law_written) fun _ _ _ _ _ _ us hl => match us, hl with | [_, _], _ => rfl
  have D_law_written : Dn K mg "_law_written" s_law_written p_law_written _ _ := ⟨F50, b50, PySem.W.mg_of X G a50⟩
  have F51 := fun_mk (st := s_law_written_due) l51 c51 k51
  have b51 := F51.binds (ps := p_law_written_due) fun _ _ _ _ _ _ us hl => match us, hl with | [_, _], _ => rfl
  have D_law_written_due : Dn K mg "_law_written_due" s_law_written_due p_law_written_due _ _ := ⟨F51, b51, PySem.W.mg_of X G a51⟩
  have F52 := fun_mk (st := s_law_told) l52 c52 k52
  have b52 := F52.binds (ps := p_law_told) fun _ _ _ _ _ _ us hl => match us, hl with | [_, _], _ => rfl
  have D_law_told : Dn K mg "_law_told" s_law_told p_law_told _ _ := ⟨F52, b52, PySem.W.mg_of X G a52⟩
  have F53 := fun_mk (st := s_law_due) l53 c53 k53
  have b53 := F53.binds (ps := p_law_due) fun _ _ _ _ _ _ us hl => match us, hl with | [_, _], _ => rfl
  have D_law_due : Dn K mg "_law_due" s_law_due p_law_due _ _ := ⟨F53, b53, PySem.W.mg_of X G a53⟩
  have F54 := fun_mk (st := s_law_texts) l54 c54 k54
  have b54 := F54.binds (ps := p_law_texts) fun _ _ _ _ _ _ us hl => match us, hl with | [_, _, _], _ => rfl
  have D_law_texts : Dn K mg "_law_texts" s_law_texts p_law_texts _ _ := ⟨F54, b54, PySem.W.mg_of X G a54⟩
  have F55 := fun_mk (st := s_law) l55 c55 k55
  have b55 := F55.binds (ps := p_law) fun _ _ _ _ _ _ us hl => match us, hl with | [_], _ => rfl
  have D_law : Dn K mg "law" s_law p_law _ _ := ⟨F55, b55, PySem.W.mg_of X G a55⟩
  refine ⟨PySem.W.fnOf "law" "law" (defArgs s_law) (defBody s_law) (defScope s_law) .none kV55 dc55 pm55 an55 cd55 ct55, fun s v => .of_eq rfl, fun base _ _ => ?_⟩
  have G_law_store := ok_law_store (P := l.prog) (w := w) (base := base) T D_law_store
  have G_law_next := ok_law_next (P := l.prog) (w := w) (base := base) T D_law_next
  have G_law_raw := ok_law_raw (P := l.prog) (w := w) (base := base) T D_law_raw
  have G_law_take := ok_law_take (P := l.prog) (w := w) (base := base) D_law_next G_law_next D_law_raw G_law_raw T D_law_take
  have G_law_pick := ok_law_pick (P := l.prog) (w := w) (base := base) D_law_take G_law_take T D_law_pick
  have G_law_some := ok_law_some (P := l.prog) (w := w) (base := base) D_law_take G_law_take T D_law_some
  have G_law_name := ok_law_name (P := l.prog) (w := w) (base := base) D_law_take G_law_take D_law_pick G_law_pick D_law_some G_law_some T D_law_name
  have G_law_unlike := ok_law_unlike (P := l.prog) (w := w) (base := base) T D_law_unlike
  have G_law_names := ok_law_names (P := l.prog) (w := w) (base := base) D_law_take G_law_take D_law_name G_law_name D_law_unlike G_law_unlike T D_law_names
  have G_law_mixed := ok_law_mixed (P := l.prog) (w := w) (base := base) D_law_take G_law_take T D_law_mixed
  have G_plain := ok_plain (P := l.prog) (w := w) (base := base) T D_plain
  have G_BadCount__init := ok_BadCount__init (P := l.prog) (w := w) (base := base) D_plain G_plain T D_BadCount__init
  have G_check_count := ok_check_count (P := l.prog) (w := w) (base := base) D_BadCount__init G_BadCount__init X_BadCount T D_check_count
  have G_is_name := ok_is_name (P := l.prog) (w := w) (base := base) T D_is_name
  have G_BadName__init := ok_BadName__init (P := l.prog) (w := w) (base := base) D_plain G_plain T D_BadName__init
  have G_check_new_name := ok_check_new_name (P := l.prog) (w := w) (base := base) D_is_name G_is_name D_BadName__init G_BadName__init X_BadName T D_check_new_name
  have G_is_number := ok_is_number (P := l.prog) (w := w) (base := base) T D_is_number
  have G_BadNumber__init := ok_BadNumber__init (P := l.prog) (w := w) (base := base) D_plain G_plain T D_BadNumber__init
  have G_check_number := ok_check_number (P := l.prog) (w := w) (base := base) D_is_number G_is_number D_BadNumber__init G_BadNumber__init X_BadNumber T D_check_number
  have G_Repeated__init := ok_Repeated__init (P := l.prog) (w := w) (base := base) D_plain G_plain T D_Repeated__init
  have G_examined_folk := ok_examined_folk (P := l.prog) (w := w) (base := base) D_check_new_name G_check_new_name D_check_number G_check_number D_Repeated__init G_Repeated__init X_Repeated T D_examined_folk
  have G_UnknownFolk__init := ok_UnknownFolk__init (P := l.prog) (w := w) (base := base) D_plain G_plain T D_UnknownFolk__init
  have G_place_in := ok_place_in (P := l.prog) (w := w) (base := base) D_UnknownFolk__init G_UnknownFolk__init X_UnknownFolk T D_place_in
  have G_SelfWatch__init := ok_SelfWatch__init (P := l.prog) (w := w) (base := base) D_plain G_plain T D_SelfWatch__init
  have G_BorderWatch__init := ok_BorderWatch__init (P := l.prog) (w := w) (base := base) D_plain G_plain T D_BorderWatch__init
  have G_examined_watches := ok_examined_watches (P := l.prog) (w := w) (base := base) D_check_count G_check_count D_place_in G_place_in D_check_number G_check_number D_SelfWatch__init G_SelfWatch__init X_SelfWatch D_BorderWatch__init G_BorderWatch__init X_BorderWatch D_Repeated__init G_Repeated__init X_Repeated T D_examined_watches
  have G_all_pulls := ok_all_pulls (P := l.prog) (w := w) (base := base) T D_all_pulls
  have G_Web__init := ok_Web__init (P := l.prog) (w := w) (base := base) D_check_count G_check_count D_examined_folk G_examined_folk D_examined_watches G_examined_watches D_all_pulls G_all_pulls X_Web T D_Web__init
  have G_law_size := ok_law_size (P := l.prog) (w := w) (base := base) D_law_take G_law_take T D_law_size
  have G_law_some_of := ok_law_some_of (P := l.prog) (w := w) (base := base) D_law_take G_law_take D_law_pick G_law_pick T D_law_some_of
  have G_law_awake := ok_law_awake (P := l.prog) (w := w) (base := base) D_law_mixed G_law_mixed D_law_some_of G_law_some_of T D_law_awake
  have G_law_bad_name := ok_law_bad_name (P := l.prog) (w := w) (base := base) D_law_name G_law_name D_law_take G_law_take D_law_some G_law_some T D_law_bad_name
  have G_law_stranger := ok_law_stranger (P := l.prog) (w := w) (base := base) D_law_take G_law_take D_law_unlike G_law_unlike D_law_pick G_law_pick D_law_name G_law_name D_law_bad_name G_law_bad_name T D_law_stranger
  have G_law_bent_row := ok_law_bent_row (P := l.prog) (w := w) (base := base) D_law_take G_law_take D_law_stranger G_law_stranger D_law_some G_law_some D_law_pick G_law_pick T D_law_bent_row
  have G_law_any_row := ok_law_any_row (P := l.prog) (w := w) (base := base) D_law_mixed G_law_mixed D_law_bent_row G_law_bent_row D_law_some_of G_law_some_of D_law_take G_law_take T D_law_any_row
  have G_law_world_line := ok_law_world_line (P := l.prog) (w := w) (base := base) T D_law_world_line
  have G_law_texts := ok_law_texts (P := l.prog) (w := w) (base := base) D_law_world_line G_law_world_line D_law_mixed G_law_mixed T D_law_texts
  have G_law_loose := ok_law_loose (P := l.prog) (w := w) (base := base) D_law_take G_law_take T D_law_loose
  have G_law_rest := ok_law_rest (P := l.prog) (w := w) (base := base) T D_law_rest
  have G_law_fresh := ok_law_fresh (P := l.prog) (w := w) (base := base) D_law_unlike G_law_unlike D_law_name G_law_name T D_law_fresh
  have G_law_bent_world_text := ok_law_bent_world_text (P := l.prog) (w := w) (base := base) D_law_awake G_law_awake D_law_take G_law_take D_law_rest G_law_rest D_law_world_line G_law_world_line D_law_some G_law_some D_law_fresh G_law_fresh D_law_pick G_law_pick D_law_bent_row G_law_bent_row T D_law_bent_world_text
  have G_law_same := ok_law_same (P := l.prog) (w := w) (base := base) T D_law_same
  have G_Web_names := ok_Web_names (P := l.prog) (w := w) (base := base) X_Web T D_Web_names
  have G_positions := ok_positions (P := l.prog) (w := w) (base := base) T D_positions
  have G_tell := ok_tell (P := l.prog) (w := w) (base := base) D_Web_names G_Web_names P_Web_names D_positions G_positions X_Web T D_tell
  have G_mask_of := ok_mask_of (P := l.prog) (w := w) (base := base) D_place_in G_place_in D_Repeated__init G_Repeated__init X_Repeated D_Web_names G_Web_names P_Web_names X_Web T D_mask_of
  have G_world_text := ok_world_text (P := l.prog) (w := w) (base := base) D_tell G_tell D_mask_of G_mask_of T D_world_text
  have G_law_written := ok_law_written (P := l.prog) (w := w) (base := base) D_world_text G_world_text Y_BadName Y_BadText Y_DrowseError Y_Repeated Y_UnknownFolk X_Repeated X_UnknownFolk Kt T D_law_written
  have G_law_row_fault := ok_law_row_fault (P := l.prog) (w := w) (base := base) T D_law_row_fault
  have G_law_written_due := ok_law_written_due (P := l.prog) (w := w) (base := base) D_law_row_fault G_law_row_fault T D_law_written_due
  have G_Web__contains := ok_Web__contains (P := l.prog) (w := w) (base := base) X_Web T D_Web__contains
  have G_BadText__init := ok_BadText__init (P := l.prog) (w := w) (base := base) D_plain G_plain T D_BadText__init
  have G_read_world := ok_read_world (P := l.prog) (w := w) (base := base) D_Web__contains G_Web__contains M_Web__contains D_tell G_tell D_mask_of G_mask_of D_BadText__init G_BadText__init X_BadText X_Web T D_read_world
  have G_law_told := ok_law_told (P := l.prog) (w := w) (base := base) D_read_world G_read_world Y_BadName Y_BadText Y_DrowseError Y_Repeated Y_UnknownFolk X_BadText Kt T D_law_told
  have G_law_due := ok_law_due (P := l.prog) (w := w) (base := base) D_law_row_fault G_law_row_fault T D_law_due
  exact ok_law D_law_store G_law_store D_law_names G_law_names D_law_mixed G_law_mixed D_Web__init G_Web__init Mk_Web E_Web__init B1_Web__init D_law_size G_law_size D_law_awake G_law_awake D_law_any_row G_law_any_row D_law_texts G_law_texts D_law_loose G_law_loose D_law_bent_world_text G_law_bent_world_text D_law_same G_law_same D_law_written G_law_written D_law_written_due G_law_written_due D_law_told G_law_told D_law_due G_law_due X_Web T D_law
theorem walk {l : PySem.W.OpenLaw} {q : Program} {loose : List Str} {XP : (Str → Option Value) → Heap → Prop} {YP : World → Heap → Prop} {d : DefRec} {K : Params → PySem.W.Frag} (hn : l.most = some 63) (hdf : d.params.defaults = [])
    (hY : ∀ (w : World) (h : Heap), YP w h → (K w.params).In h)
    (F : ∀ (w : World) (mg : Str → Option Value) (fa : Addr) (h : Heap), (K w.params).In h → h.Ns mainGlobals mg → mg d.name = some (.ref fa) →
      ∃ fd : FuncData, (∀ (s : Shared) (u : Value), BindsTo s fd ⟨[u], []⟩ [("script", u)]) ∧ ∀ base : Heap, (K w.params).In base → base.Ns mainGlobals mg → FnOk l.prog w (K w.params) mg base CX0 9 fa fd ["script"] (sp_law (K w.params))) :
    PySem.W.WalkO q loose XP YP l.row.toRowW d [] (fun f vs => PySem.call f vs) :=
  L2.walk_of (n := 63) (k := 9) (x := "script") (CX := fun _ => CX0) (sp := fun w => sp_law (K w.params)) hn (by decide) hdf ⟨rfl, by decide, by decide⟩ hY F (fun _ _ a ns hl _ hS => ⟨a, ns, rfl, hS, hl, fun _ => rfl⟩) fun _ _ _ _ _ z => z
end
end My
open PySem PySem.W PyProof.Rows
set_option maxRecDepth 100000 in
set_option maxHeartbeats 0 in
theorem PySem.Challenge.cw_drowsefolk_k09_text_of_a_world_reads_bac_holds : PySem.Challenge.rw_drowsefolk_k09_text_of_a_world_reads_bac.Holds := by
  w_on; o_law; k_head; (case hw => w_witness2)
  k_fill
  refine My.walk (l := PySem.Challenge.rw_drowsefolk_k09_text_of_a_world_reads_bac) rfl rfl (fun w h Y => PySem.W.kIn_of Y) ?F
  case F =>
    intro w mg fa h KX G hmg
    refine' My.all_mk KX G hmg ?a_Web ?pg_Web ?hd_Web ?po_Web ?sa_Web ?mk_Web ?kc_Web ?no_Web_0 ?no_Web_1 ?no_Web_2 ?no_Web_3 ?ex_gc ?ex_tc ?a_DrowseError ?ga_DrowseError ?gg_DrowseError ?sb_DrowseError ?hd_DrowseError ?cl_DrowseError ?mr_DrowseError ?ty_DrowseError ?ic_DrowseError ?ss_DrowseError ?a_BadName ?ga_BadName ?gg_BadName ?sb_BadName ?hd_BadName ?cl_BadName ?mr_BadName ?ty_BadName ?ic_BadName ?ss_BadName ?a_BadNumber ?ga_BadNumber ?gg_BadNumber ?sb_BadNumber ?hd_BadNumber ?cl_BadNumber ?mr_BadNumber ?ty_BadNumber ?ic_BadNumber ?ss_BadNumber ?a_BadCount ?ga_BadCount ?gg_BadCount ?sb_BadCount ?hd_BadCount ?cl_BadCount ?mr_BadCount ?ty_BadCount ?ic_BadCount ?ss_BadCount ?a_Repeated ?ga_Repeated ?gg_Repeated ?sb_Repeated ?hd_Repeated ?cl_Repeated ?mr_Repeated ?ty_Repeated ?ic_Repeated ?ss_Repeated ?a_UnknownFolk ?ga_UnknownFolk ?gg_UnknownFolk ?sb_UnknownFolk ?hd_UnknownFolk ?cl_UnknownFolk ?mr_UnknownFolk ?ty_UnknownFolk ?ic_UnknownFolk ?ss_UnknownFolk ?a_SelfWatch ?ga_SelfWatch ?gg_SelfWatch ?sb_SelfWatch ?hd_SelfWatch ?cl_SelfWatch ?mr_SelfWatch ?ty_SelfWatch ?ic_SelfWatch ?ss_SelfWatch ?a_BadText ?ga_BadText ?gg_BadText ?sb_BadText ?hd_BadText ?cl_BadText ?mr_BadText ?ty_BadText ?ic_BadText ?ss_BadText ?a_BorderWatch ?ga_BorderWatch ?gg_BorderWatch ?sb_BorderWatch ?hd_BorderWatch ?cl_BorderWatch ?mr_BorderWatch ?ty_BorderWatch ?ic_BorderWatch ?ss_BorderWatch ?xL_BadName ?sa_BadName ?kc_BadName ?iC_BadName ?tI_BadName ?no_BadName_0 ?rv_BadName ?xL_BadNumber ?sa_BadNumber ?kc_BadNumber ?iC_BadNumber ?tI_BadNumber ?no_BadNumber_0 ?rv_BadNumber ?xL_BadCount ?sa_BadCount ?kc_BadCount ?iC_BadCount ?tI_BadCount ?no_BadCount_0 ?no_BadCount_1 ?rv_BadCount ?xL_Repeated ?sa_Repeated ?kc_Repeated ?iC_Repeated ?tI_Repeated ?no_Repeated_0 ?rv_Repeated ?xL_UnknownFolk ?sa_UnknownFolk ?kc_UnknownFolk ?iC_UnknownFolk ?tI_UnknownFolk ?no_UnknownFolk_0 ?rv_UnknownFolk ?xL_SelfWatch ?sa_SelfWatch ?kc_SelfWatch ?iC_SelfWatch ?tI_SelfWatch ?no_SelfWatch_0 ?rv_SelfWatch ?xL_BadText ?sa_BadText ?kc_BadText ?iC_BadText ?tI_BadText ?no_BadText_0 ?rv_BadText ?xL_BorderWatch ?sa_BorderWatch ?kc_BorderWatch ?iC_BorderWatch ?tI_BorderWatch ?no_BorderWatch_0 ?no_BorderWatch_1 ?rv_BorderWatch ?sub_BadName_DrowseError ?sub_BadName_UnknownFolk ?sub_BadName_Repeated ?sub_BadName_BadText ?sub_BadNumber_DrowseError ?sub_BadNumber_UnknownFolk ?sub_BadNumber_Repeated ?sub_BadNumber_BadText ?sub_BadNumber_BadName ?sub_BadCount_DrowseError ?sub_BadCount_UnknownFolk ?sub_BadCount_Repeated ?sub_BadCount_BadText ?sub_BadCount_BadName ?sub_Repeated_DrowseError ?sub_Repeated_UnknownFolk ?sub_Repeated_BadText ?sub_Repeated_BadName ?sub_UnknownFolk_DrowseError ?sub_UnknownFolk_Repeated ?sub_UnknownFolk_BadText ?sub_UnknownFolk_BadName ?sub_SelfWatch_DrowseError ?sub_SelfWatch_UnknownFolk ?sub_SelfWatch_Repeated ?sub_SelfWatch_BadText ?sub_SelfWatch_BadName ?sub_BadText_DrowseError ?sub_BadText_UnknownFolk ?sub_BadText_Repeated ?sub_BadText_BadName ?sub_BorderWatch_DrowseError ?sub_BorderWatch_UnknownFolk ?sub_BorderWatch_Repeated ?sub_BorderWatch_BadText ?sub_BorderWatch_BadName ?a0 ?l0 ?c0 ?k0 ?l1 ?c1 ?k1 ?l2 ?c2 ?k2 ?l3 ?c3 ?k3 ?l4 ?c4 ?k4 ?l5 ?c5 ?k5 ?l6 ?c6 ?k6 ?l7 ?c7 ?k7 ?l8 ?c8 ?k8 ?a9 ?l9 ?c9 ?k9 ?a10 ?l10 ?c10 ?k10 ?a11 ?l11 ?c11 ?k11 ?a12 ?l12 ?c12 ?k12 ?a13 ?l13 ?c13 ?k13 ?a14 ?l14 ?c14 ?k14 ?a15 ?l15 ?c15 ?k15 ?a16 ?l16 ?c16 ?k16 ?a17 ?l17 ?c17 ?k17 ?a18 ?l18 ?c18 ?k18 ?a19 ?l19 ?c19 ?k19 ?a20 ?l20 ?c20 ?k20 ?a21 ?n21 ?l21 ?c21 ?k21 ?lT21 ?ld21 ?a22 ?g22 ?t22 ?r22 ?l22 ?c22 ?k22 ?a23 ?n23 ?l23 ?c23 ?k23 ?a24 ?l24 ?c24 ?k24 ?a25 ?l25 ?c25 ?k25 ?a26 ?l26 ?c26 ?k26 ?a27 ?l27 ?c27 ?k27 ?a28 ?l28 ?c28 ?k28 ?a29 ?l29 ?c29 ?k29 ?a30 ?l30 ?c30 ?k30 ?a31 ?l31 ?c31 ?k31 ?a32 ?l32 ?c32 ?k32 ?a33 ?l33 ?c33 ?k33 ?a34 ?l34 ?c34 ?k34 ?a35 ?l35 ?c35 ?k35 ?a36 ?l36 ?c36 ?k36 ?a37 ?l37 ?c37 ?k37 ?a38 ?l38 ?c38 ?k38 ?a39 ?l39 ?c39 ?k39 ?a40 ?l40 ?c40 ?k40 ?a41 ?l41 ?c41 ?k41 ?a42 ?l42 ?c42 ?k42 ?a43 ?l43 ?c43 ?k43 ?a44 ?l44 ?c44 ?k44 ?a45 ?l45 ?c45 ?k45 ?a46 ?l46 ?c46 ?k46 ?a47 ?l47 ?c47 ?k47 ?a48 ?l48 ?c48 ?k48 ?a49 ?l49 ?c49 ?k49 ?a50 ?l50 ?c50 ?k50 ?a51 ?l51 ?c51 ?k51 ?a52 ?l52 ?c52 ?k52 ?a53 ?l53 ?c53 ?k53 ?a54 ?l54 ?c54 ?k54 ?a55 ?l55 ?c55 ?k55 ?z_all ?z_bool ?z_enumerate ?z_int ?z_isinstance ?z_iter ?z_len ?z_list ?z_range ?z_sorted ?z_str ?z_sum ?z_tuple ?y_MOST_FOLK ?y_MOST_NUMBER ?y_MOST_WATCHES ?y_LETTERS ?y_LETTERS_AND_DIGITS ?y_LONGEST_NAME ?y_NOBODY
    (case a_Web => k_is); (case pg_Web => k_is); (case hd_Web => k_is); (case po_Web => k_is); (case sa_Web => k_is); (case mk_Web => k_is)
    (case kc_Web => k_is); (case no_Web_0 => k_is); (case no_Web_1 => k_is); (case no_Web_2 => k_is); (case no_Web_3 => k_is); (case ex_gc => k_is)
    (case ex_tc => k_is); (case a_DrowseError => k_is); (case ga_DrowseError => k_is); (case gg_DrowseError => k_is); (case sb_DrowseError => k_is); (case hd_DrowseError => k_is)
    (case cl_DrowseError => k_is); (case mr_DrowseError => k_is); (case ty_DrowseError => k_is); (case ic_DrowseError => k_is); (case ss_DrowseError => k_is); (case a_BadName => k_is)
    (case ga_BadName => k_is); (case gg_BadName => k_is); (case sb_BadName => k_is); (case hd_BadName => k_is); (case cl_BadName => k_is); (case mr_BadName => k_is)
    (case ty_BadName => k_is); (case ic_BadName => k_is); (case ss_BadName => k_is); (case a_BadNumber => k_is); (case ga_BadNumber => k_is); (case gg_BadNumber => k_is)
    (case sb_BadNumber => k_is); (case hd_BadNumber => k_is); (case cl_BadNumber => k_is); (case mr_BadNumber => k_is); (case ty_BadNumber => k_is); (case ic_BadNumber => k_is)
    (case ss_BadNumber => k_is); (case a_BadCount => k_is); (case ga_BadCount => k_is); (case gg_BadCount => k_is); (case sb_BadCount => k_is); (case hd_BadCount => k_is)
    (case cl_BadCount => k_is); (case mr_BadCount => k_is); (case ty_BadCount => k_is); (case ic_BadCount => k_is); (case ss_BadCount => k_is); (case a_Repeated => k_is)
    (case ga_Repeated => k_is); (case gg_Repeated => k_is); (case sb_Repeated => k_is); (case hd_Repeated => k_is); (case cl_Repeated => k_is); (case mr_Repeated => k_is)
    (case ty_Repeated => k_is); (case ic_Repeated => k_is); (case ss_Repeated => k_is); (case a_UnknownFolk => k_is); (case ga_UnknownFolk => k_is); (case gg_UnknownFolk => k_is)
    (case sb_UnknownFolk => k_is); (case hd_UnknownFolk => k_is); (case cl_UnknownFolk => k_is); (case mr_UnknownFolk => k_is); (case ty_UnknownFolk => k_is); (case ic_UnknownFolk => k_is)
    (case ss_UnknownFolk => k_is); (case a_SelfWatch => k_is); (case ga_SelfWatch => k_is); (case gg_SelfWatch => k_is); (case sb_SelfWatch => k_is); (case hd_SelfWatch => k_is)
    (case cl_SelfWatch => k_is); (case mr_SelfWatch => k_is); (case ty_SelfWatch => k_is); (case ic_SelfWatch => k_is); (case ss_SelfWatch => k_is); (case a_BadText => k_is)
    (case ga_BadText => k_is); (case gg_BadText => k_is); (case sb_BadText => k_is); (case hd_BadText => k_is); (case cl_BadText => k_is); (case mr_BadText => k_is)
    (case ty_BadText => k_is); (case ic_BadText => k_is); (case ss_BadText => k_is); (case a_BorderWatch => k_is); (case ga_BorderWatch => k_is); (case gg_BorderWatch => k_is)
    (case sb_BorderWatch => k_is); (case hd_BorderWatch => k_is); (case cl_BorderWatch => k_is); (case mr_BorderWatch => k_is); (case ty_BorderWatch => k_is); (case ic_BorderWatch => k_is)
    (case ss_BorderWatch => k_is); (case xL_BadName => k_is); (case sa_BadName => k_is); (case kc_BadName => k_is); (case iC_BadName => k_is); (case tI_BadName => k_is)
    (case no_BadName_0 => k_is); (case rv_BadName => first | rfl | decide +kernel); (case xL_BadNumber => k_is); (case sa_BadNumber => k_is); (case kc_BadNumber => k_is); (case iC_BadNumber => k_is)
    (case tI_BadNumber => k_is); (case no_BadNumber_0 => k_is); (case rv_BadNumber => first | rfl | decide +kernel); (case xL_BadCount => k_is); (case sa_BadCount => k_is); (case kc_BadCount => k_is)
    (case iC_BadCount => k_is); (case tI_BadCount => k_is); (case no_BadCount_0 => k_is); (case no_BadCount_1 => k_is); (case rv_BadCount => first | rfl | decide +kernel); (case xL_Repeated => k_is)
    (case sa_Repeated => k_is); (case kc_Repeated => k_is); (case iC_Repeated => k_is); (case tI_Repeated => k_is); (case no_Repeated_0 => k_is); (case rv_Repeated => first | rfl | decide +kernel)
    (case xL_UnknownFolk => k_is); (case sa_UnknownFolk => k_is); (case kc_UnknownFolk => k_is); (case iC_UnknownFolk => k_is); (case tI_UnknownFolk => k_is); (case no_UnknownFolk_0 => k_is)
    (case rv_UnknownFolk => first | rfl | decide +kernel); (case xL_SelfWatch => k_is); (case sa_SelfWatch => k_is); (case kc_SelfWatch => k_is); (case iC_SelfWatch => k_is); (case tI_SelfWatch => k_is)
    (case no_SelfWatch_0 => k_is); (case rv_SelfWatch => first | rfl | decide +kernel); (case xL_BadText => k_is); (case sa_BadText => k_is); (case kc_BadText => k_is); (case iC_BadText => k_is)
    (case tI_BadText => k_is); (case no_BadText_0 => k_is); (case rv_BadText => first | rfl | decide +kernel); (case xL_BorderWatch => k_is); (case sa_BorderWatch => k_is); (case kc_BorderWatch => k_is)
    (case iC_BorderWatch => k_is); (case tI_BorderWatch => k_is); (case no_BorderWatch_0 => k_is); (case no_BorderWatch_1 => k_is); (case rv_BorderWatch => first | rfl | decide +kernel); (case sub_BadName_DrowseError => k_is)
    (case sub_BadName_UnknownFolk => k_is); (case sub_BadName_Repeated => k_is); (case sub_BadName_BadText => k_is); (case sub_BadNumber_DrowseError => k_is); (case sub_BadNumber_UnknownFolk => k_is); (case sub_BadNumber_Repeated => k_is)
    (case sub_BadNumber_BadText => k_is); (case sub_BadNumber_BadName => k_is); (case sub_BadCount_DrowseError => k_is); (case sub_BadCount_UnknownFolk => k_is); (case sub_BadCount_Repeated => k_is); (case sub_BadCount_BadText => k_is)
    (case sub_BadCount_BadName => k_is); (case sub_Repeated_DrowseError => k_is); (case sub_Repeated_UnknownFolk => k_is); (case sub_Repeated_BadText => k_is); (case sub_Repeated_BadName => k_is); (case sub_UnknownFolk_DrowseError => k_is)
    (case sub_UnknownFolk_Repeated => k_is); (case sub_UnknownFolk_BadText => k_is); (case sub_UnknownFolk_BadName => k_is); (case sub_SelfWatch_DrowseError => k_is); (case sub_SelfWatch_UnknownFolk => k_is); (case sub_SelfWatch_Repeated => k_is)
    (case sub_SelfWatch_BadText => k_is); (case sub_SelfWatch_BadName => k_is); (case sub_BadText_DrowseError => k_is); (case sub_BadText_UnknownFolk => k_is); (case sub_BadText_Repeated => k_is); (case sub_BadText_BadName => k_is)
    (case sub_BorderWatch_DrowseError => k_is); (case sub_BorderWatch_UnknownFolk => k_is); (case sub_BorderWatch_Repeated => k_is); (case sub_BorderWatch_BadText => k_is); (case sub_BorderWatch_BadName => k_is); (case a0 => k_is)
    (case l0 => k_is); (case c0 => k_is); (case k0 => k_is); (case l1 => k_is); (case c1 => k_is); (case k1 => k_is)
    (case l2 => k_is); (case c2 => k_is); (case k2 => k_is); (case l3 => k_is); (case c3 => k_is); (case k3 => k_is)
    (case l4 => k_is); (case c4 => k_is); (case k4 => k_is); (case l5 => k_is); (case c5 => k_is); (case k5 => k_is)
    (case l6 => k_is); (case c6 => k_is); (case k6 => k_is); (case l7 => k_is); (case c7 => k_is); (case k7 => k_is)
    (case l8 => k_is); (case c8 => k_is); (case k8 => k_is); (case a9 => k_is); (case l9 => k_is); (case c9 => k_is)
    (case k9 => k_is); (case a10 => k_is); (case l10 => k_is); (case c10 => k_is); (case k10 => k_is); (case a11 => k_is)
    (case l11 => k_is); (case c11 => k_is); (case k11 => k_is); (case a12 => k_is); (case l12 => k_is); (case c12 => k_is)
    (case k12 => k_is); (case a13 => k_is); (case l13 => k_is); (case c13 => k_is); (case k13 => k_is); (case a14 => k_is)
    (case l14 => k_is); (case c14 => k_is); (case k14 => k_is); (case a15 => k_is); (case l15 => k_is); (case c15 => k_is)
    (case k15 => k_is); (case a16 => k_is); (case l16 => k_is); (case c16 => k_is); (case k16 => k_is); (case a17 => k_is)
    (case l17 => k_is); (case c17 => k_is); (case k17 => k_is); (case a18 => k_is); (case l18 => k_is); (case c18 => k_is)
    (case k18 => k_is); (case a19 => k_is); (case l19 => k_is); (case c19 => k_is); (case k19 => k_is); (case a20 => k_is)
    (case l20 => k_is); (case c20 => k_is); (case k20 => k_is); (case a21 => k_is); (case n21 => k_is); (case l21 => k_is)
    (case c21 => k_is); (case k21 => k_is); (case lT21 => k_is); (case ld21 => k_is); (case a22 => k_is); (case g22 => k_is)
    (case t22 => k_is); (case r22 => k_is); (case l22 => k_is); (case c22 => k_is); (case k22 => k_is); (case a23 => k_is)
    (case n23 => k_is); (case l23 => k_is); (case c23 => k_is); (case k23 => k_is); (case a24 => k_is); (case l24 => k_is)
    (case c24 => k_is); (case k24 => k_is); (case a25 => k_is); (case l25 => k_is); (case c25 => k_is); (case k25 => k_is)
    (case a26 => k_is); (case l26 => k_is); (case c26 => k_is); (case k26 => k_is); (case a27 => k_is); (case l27 => k_is)
    (case c27 => k_is); (case k27 => k_is); (case a28 => k_is); (case l28 => k_is); (case c28 => k_is); (case k28 => k_is)
    (case a29 => k_is); (case l29 => k_is); (case c29 => k_is); (case k29 => k_is); (case a30 => k_is); (case l30 => k_is)
    (case c30 => k_is); (case k30 => k_is); (case a31 => k_is); (case l31 => k_is); (case c31 => k_is); (case k31 => k_is)
    (case a32 => k_is); (case l32 => k_is); (case c32 => k_is); (case k32 => k_is); (case a33 => k_is); (case l33 => k_is)
    (case c33 => k_is); (case k33 => k_is); (case a34 => k_is); (case l34 => k_is); (case c34 => k_is); (case k34 => k_is)
    (case a35 => k_is); (case l35 => k_is); (case c35 => k_is); (case k35 => k_is); (case a36 => k_is); (case l36 => k_is)
    (case c36 => k_is); (case k36 => k_is); (case a37 => k_is); (case l37 => k_is); (case c37 => k_is); (case k37 => k_is)
    (case a38 => k_is); (case l38 => k_is); (case c38 => k_is); (case k38 => k_is); (case a39 => k_is); (case l39 => k_is)
    (case c39 => k_is); (case k39 => k_is); (case a40 => k_is); (case l40 => k_is); (case c40 => k_is); (case k40 => k_is)
    (case a41 => k_is); (case l41 => k_is); (case c41 => k_is); (case k41 => k_is); (case a42 => k_is); (case l42 => k_is)
    (case c42 => k_is); (case k42 => k_is); (case a43 => k_is); (case l43 => k_is); (case c43 => k_is); (case k43 => k_is)
    (case a44 => k_is); (case l44 => k_is); (case c44 => k_is); (case k44 => k_is); (case a45 => k_is); (case l45 => k_is)
    (case c45 => k_is); (case k45 => k_is); (case a46 => k_is); (case l46 => k_is); (case c46 => k_is); (case k46 => k_is)
    (case a47 => k_is); (case l47 => k_is); (case c47 => k_is); (case k47 => k_is); (case a48 => k_is); (case l48 => k_is)
    (case c48 => k_is); (case k48 => k_is); (case a49 => k_is); (case l49 => k_is); (case c49 => k_is); (case k49 => k_is)
    (case a50 => k_is); (case l50 => k_is); (case c50 => k_is); (case k50 => k_is); (case a51 => k_is); (case l51 => k_is)
    (case c51 => k_is); (case k51 => k_is); (case a52 => k_is); (case l52 => k_is); (case c52 => k_is); (case k52 => k_is)
    (case a53 => k_is); (case l53 => k_is); (case c53 => k_is); (case k53 => k_is); (case a54 => k_is); (case l54 => k_is)
    (case c54 => k_is); (case k54 => k_is); (case a55 => k_is); (case l55 => k_is); (case c55 => k_is); (case k55 => k_is)
    (case z_all => k_is); (case z_bool => k_is); (case z_enumerate => k_is); (case z_int => k_is); (case z_isinstance => k_is); (case z_iter => k_is)
    (case z_len => k_is); (case z_list => k_is); (case z_range => k_is); (case z_sorted => k_is); (case z_str => k_is); (case z_sum => k_is)
    (case z_tuple => k_is); (case y_MOST_FOLK => k_is); (case y_MOST_NUMBER => k_is); (case y_MOST_WATCHES => k_is); (case y_LETTERS => k_is); (case y_LETTERS_AND_DIGITS => k_is)
    (case y_LONGEST_NAME => k_is); (case y_NOBODY => k_is)
