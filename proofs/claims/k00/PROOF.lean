import PyProof.Rows.All
import Wide.All
import OpenK.AllK
import Wide.FinOn
import PyProof.StrOps2
import HandS.ForMost
import HandS.IsInst
import HandS.Style
import HandS.Wide
import HandS.Evl
import PySem.Challenge.RW_drowsefolk_k00_names_and_numbers
set_option Elab.async false
set_option linter.all false
set_option maxRecDepth 100000
set_option maxHeartbeats 4000000
namespace My
open PySem PySem.Spec PyProof.Rows L2
/-! ### readings, construct by construct -/
section
variable {K : PySem.W.Frag} {σ : L2.St} {H : Hp} {Q : VK} {ta tb tc te : TE} {v x y : V} {t u : TS} {r : R2} {nx bk ct : L2.St → Hp → Prop} {rt : VK} {tq : Bool → Hp → Prop} {cc : TT}
theorem i_var {i : Nat} (h : σ[i]? = some (some v)) (q : Q v H) : tVar i σ H Q := ⟨v, h, q⟩
theorem i_c (q : Q v H) : tC v σ H Q := q
theorem i_op (q : ta σ H fun x H1 => tb σ H1 fun y H2 => r x y H2 Q) : tOp r ta tb σ H Q := q
theorem i_un {r : V → Hp → VK → Prop} (q : ta σ H fun x H1 => r x H1 Q) : tUn r ta σ H Q := q
theorem i_I0 {g : Int → Int → V} {i j : Int} (q : Q (g i j) H) : rI0 g (.int i) (.int j) H Q := ⟨i, j, rfl, rfl, q⟩
theorem i_I {C : Int → Int → Prop} {g : Int → Int → V} {i j : Int} (c : C i j) (q : Q (g i j) H) : rI C g (.int i) (.int j) H Q := ⟨i, j, rfl, rfl, c, q⟩
theorem i_U {g : Int → V} {i : Int} (q : Q (g i) H) : rU g (.int i) H Q := ⟨i, rfl, q⟩
theorem i_eq (h : scal x y = true) (q : Q (.bl (decide (x = y))) H) : rEq x y H Q := ⟨h, q⟩
theorem i_ne (h : scal x y = true) (q : Q (.bl (!decide (x = y))) H) : rNe x y H Q := ⟨h, q⟩
theorem i_test (q : te σ H fun x H' => ∃ k, x = .bl k ∧ tq k H') : tTest te σ H tq := q
theorem i_B (q : te σ H fun x H' => ∃ k, x = .bl k ∧ tq k H') : tB te σ H tq := q
theorem i_bl {P : Bool → Prop} {b : Bool} (q : P b) : ∃ k, V.bl b = .bl k ∧ P k := ⟨b, rfl, q⟩
theorem i_and {t u : TT} (q : t σ H fun c H1 => if c = true then u σ H1 tq else tq false H1) : tAnd t u σ H tq := q
theorem i_or {t u : TT} (q : t σ H fun c H1 => if c = true then tq true H1 else u σ H1 tq) : tOr t u σ H tq := q
theorem i_not (q : cc σ H fun c H1 => tq (!c) H1) : tNot cc σ H tq := q
theorem i_andV (q : ta σ H fun x H1 => ∃ c, x = .bl c ∧ if c = true then tb σ H1 Q else Q (.bl false) H1) : tAndV ta tb σ H Q := q
theorem i_orV (q : ta σ H fun x H1 => ∃ c, x = .bl c ∧ if c = true then Q (.bl true) H1 else tb σ H1 Q) : tOrV ta tb σ H Q := q
theorem i_notV (q : ta σ H fun x H1 => ∃ c, x = .bl c ∧ Q (.bl (!c)) H1) : tNotV ta σ H Q := q
theorem i_ifE (q : cc σ H fun c H1 => if c = true then ta σ H1 Q else tb σ H1 Q) : tIf cc ta tb σ H Q := q
theorem i_chain {r r' : R2} (q : ta σ H fun x H1 => tb σ H1 fun y H2 => r x y H2 fun z H3 => ∃ k, z = .bl k ∧ (if k = true then tc σ H3 fun w' H4 => r' y w' H4 Q else Q (.bl false) H3)) : tChain r r' ta tb tc σ H Q := q
theorem i_seq (q : t ⟨u ⟨nx, rt, bk, ct⟩, rt, bk, ct⟩ σ H) : tSeq t u ⟨nx, rt, bk, ct⟩ σ H := q
theorem i_asg {g : TG} (q : te σ H fun x H1 => g x σ H1 nx) : tAsg te g ⟨nx, rt, bk, ct⟩ σ H := q
theorem i_gname {i : Nat} {R : L2.St → Hp → Prop} (q : R (σ.set i (some v)) H) : gName i v σ H R := q
theorem i_drop (q : te σ H fun _ H1 => nx σ H1) : tDrop te ⟨nx, rt, bk, ct⟩ σ H := q
theorem i_ret (q : te σ H rt) : tRet te ⟨nx, rt, bk, ct⟩ σ H := q
theorem i_if (q : cc σ H fun b H1 => if b = true then t ⟨nx, rt, bk, ct⟩ σ H1 else u ⟨nx, rt, bk, ct⟩ σ H1) : tIfS cc t u ⟨nx, rt, bk, ct⟩ σ H := q
theorem i_next (q : nx σ H) : tNext ⟨nx, rt, bk, ct⟩ σ H := q
theorem i_break (q : bk σ H) : tBreak ⟨nx, rt, bk, ct⟩ σ H := q
theorem i_cont (q : ct σ H) : tCont ⟨nx, rt, bk, ct⟩ σ H := q
theorem i_retN (q : rt .non H) : tRetN ⟨nx, rt, bk, ct⟩ σ H := q
theorem i_call {sp : Sp} {dvs : List V} {E : XK} {ta : TA} (q : ta σ H fun vs H1 => sp (vs ++ dvs) H1 Q E) : tCall sp dvs E ta σ H Q := q
theorem i_cons {tr : TA} {R : List V → Hp → Prop} (q : ta σ H fun x H1 => tr σ H1 fun xs H2 => R (x :: xs) H2) : tCons ta tr σ H R := q
theorem i_nil {R : List V → Hp → Prop} (q : R [] H) : tNil σ H R := q
theorem i_CB {r : List V → Hp → VK → Prop} {ta : TA} (q : ta σ H fun vs H1 => r vs H1 Q) : tCB r ta σ H Q := q
def LstEnd (Q : VK) (xs : List V) (H1 : Hp) : Prop := xs.length ≤ sizeLine ∧ ∀ p, H1 p = none → Q (.ref p) (upd H1 p (.lst xs))
def TupEnd (Q : VK) (xs : List V) (H1 : Hp) : Prop := xs.length ≤ sizeLine ∧ ∀ p, H1 p = none → Q (.ref p) (upd H1 p (.tup xs))
theorem i_lst {ta : TA} (q : ta σ H fun xs H1 => LstEnd Q xs H1) : tLst ta σ H Q := q
theorem i_tup {ta : TA} (q : ta σ H fun xs H1 => TupEnd Q xs H1) : tTup ta σ H Q := q
theorem i_gsub {w : TSet} {R : L2.St → Hp → Prop} (q : ta σ H fun o H1 => tb σ H1 fun i H2 => w o i v H2 fun H3 => R σ H3) : gSub ta tb w v σ H R := q
theorem i_setL {p : Addr} {xs : List V} {k : Int} {j : Nat} {R : Hp → Prop} (h : H p = some (.lst xs)) (hk : ixN xs.length k = some j) (q : R (upd H p (.lst (xs.set j v)))) : rSetL (.ref p) (.int k) v H R := ⟨p, xs, k, j, rfl, rfl, h, hk, q⟩
theorem i_ixL {p : Addr} {xs : List V} {i : Int} (h : SqL K H p xs) (ha : atI xs i = some v) (q : Q v H) : rIxL K (.ref p) (.int i) H Q := ⟨p, xs, i, v, rfl, rfl, h, ha, q⟩
theorem i_ixT {p : Addr} {xs : List V} {i : Int} (h : SqT K H p xs) (ha : atI xs i = some v) (q : Q v H) : rIxT K (.ref p) (.int i) H Q := ⟨p, xs, i, v, rfl, rfl, h, ha, q⟩
theorem i_ixS {z : Str} {i : Int} {c : Nat} (h : z.length ≤ sizeLine) (ha : atI z.cps.toList i = some c) (q : Q (.str ⟨#[c]⟩) H) : rIxS (.str z) (.int i) H Q := ⟨z, i, c, rfl, rfl, h, ha, q⟩
theorem i_sl {r : V → Option Int → Option Int → Hp → VK → Prop} {tl th : TO} (q : te σ H fun x H1 => tl σ H1 fun l H2 => th σ H2 fun u H3 => r x l u H3 Q) : tSl r te tl th σ H Q := q
theorem sqL {p : Addr} {xs : List V} (h : H p = some (.lst xs)) : SqL K H p xs := .inl (.inl h)
theorem sqT {p : Addr} {xs : List V} (h : H p = some (.tup xs)) : SqT K H p xs := .inl (.inl h)
theorem i_ite {b : Bool} {A B : Prop} (h1 : b = true → A) (h2 : b = false → B) : if b = true then A else B := by
  cases b with
  | true => exact h1 rfl
  | false => exact h2 rfl
/-! loops -/
/-- the rest of a for over range(n), once its argument is known -/
def FR1 (j : Nat) (tb : TS) (nx : L2.St → Hp → Prop) (rt : VK) (σ : L2.St) : List V → Hp → Prop := fun vs H1 => ∃ n : Int, vs = [.int n] ∧ -(2 ^ 62) ≤ n ∧ n < 2 ^ 62 ∧ (∃ W : Nat → Nat → L2.St → Hp → Prop, (∃ m, W 0 m σ H1) ∧ ∀ i m σ H, W i m σ H →
  ((Itr 0 n.toNat).stop i H ∧ nx σ H) ∨ ((Itr 0 n.toNat).go i H ∧ ∃ N : L2.St → Hp → Prop, (∀ σ' H', N σ' H' → ∃ m', m' < m ∧ W (i + 1) m' σ' H') ∧ ∀ x H', (Itr 0 n.toNat).yld i H x H' → gName j x σ H' fun σ2 H2 => tb ⟨N, rt, nx, N⟩ σ2 H2))
theorem i_forR {ta : TA} {j : Nat} {tb : TS} (q : ta σ H fun vs H1 => FR1 j tb nx rt σ vs H1) : tFor (iRng1 ta) (gName j) tb ⟨nx, rt, bk, ct⟩ σ H := q
theorem fr1 {j : Nat} {tb : TS} {n : Int} (h1 : -(2 ^ 62) ≤ n) (h2 : n < 2 ^ 62) (Pv : Nat → L2.St → Hp → Prop) (p0 : Pv 0 σ H)
    (ps : ∀ i σ' H', i < n.toNat → Pv i σ' H' → tb ⟨Pv (i + 1), rt, nx, Pv (i + 1)⟩ (σ'.set j (some (.int (i : Int)))) H') (pd : ∀ σ' H', Pv n.toNat σ' H' → nx σ' H') : FR1 j tb nx rt σ [.int n] H := by
  refine ⟨n, rfl, h1, h2, for_range (D := ⟨nx, rt, fun _ _ => False, fun _ _ => False⟩) (lo := 0) (n := n.toNat) Pv p0 (fun i σ' H' hi p => ?_) pd⟩
  show tb _ (σ'.set j (some (.int ((0 : Int) + (i : Int))))) H'
  rw [Int.zero_add]
  exact ps i σ' H' hi p
/-- .. of a for over a list -/
def FL (K : PySem.W.Frag) (g : TG) (tb : TS) (nx : L2.St → Hp → Prop) (rt : VK) (σ : L2.St) : V → Hp → Prop := fun x H1 => ∃ a, x = .ref a ∧ (∃ xs, SqL K H1 a xs) ∧ (∃ W : Nat → Nat → L2.St → Hp → Prop, (∃ m, W 0 m σ H1) ∧ ∀ i m σ H, W i m σ H →
  ((Itl K a).stop i H ∧ nx σ H) ∨ ((Itl K a).go i H ∧ ∃ N : L2.St → Hp → Prop, (∀ σ' H', N σ' H' → ∃ m', m' < m ∧ W (i + 1) m' σ' H') ∧ ∀ x H', (Itl K a).yld i H x H' → g x σ H' fun σ2 H2 => tb ⟨N, rt, nx, N⟩ σ2 H2))
theorem i_forL {g : TG} {tb : TS} (q : te σ H fun x H1 => FL K g tb nx rt σ x H1) : tFor (iList K te) g tb ⟨nx, rt, bk, ct⟩ σ H := q
theorem fl {g : TG} {tb : TS} {a : Addr} {xs : List V} (h : SqL K H a xs) (Pv : Nat → L2.St → Hp → Prop) (p0 : Pv 0 σ H) (hl : ∀ i σ' H', i ≤ xs.length → Pv i σ' H' → SqL K H' a xs)
    (ps : ∀ i x σ' H', xs[i]? = some x → Pv i σ' H' → g x σ' H' fun σ2 H2 => tb ⟨Pv (i + 1), rt, nx, Pv (i + 1)⟩ σ2 H2) (pd : ∀ σ' H', Pv xs.length σ' H' → nx σ' H') : FL K g tb nx rt σ (.ref a) H :=
  ⟨a, rfl, ⟨xs, h⟩, for_list (D := ⟨nx, rt, fun _ _ => False, fun _ _ => False⟩) (xs := xs) Pv p0 hl ps pd⟩
/-! comprehensions: what a turn asks -/
def LT (j : Nat) (tt : TT) (te : TE) (vs : List Nat) (σ : L2.St) (Dl : Addr) (Nx : Hp → Prop) (x : V) (H : Hp) : Prop :=
  wipe ((wipe σ vs).set j (some x)) vs = wipe σ vs ∧ tt ((wipe σ vs).set j (some x)) H fun b H3 => if b = true then te ((wipe σ vs).set j (some x)) H3 fun y H4 => ∃ acc, H4 Dl = some (.lst acc) ∧ acc.length < sizeLine ∧ Nx (upd H4 Dl (.lst (acc ++ [y]))) else Nx H3
def CR1 (j : Nat) (tt : TT) (te : TE) (vs : List Nat) (σ : L2.St) (Q : VK) : List V → Hp → Prop := fun us H1 => ∃ n : Int, us = [.int n] ∧ -(2 ^ 62) ≤ n ∧ n < 2 ^ 62 ∧ ∀ D, H1 D = none → ∃ W : Nat → Nat → Hp → Prop, (∃ m, W 0 m (upd H1 D (.lst []))) ∧ ∀ i m H, W i m H →
  ((Itr 0 n.toNat).stop i H ∧ Q (.ref D) H) ∨ ((Itr 0 n.toNat).go i H ∧ ∃ Nx : Hp → Prop, (∀ H', Nx H' → ∃ m', m' < m ∧ W (i + 1) m' H') ∧ ∀ x H', (Itr 0 n.toNat).yld i H x H' → gName j x (wipe σ vs) H' fun σ2 H2 => wipe σ2 vs = wipe σ vs ∧ tt σ2 H2 fun b H3 =>
    if b = true then te σ2 H3 fun y H4 => ∃ acc, H4 D = some (.lst acc) ∧ acc.length < sizeLine ∧ Nx (upd H4 D (.lst (acc ++ [y]))) else Nx H3)
theorem i_lcR {ta : TA} {j : Nat} {tt : TT} {vs : List Nat} (q : ta σ H fun us H1 => CR1 j tt te vs σ Q us H1) : tLc (iRng1 ta) (gName j) tt te vs σ H Q := q
theorem cr1 {j : Nat} {tt : TT} {vs : List Nat} {n : Int} (h1 : -(2 ^ 62) ≤ n) (h2 : n < 2 ^ 62) (Pv : Addr → Nat → Hp → Prop) (p0 : ∀ D, H D = none → Pv D 0 (upd H D (.lst [])))
    (ps : ∀ D i H', H D = none → i < n.toNat → Pv D i H' → LT j tt te vs σ D (Pv D (i + 1)) (.int (i : Int)) H') (pd : ∀ D H', H D = none → Pv D n.toNat H' → Q (.ref D) H') : CR1 j tt te vs σ Q [.int n] H := by
  refine ⟨n, rfl, h1, h2, fun D hD => lc_range (lo := 0) (n := n.toNat) (Pv D) (p0 D hD) (fun i H' hi p => ?_) fun H' p => pd D H' hD p⟩
  have e0 : (0 : Int) + (i : Int) = (i : Int) := Int.zero_add _
  rw [e0]
  exact ps D i H' hD hi p
def CL (K : PySem.W.Frag) (g : TG) (tt : TT) (te : TE) (vs : List Nat) (σ : L2.St) (Q : VK) : V → Hp → Prop := fun x H1 => ∃ a, x = .ref a ∧ (∃ xs, SqL K H1 a xs) ∧ ∀ D, H1 D = none → ∃ W : Nat → Nat → Hp → Prop, (∃ m, W 0 m (upd H1 D (.lst []))) ∧ ∀ i m H, W i m H →
  ((Itl K a).stop i H ∧ Q (.ref D) H) ∨ ((Itl K a).go i H ∧ ∃ Nx : Hp → Prop, (∀ H', Nx H' → ∃ m', m' < m ∧ W (i + 1) m' H') ∧ ∀ x H', (Itl K a).yld i H x H' → g x (wipe σ vs) H' fun σ2 H2 => wipe σ2 vs = wipe σ vs ∧ tt σ2 H2 fun b H3 =>
    if b = true then te σ2 H3 fun y H4 => ∃ acc, H4 D = some (.lst acc) ∧ acc.length < sizeLine ∧ Nx (upd H4 D (.lst (acc ++ [y]))) else Nx H3)
theorem i_lcL {g : TG} {tt : TT} {vs : List Nat} (q : ta σ H fun x H1 => CL K g tt te vs σ Q x H1) : tLc (iList K ta) g tt te vs σ H Q := q
theorem cl {j : Nat} {tt : TT} {vs : List Nat} {a : Addr} {xs : List V} (h : SqL K H a xs) (Pv : Addr → Nat → Hp → Prop) (p0 : ∀ D, H D = none → Pv D 0 (upd H D (.lst []))) (hl : ∀ D i H', H D = none → i ≤ xs.length → Pv D i H' → SqL K H' a xs)
    (ps : ∀ D i x H', H D = none → xs[i]? = some x → Pv D i H' → LT j tt te vs σ D (Pv D (i + 1)) x H') (pd : ∀ D H', H D = none → Pv D xs.length H' → Q (.ref D) H') : CL K (gName j) tt te vs σ Q (.ref a) H :=
  ⟨a, rfl, ⟨xs, h⟩, fun D hD => lc_list (xs := xs) (Pv D) (p0 D hD) (fun i H' hi p => hl D i H' hD hi p) (fun i x H' hx p => ps D i x H' hD hx p) fun H' p => pd D H' hD p⟩
/-- .. over a text -/
def CS (g : TG) (tt : TT) (te : TE) (vs : List Nat) (σ : L2.St) (Q : VK) : V → Hp → Prop := fun x H1 => ∃ z, x = .str z ∧ ∀ D, H1 D = none → ∃ W : Nat → Nat → Hp → Prop, (∃ m, W 0 m (upd H1 D (.lst []))) ∧ ∀ i m H, W i m H →
  ((Its z).stop i H ∧ Q (.ref D) H) ∨ ((Its z).go i H ∧ ∃ Nx : Hp → Prop, (∀ H', Nx H' → ∃ m', m' < m ∧ W (i + 1) m' H') ∧ ∀ x H', (Its z).yld i H x H' → g x (wipe σ vs) H' fun σ2 H2 => wipe σ2 vs = wipe σ vs ∧ tt σ2 H2 fun b H3 =>
    if b = true then te σ2 H3 fun y H4 => ∃ acc, H4 D = some (.lst acc) ∧ acc.length < sizeLine ∧ Nx (upd H4 D (.lst (acc ++ [y]))) else Nx H3)
theorem i_lcS {g : TG} {tt : TT} {vs : List Nat} (q : ta σ H fun x H1 => CS g tt te vs σ Q x H1) : tLc (iStr ta) g tt te vs σ H Q := q
theorem cs {j : Nat} {tt : TT} {vs : List Nat} {z : Str} (Pv : Addr → Nat → Hp → Prop) (p0 : ∀ D, H D = none → Pv D 0 (upd H D (.lst [])))
    (ps : ∀ D i c H', H D = none → z.cps[i]? = some c → Pv D i H' → LT j tt te vs σ D (Pv D (i + 1)) (.str ⟨#[c]⟩) H') (pd : ∀ D H', H D = none → Pv D z.cps.size H' → Q (.ref D) H') : CS (gName j) tt te vs σ Q (.str z) H := by
  refine ⟨z, rfl, fun D hD => ⟨fun i m H' => m = z.cps.size - i ∧ i ≤ z.cps.size ∧ Pv D i H', ⟨z.cps.size, by simp, Nat.zero_le _, p0 D hD⟩, ?_⟩⟩
  rintro i m H' ⟨rfl, hi, p⟩
  by_cases hlt : i < z.cps.size
  · refine .inr ⟨hlt, Pv D (i + 1), fun H2 p' => ⟨z.cps.size - (i + 1), by omega, rfl, hlt, p'⟩, fun x H2 y => ?_⟩
    obtain ⟨e, c, hc, ex⟩ := y
    subst e ex
    exact ps D i c _ hD hc p
  · have e : i = z.cps.size := by omega
    subst e
    exact .inl ⟨Nat.le_refl _, pd D H' hD p⟩
end
/-! ### three comparisons in a row, a text times an int -/
section
variable {X : Cx} {a b c d : Expr} {ta tb tc td : TE} {pos : Pos}
def tChain3 (r r' r'' : R2) (ta tb tc td : TE) : TE := fun σ H Q => ta σ H fun x H1 => tb σ H1 fun y H2 => r x y H2 fun z H3 => ∃ k, z = .bl k ∧
  (if k = true then tc σ H3 fun w H4 => r' y w H4 fun z2 H5 => ∃ k2, z2 = .bl k2 ∧ (if k2 = true then td σ H5 fun w2 H6 => r'' w w2 H6 Q else Q (.bl false) H5) else Q (.bl false) H3)
theorem i_chain3 {r r' r'' : R2} {σ : L2.St} {H : Hp} {Q : VK} (q : ta σ H fun x H1 => tb σ H1 fun y H2 => r x y H2 fun z H3 => ∃ k, z = .bl k ∧
  (if k = true then tc σ H3 fun w H4 => r' y w H4 fun z2 H5 => ∃ k2, z2 = .bl k2 ∧ (if k2 = true then td σ H5 fun w2 H6 => r'' w w2 H6 Q else Q (.bl false) H5) else Q (.bl false) H3)) : tChain3 r r' r'' ta tb tc td σ H Q := q
theorem pe_chain3 {op op' op'' : CmpOp} {r r' r'' : R2} (ho : OpR X (compareOp op) r) (ho' : OpR X (compareOp op') r') (ho'' : OpR X (compareOp op'') r'') (ha : PE X a ta) (hb : PE X b tb) (hc : PE X c tc) (hd : PE X d td)
    (hm : lastMarks [op, op', op''] [b, c, d] = false := by with_unfolding_all rfl) : PE X (.Compare a [op, op', op''] [b, c, d] pos) (tChain3 r r' r'' ta tb tc td) := by
  refine ⟨fun pins s σ H Q I h => ?_⟩
  refine Compare_chain (thn (ha.run pins s σ H _ I h) fun v s1 ⟨x, H1, I1, r1, q1⟩ => chain_link (thn (hb.run pins s1 σ H1 _ I1 q1) fun u s2 ⟨y, H2, I2, r2, q2⟩ =>
    thn (ho pins s2 σ H2 x y v u _ I2 r1 r2 q2) fun d s3 ⟨z, H3, I3, r3, k, e, q3⟩ => ?_)) hm
  subst e
  cases r3
  refine wpAny_truthy_bool ?_
  cases k with
  | false => exact ite_ff ⟨.bl false, H3, I3, rfl, q3⟩
  | true =>
    refine ite_tt (chain_link (thn (hc.run pins s3 σ H3 _ I3 q3) fun w s4 ⟨z', H4, I4, r4, q4⟩ => thn (ho' pins s4 σ H4 y z' u w _ I4 r2 r4 q4) fun d5 s5 ⟨z5, H5, I5, r5, k5, e5, q5⟩ => ?_))
    subst e5
    cases r5
    refine wpAny_truthy_bool ?_
    cases k5 with
    | false => exact ite_ff ⟨.bl false, H5, I5, rfl, q5⟩
    | true => exact ite_tt (chain_last (thn (hd.run pins s5 σ H5 _ I5 q5) fun w6 s6 ⟨z6, H6, I6, r6, q6⟩ => ho'' pins s6 σ H6 z' z6 w w6 Q I6 r4 r6 q6))
/-- x * n, both small -/
def rMulS : R2 := fun x y H Q => ∃ (z : Str) (n : Int), x = .str z ∧ y = .int n ∧ 2 ≤ n ∧ n ≤ 1000 ∧ 1 ≤ z.length ∧ z.length ≤ 1000 ∧ Q (.str ⟨(List.replicate n.toNat z.cps).foldl (· ++ ·) #[]⟩) H
theorem op_mul_str : OpR X (binaryOp .Mult) rMulS := by
  intro pins s σ H x y v u Q I rx ry h
  obtain ⟨z, n, rfl, rfl, h2, h3, h1, h4, q⟩ := h
  obtain ⟨t, rfl⟩ := rx
  obtain ⟨t', rfl⟩ := ry
  have hl : ((List.replicate n.toNat z.cps).foldl (· ++ ·) #[]).size = n.toNat * z.cps.size := by
    have key : ∀ (m : Nat) (acc : Array Nat), ((List.replicate m z.cps).foldl (· ++ ·) acc).size = acc.size + m * z.cps.size := by
      intro m
      induction m with
      | zero => intro acc; simp
      | succ m ih =>
        intro acc
        rw [List.replicate_succ, List.foldl_cons, ih, Array.size_append, Nat.succ_mul]
        omega
    rw [key]
    simp
  have hz : z.cps.size = z.length := rfl
  have hb : n.toNat * z.length ≤ 1000000 := Nat.mul_le_mul (by omega : n.toNat ≤ 1000) h4
  refine PySem.P.mul_str ?_ ?_ ?_ ?_
  · rw [decide_eq_false (by omega), decide_eq_false (by omega)] <;> rfl
  · intro _ _
    have : (2 ^ 63 - 1 : Int) / n ≥ 1000 := by
      have := Int.le_ediv_of_mul_le (a := 1000) (b := 2 ^ 63 - 1) (c := n) (by omega) (by omega)
      omega
    omega
  · intro _ _
    unfold Builtin.Str.tooLong
    rw [Nat.mul_comm]
    exact decide_eq_false (by rw [sizeLine_eq]; omega)
  · rw [if_neg (by omega)]
    have e1 : (n == 1 || z.length == 0) = false := by
      have : ¬ n = 1 := by omega
      have : ¬ z.length = 0 := by omega
      simp [*]
    rw [e1, if_neg (by decide)]
    refine ⟨?_, ⟨.str _, H, I.tok _, ⟨_, rfl⟩, q⟩⟩
    show ((List.replicate n.toNat z.cps).foldl (· ++ ·) #[]).size ≤ sizeLine
    rw [hl, hz, sizeLine_eq]
    omega
end
end My
namespace My
open PySem PySem.Spec PyProof.Rows L2
/-! ### heaps -/
/-- all that was tracked stands, but what stands at s: there the first item alone -/
structure Fr (s : Addr) (H H' : Hp) : Prop where
  keep : ∀ b o, H b = some o → b ≠ s → H' b = some o
  top : ∀ (q : Addr) (r : List V), H s = some (.lst (.ref q :: r)) → ∃ r', H' s = some (.lst (.ref q :: r'))
section
variable {s p : Addr} {H H1 H2 : Hp} {o : HO}
theorem Fr.refl : Fr s H H := ⟨fun _ _ h _ => h, fun _ r h => ⟨r, h⟩⟩
theorem Fr.trans (a : Fr s H H1) (b : Fr s H1 H2) : Fr s H H2 := ⟨fun c o h n => b.1 c o (a.1 c o h n) n, fun q r h => by
  obtain ⟨r1, h1⟩ := a.2 q r h
  exact b.2 q r1 h1⟩
theorem Fr.new (a : Fr s H H1) (h : H1 p = none) : Fr s H (upd H1 p o) := ⟨fun c u e n => by
  rw [upd_ne (ne_of_none (a.1 c u e n) h)]
  exact a.1 c u e n, fun q r e => by
  obtain ⟨r1, h1⟩ := a.2 q r e
  exact ⟨r1, by rw [upd_ne (ne_of_none h1 h)]; exact h1⟩⟩
theorem Fr.set {q : Addr} {r r2 : List V} (a : Fr s H H1) (h : H1 s = some (.lst (.ref q :: r))) : Fr s H (upd H1 s (.lst (.ref q :: r2))) := ⟨fun c u e n => by
  rw [upd_ne n]
  exact a.1 c u e n, fun q' r' e => by
  obtain ⟨r1, h1⟩ := a.2 q' r' e
  rw [h] at h1
  cases h1
  exact ⟨r2, upd_same⟩⟩
/-- an object that H did not know is written -/
theorem Fr.mut (a : Fr s H H1) (h : H p = none) : Fr s H (upd H1 p o) := ⟨fun c u e n => by
  rw [upd_ne (ne_of_none e h)]
  exact a.1 c u e n, fun q r e => by
  obtain ⟨r1, h1⟩ := a.2 q r e
  exact ⟨r1, by rw [upd_ne (ne_of_none e h)]; exact h1⟩⟩
theorem Fr.same (a : Same H H1) : Fr s H H1 := ⟨fun c u e _ => a c u e, fun q r e => ⟨r, a _ _ e⟩⟩
theorem Fr.free (a : Fr s H H1) (h : H1 p = none) (n : p ≠ s) : H p = none := by
  cases e : H p with
  | none => rfl
  | some u =>
    rw [a.1 p u e n] at h
    cases h
theorem Fr.sqL {K : PySem.W.Frag} {xs : List V} (a : Fr s H H1) (h : SqL K H p xs) (n : p ≠ s) : SqL K H1 p xs := by
  rcases h with (h | ⟨o, h⟩) | h
  · exact .inl (.inl (a.1 _ _ h n))
  · exact .inl (.inr ⟨o, a.1 _ _ h n⟩)
  · exact .inr h
theorem same_new (h : H p = none) : Same H (upd H p o) := fun c u e => by
  rw [upd_ne (ne_of_none e h)]
  exact e
theorem same_mut (a : Same H H1) (h : H p = none) : Same H (upd H1 p o) := fun c u e => by
  rw [upd_ne (ne_of_none e h)]
  exact a c u e
theorem ne_none {H : Hp} {a b : Addr} {o : HO} (h : H a = some o) (h' : H b = none) : b ≠ a := (ne_of_none h h').symm
end
/-- the store of draws stands at s -/
def StOk (H : Hp) (s : Addr) : Prop := ∃ (q : Addr) (ns : List Int) (i1 n2 i3 i4 i5 i6 : Int), H s = some (.lst [.ref q, .int i1, .int n2, .int i3, .int i4, .int i5, .int i6]) ∧ H q = some (.lst (ns.map V.int)) ∧ q ≠ s ∧ 0 ≤ i1
theorem StOk.some {H : Hp} {s : Addr} (h : StOk H s) : ∃ o, H s = Option.some o := by
  obtain ⟨_, _, _, _, _, _, _, _, h, _⟩ := h
  exact ⟨_, h⟩
theorem StOk.ne {H : Hp} {s p : Addr} (h : StOk H s) (n : H p = none) : p ≠ s := by
  obtain ⟨o, e⟩ := h.some
  exact ne_none e n
theorem StOk.keep {H H' : Hp} {s : Addr} (h : StOk H s) (k : ∀ b o, H b = Option.some o → H' b = Option.some o) : StOk H' s := by
  obtain ⟨q, ns, i1, n2, i3, i4, i5, i6, h1, h2, h3, h4⟩ := h
  exact ⟨q, ns, i1, n2, i3, i4, i5, i6, k _ _ h1, k _ _ h2, h3, h4⟩
theorem StOk.same {H H' : Hp} {s : Addr} (h : StOk H s) (k : Same H H') : StOk H' s := h.keep k
theorem StOk.new {H : Hp} {s p : Addr} {o : HO} (h : StOk H s) (n : H p = none) : StOk (upd H p o) s := h.keep (same_new n)
/-- an object written that the store's first heap did not know -/
theorem StOk.mut {H H1 : Hp} {s p : Addr} {o : HO} (h0 : StOk H s) (f : Fr s H H1) (h : StOk H1 s) (n : H p = none) : StOk (upd H1 p o) s := by
  obtain ⟨q0, ns0, a1, a2, a3, a4, a5, a6, g1, g2, g3, g4⟩ := h0
  obtain ⟨q, ns, i1, n2, i3, i4, i5, i6, h1, h2, h3, h4⟩ := h
  obtain ⟨r, e⟩ := f.top _ _ g1
  rw [h1] at e
  cases e
  exact ⟨q0, ns, i1, n2, i3, i4, i5, i6, by rw [upd_ne (ne_of_none g1 n)]; exact h1, by rw [upd_ne (ne_of_none g2 n)]; exact h2, h3, h4⟩
/-- a def of the text as it stands behind the top -/
structure Dn (K : PySem.W.Frag) (mg : Str → Option Value) (x : Str) (st : Stmt) (ps : List Str) (f : Addr) (fd : FuncData) : Prop where
  F : Fun K x x st f fd
  b : Binds K fd ps []
  m : mg x = some (.ref f)
end My
namespace My
open PySem PySem.Spec PyProof.Rows L2
theorem pe_globE {X : Cx} {x : Str} {v : V} {pos : Pos} (hg : Gl X x) (hm : ∃ u, X.mg x = some u ∧ RelV v u) (hd : (x == ("__debug__" : Str)) = false := by decide) : PE X (.Name x pos) (tC v) := by
  obtain ⟨u, h, r⟩ := hm
  exact pe_glob hg h r hd
end My
namespace My
open PySem PySem.Spec PyProof.Rows L2
/-! ### built-ins by name, for steps -/
def rLenQ (K : PySem.W.Frag) : List V → Hp → VK → Prop := fun xs H Q => ∃ p ys, xs = [.ref p] ∧ (SqL K H p ys ∨ SqT K H p ys) ∧ Q (.int ys.length) H
def rLenZ : List V → Hp → VK → Prop := fun xs H Q => ∃ z, xs = [.str z] ∧ z.length ≤ sizeLine ∧ Q (.int z.length) H
def rInt1 : List V → Hp → VK → Prop := fun xs H Q => (∃ i, xs = [.int i] ∧ Q (.int i) H) ∨ ∃ k, xs = [.bl k] ∧ Q (.int (if k then 1 else 0)) H
def rListOf (K : PySem.W.Frag) : List V → Hp → VK → Prop := fun xs H Q => ∃ p ys, xs = [.ref p] ∧ (SqL K H p ys ∨ SqT K H p ys) ∧ ∀ l, H l = none → Q (.ref l) (upd H l (.lst ys))
def rTupOf (K : PySem.W.Frag) : List V → Hp → VK → Prop := fun xs H Q => ∃ p ys, xs = [.ref p] ∧ ((SqL K H p ys ∧ ∀ l, H l = none → Q (.ref l) (upd H l (.tup ys))) ∨ (SqT K H p ys ∧ Q (.ref p) H))
def rMx2 : List V → Hp → VK → Prop := fun xs H Q => ∃ i j, xs = [.int i, .int j] ∧ Q (.int (if j > i then j else i)) H
def rMn2 : List V → Hp → VK → Prop := fun xs H Q => ∃ i j, xs = [.int i, .int j] ∧ Q (.int (if j < i then j else i)) H
def rAddZ : R2 := fun x y H Q => ∃ i j, x = .str i ∧ y = .str j ∧ i.length + j.length ≤ sizeLine ∧ Q (.str (i ++ j)) H
def rInG : R2 := fun x y H Q => ∃ (c : Nat) (z : Str), x = .str ⟨#[c]⟩ ∧ y = .str z ∧ Q (.bl (decide (c ∈ z.cps.toList))) H
def rIsNn : R2 := fun x y H Q => y = .non ∧ Q (.bl (decide (x = .non))) H
def rNotNn : R2 := fun x y H Q => y = .non ∧ Q (.bl (!decide (x = .non))) H
def rUp : V → List V → Hp → VK → Prop := fun x xs H Q => ∃ a, x = .str a ∧ xs = [] ∧ a.length ≤ 5592405 ∧ Q (.str (Txt.upper a)) H
section
variable {X : Cx}
theorem n_lenQ : CallR X (.builtin "len") (rLenQ X.K) := call_len_seq
theorem n_lenZ : CallR X (.builtin "len") rLenZ := call_len_str
theorem n_int : CallR X (.type "int") rInt1 := call_int1
theorem n_list : CallR X (.type "list") (rListOf X.K) := call_list_of
theorem n_tuple : CallR X (.type "tuple") (rTupOf X.K) := call_tuple_of
theorem n_max (hc : X.calm = true) : CallR X (.builtin "max") rMx2 := call_max2 hc
theorem n_min (hc : X.calm = true) : CallR X (.builtin "min") rMn2 := call_min2 hc
theorem n_addZ : OpR X (binaryOp .Add) rAddZ := op_add_str
theorem n_inG : OpR X (compareOp .In) rInG := op_in_sign
theorem n_isN : OpR X (compareOp .Is) rIsNn := op_isN
theorem n_notN : OpR X (compareOp .IsNot) rNotNn := op_notN
theorem n_upper : MtR X "str.upper" rUp := mt_upper
end
section
variable {K : PySem.W.Frag} {σ : L2.St} {H : Hp} {Q : VK} {x : V} {te : TE} {tq : Bool → Hp → Prop} {R : Option Int → Hp → Prop}
theorem i_lenL {p : Addr} {ys : List V} (h : SqL K H p ys) (q : Q (.int ys.length) H) : rLenQ K [.ref p] H Q := ⟨p, ys, rfl, .inl h, q⟩
theorem i_lenT {p : Addr} {ys : List V} (h : SqT K H p ys) (q : Q (.int ys.length) H) : rLenQ K [.ref p] H Q := ⟨p, ys, rfl, .inr h, q⟩
theorem i_lenZ {z : Str} (h : z.length ≤ 100000) (q : Q (.int z.length) H) : rLenZ [.str z] H Q := ⟨z, rfl, Nat.le_trans h (by decide), q⟩
theorem i_int {i : Int} (q : Q (.int i) H) : rInt1 [.int i] H Q := .inl ⟨i, rfl, q⟩
theorem i_listL {p : Addr} {ys : List V} (h : SqL K H p ys) (q : ∀ l, H l = none → Q (.ref l) (upd H l (.lst ys))) : rListOf K [.ref p] H Q := ⟨p, ys, rfl, .inl h, q⟩
theorem i_tupL {p : Addr} {ys : List V} (h : SqL K H p ys) (q : ∀ l, H l = none → Q (.ref l) (upd H l (.tup ys))) : rTupOf K [.ref p] H Q := ⟨p, ys, rfl, .inl ⟨h, q⟩⟩
theorem i_max {i j : Int} (q : Q (.int (if j > i then j else i)) H) : rMx2 [.int i, .int j] H Q := ⟨i, j, rfl, q⟩
theorem i_min {i j : Int} (q : Q (.int (if j < i then j else i)) H) : rMn2 [.int i, .int j] H Q := ⟨i, j, rfl, q⟩
theorem i_addZ {i j : Str} (h : i.length + j.length ≤ 100000) (q : Q (.str (i ++ j)) H) : rAddZ (.str i) (.str j) H Q := ⟨i, j, rfl, rfl, Nat.le_trans h (by decide), q⟩
theorem i_inG {c : Nat} {z : Str} (q : Q (.bl (decide (c ∈ z.cps.toList))) H) : rInG (.str ⟨#[c]⟩) (.str z) H Q := ⟨c, z, rfl, rfl, q⟩
theorem i_isN (q : Q (.bl (decide (x = .non))) H) : rIsNn x .non H Q := ⟨rfl, q⟩
theorem i_notN (q : Q (.bl (!decide (x = .non))) H) : rNotNn x .non H Q := ⟨rfl, q⟩
theorem i_up {a : Str} (h : a.length ≤ 100000) (q : Q (.str (Txt.upper a)) H) : rUp (.str a) [] H Q := ⟨a, rfl, rfl, Nat.le_trans h (by decide), q⟩
theorem i_BM0 {T : String} {r : V → List V → Hp → VK → Prop} (q : te σ H fun x H1 => tyV K T x H1 ∧ r x [] H1 Q) : tBM0 K T r te σ H Q := q
theorem i_BM {T : String} {r : V → List V → Hp → VK → Prop} {ta : TA} (q : te σ H fun x H1 => tyV K T x H1 ∧ ta σ H1 fun xs H2 => r x xs H2 Q) : tBM K T r te ta σ H Q := q
theorem i_noPart (q : R none H) : tNoPart σ H R := q
theorem i_part (q : te σ H fun x H1 => ∃ i, x = .int i ∧ R (some i) H1) : tPart te σ H R := q
theorem i_exint {P : Int → Prop} {i : Int} (q : P i) : ∃ k, V.int i = .int k ∧ P k := ⟨i, rfl, q⟩
theorem i_slS {z : Str} {lo hi : Option Int} (h : z.length ≤ 100000) (q : Q (.str (cutS z lo hi)) H) : rSlS (.str z) lo hi H Q := ⟨z, rfl, Nat.le_trans h (by decide), q⟩
theorem i_slL {p : Addr} {xs : List V} {lo hi : Option Int} (h : SqL K H p xs) (q : ∀ l, H l = none → Q (.ref l) (upd H l (.lst (cutV xs lo hi)))) : rSlL K (.ref p) lo hi H Q := ⟨p, xs, rfl, h, q⟩
theorem i_cat {p l : Addr} {xs zs : List V} (h1 : H p = some (.lst xs)) (h2 : H l = some (.lst zs)) (hl : xs.length + zs.length ≤ 100000) (q : ∀ n, H n = none → Q (.ref n) (upd H n (.lst (xs ++ zs)))) : rCat (.ref p) (.ref l) H Q := ⟨p, l, xs, zs, rfl, rfl, h1, h2, Nat.le_trans hl (by decide), q⟩
def RevEnd (K : PySem.W.Frag) (Q : VK) (x : V) (H1 : Hp) : Prop := ∃ a xs, x = .ref a ∧ SqL K H1 a xs ∧ ∀ p, H1 p = none → Q (.ref p) (upd H1 p (.lst xs.reverse))
theorem i_revL (q : te σ H fun x H1 => RevEnd K Q x H1) : tRevL K te σ H Q := q
theorem i_yes (q : tq true H) : tYes σ H tq := q
theorem i_all {p : Addr} {bs : List Bool} (h : SqL K H p (bs.map V.bl)) (q : Q (.bl (bs.all id)) H) : rAll K [.ref p] H Q := ⟨p, bs, rfl, h, q⟩
theorem i_isi {c : V} {t u : Value} {b : Bool} (k : ClsV c u) (ty : TyX K H x t) (e : PySem.W.kitOne K t u = some b) (q : Q (.bl b) H) : rIsi K [x, c] H Q := ⟨x, c, t, u, b, rfl, k, ty, e, q⟩
theorem i_mulS {z : Str} {n : Int} (h1 : 2 ≤ n ∧ n ≤ 1000) (h2 : 1 ≤ z.length ∧ z.length ≤ 1000) (q : Q (.str ⟨(List.replicate n.toNat z.cps).foldl (· ++ ·) #[]⟩) H) : rMulS (.str z) (.int n) H Q := ⟨z, n, rfl, rfl, h1.1, h1.2, h2.1, h2.2, q⟩
end
theorem len_app (i j : Str) : (i ++ j).length = i.length + j.length := by
  show (i.cps ++ j.cps).size = _
  rw [Array.size_append] <;> rfl
theorem len_one (c : Nat) : (⟨#[c]⟩ : Str).length = 1 := rfl
theorem ex_eq {H : Hp} {P : Bool → Prop} {b : Bool} (q : P b) : ∃ k, V.bl b = .bl k ∧ P k := ⟨b, rfl, q⟩
end My
namespace My
open PySem PySem.Spec PyProof.Rows L2
theorem i_cut {σ : L2.St} {H : Hp} {t u : TS} {nx bk ct : L2.St → Hp → Prop} {rt : VK} (Mid : L2.St → Hp → Prop) (a : t ⟨Mid, rt, bk, ct⟩ σ H) (b : ∀ σ' H', Mid σ' H' → u ⟨nx, rt, bk, ct⟩ σ' H') : Evl.tCut t u ⟨nx, rt, bk, ct⟩ σ H := ⟨Mid, a, b⟩
theorem i_mulI {H : Hp} {Q : VK} {g : Int → Int → V} {i j : Int} (c : CMul i j) (q : Q (g i j) H) : rI CMul g (.int i) (.int j) H Q := ⟨i, j, rfl, rfl, c, q⟩
theorem i_divW {H : Hp} {Q : VK} {g : Int → Int → V} {i j : Int} (c : CDivW i j) (q : Q (g i j) H) : rI CDivW g (.int i) (.int j) H Q := ⟨i, j, rfl, rfl, c, q⟩
theorem i_modI {H : Hp} {Q : VK} {g : Int → Int → V} {i j : Int} (c : 0 < j) (q : Q (g i j) H) : rI (fun _ j => 0 < j) g (.int i) (.int j) H Q := ⟨i, j, rfl, rfl, c, q⟩
end My
namespace My
open PySem PySem.Spec PyProof.Rows L2
theorem i_isiT {K : PySem.W.Frag} {H : Hp} {Q : VK} {x : V} {tp : Addr} {cs : List V} {t : Value} {us : List Value} {b : Bool} (hT : H tp = some (.tup cs)) (k : Paired ClsV cs us) (ty : TyX K H x t) (e : PySem.W.kitAny K t us = some b) (q : Q (.bl b) H) : rIsiT K [x, .ref tp] H Q := ⟨x, tp, cs, t, us, b, rfl, hT, k, ty, e, q⟩
theorem i_isi1 {K : PySem.W.Frag} {H : Hp} {Q : VK} {x : V} {c tn : String} {b : Bool} (ty : TyX K H x (.type tn)) (e : kitB tn c = some b) (q : Q (.bl b) H) : rIsi K [x, .ty c] H Q := ⟨x, _, _, _, b, rfl, .ty c, ty, kit_ty e, q⟩
theorem i_isi2 {K : PySem.W.Frag} {H : Hp} {Q : VK} {x : V} {c d tn : String} {b b2 : Bool} {p : Addr} (hT : H p = some (.tup [.ty c, .ty d])) (ty : TyX K H x (.type tn)) (e : kitB tn c = some b) (e2 : kitB tn d = some b2) (q : Q (.bl (b || b2)) H) : rIsiT K [x, .ref p] H Q := by
  refine ⟨x, p, _, _, [.type c, .type d], b || b2, rfl, hT, .cons (.ty c) (.cons (.ty d) .nil), ty, ?_, q⟩
  refine kitAny_cons (kit_ty e) (fun h => ?_) (fun h => by rw [h]; rfl)
  refine kitAny_cons (kit_ty e2) (fun h2 => ?_) (fun h2 => by rw [h, h2]; rfl)
  rw [h, h2]
  exact kitAny_nil
end My
namespace My
open PySem PySem.Spec PyProof.Rows L2
theorem i_isi2' {K : PySem.W.Frag} {H : Hp} {Q : VK} {x : V} {c d tn : String} {p : Addr} (b b2 r : Bool) (hT : H p = some (.tup [.ty c, .ty d])) (ty : TyX K H x (.type tn)) (e : kitB tn c = some b) (e2 : kitB tn d = some b2) (er : (b || b2) = r) (q : Q (.bl r) H) : rIsiT K [x, .ref p] H Q := by
  subst er
  exact i_isi2 hT ty e e2 q
theorem i_nF {A B : Prop} (h : A) : if (!false) = true then A else B := h
theorem i_nT {A B : Prop} (h : B) : if (!true) = true then A else B := h
end My
namespace My
open PySem PySem.Spec PyProof.Rows L2
section
variable {H : Hp} {Q : VK}
theorem i_isN_int {i : Int} (q : Q (.bl false) H) : rIsNn (.int i) .non H Q := ⟨rfl, by simpa using q⟩
theorem i_isN_str {i : Str} (q : Q (.bl false) H) : rIsNn (.str i) .non H Q := ⟨rfl, by simpa using q⟩
theorem i_isN_bl {i : Bool} (q : Q (.bl false) H) : rIsNn (.bl i) .non H Q := ⟨rfl, by simpa using q⟩
theorem i_isN_ref {i : Addr} (q : Q (.bl false) H) : rIsNn (.ref i) .non H Q := ⟨rfl, by simpa using q⟩
theorem i_isN_non (q : Q (.bl true) H) : rIsNn .non .non H Q := ⟨rfl, by simpa using q⟩
theorem i_notN_int {i : Int} (q : Q (.bl true) H) : rNotNn (.int i) .non H Q := ⟨rfl, by simpa using q⟩
theorem i_notN_str {i : Str} (q : Q (.bl true) H) : rNotNn (.str i) .non H Q := ⟨rfl, by simpa using q⟩
theorem i_notN_bl {i : Bool} (q : Q (.bl true) H) : rNotNn (.bl i) .non H Q := ⟨rfl, by simpa using q⟩
theorem i_notN_ref {i : Addr} (q : Q (.bl true) H) : rNotNn (.ref i) .non H Q := ⟨rfl, by simpa using q⟩
theorem i_notN_non (q : Q (.bl false) H) : rNotNn .non .non H Q := ⟨rfl, by simpa using q⟩
end
end My
namespace My
open PySem PySem.Spec PyProof.Rows L2
theorem nbT {b : Bool} (h : (!b) = true) : b = false := by cases b <;> first | rfl | cases h
theorem nbF {b : Bool} (h : (!b) = false) : b = true := by cases b <;> first | rfl | cases h
theorem of_arr {z : Str} {i c : Nat} (h : z.cps[i]? = some c) : z.cps.toList[i]? = some c := by rw [Array.getElem?_toList]; exact h
theorem take_map {α β : Type} {l : List α} {i : Nat} {c : α} (f : α → β) (h : l[i]? = some c) : (l.take (i + 1)).map f = (l.take i).map f ++ [f c] := by
  rw [List.take_add_one, h, List.map_append]
  rfl
theorem take_filter {α : Type} {l : List α} {i : Nat} {c : α} (p : α → Bool) (h : l[i]? = some c) : (l.take (i + 1)).filter p = (l.take i).filter p ++ (if p c = true then [c] else []) := by
  rw [List.take_add_one, h, List.filter_append]
  show _ ++ List.filter p [c] = _
  rw [List.filter_cons]
  split <;> rfl
theorem take_all {α : Type} {l : List α} : l.take l.length = l := List.take_length
end My
namespace My
open PySem PySem.Spec PyProof.Rows L2
/-- a new object, the heap behind it by a name of its own -/
theorem laid {H : Hp} {p : Addr} {o : HO} {G : Hp → Prop} (hp : H p = none) (k : ∀ H1, Same H H1 → H1 p = some o → G H1) : G (upd H p o) := k _ (same_new hp) upd_same
theorem laidF {s : Addr} {H0 H : Hp} {p : Addr} {o : HO} {G : Hp → Prop} (f : Fr s H0 H) (st : StOk H s) (hp : H p = none) (k : ∀ H1, Same H H1 → H1 p = some o → p ≠ s → H0 p = none → StOk H1 s → Fr s H0 H1 → G H1) : G (upd H p o) :=
  k _ (same_new hp) upd_same (st.ne hp) (f.free hp (st.ne hp)) (st.new hp) (f.new hp)
theorem len_cut (z : Str) (lo hi : Option Int) : (cutS z lo hi).length ≤ z.length := cutS_length z lo hi
theorem len_cut_to (z : Str) (n : Nat) : (cutS z none (some (n : Int))).length ≤ n := by
  show (((z.cps.toList.drop (HT.sIx z.length 0 none)).take (HT.sIx z.length z.length (some (n : Int)) - HT.sIx z.length 0 none)).toArray).size ≤ n
  rw [List.size_toArray, List.length_take, HT.sIx_nat, HT.sIx_none]
  omega
end My
namespace My
open PySem PySem.Spec PyProof.Rows L2
def rLenV (K : PySem.W.Frag) : List V → Hp → VK → Prop := fun xs H Q => ∃ x n, xs = [x] ∧ LenV K x H n ∧ Q (.int n) H
theorem n_lenV {X : Cx} : CallR X (.builtin "len") (rLenV X.K) := fun pins s σ H xs us Q I r h => call_len pins s σ H xs us Q I r (by
  obtain ⟨x, n, e, l, q⟩ := h
  exact ⟨x, n, e, l, q⟩)
section
variable {K : PySem.W.Frag} {H : Hp} {Q : VK} {A : Prop}
theorem i_lenVL {p : Addr} {ys : List V} (h : SqL K H p ys) (q : Q (.int ys.length) H) : rLenV K [.ref p] H Q := ⟨_, _, rfl, .inl ⟨ys, h, rfl⟩, q⟩
theorem i_lenVT {p : Addr} {ys : List V} (h : SqT K H p ys) (q : Q (.int ys.length) H) : rLenV K [.ref p] H Q := ⟨_, _, rfl, .inr ⟨ys, h, rfl⟩, q⟩
theorem i_lenVS {z : Str} (h : z.length ≤ 100000) (q : Q (.int z.length) H) : rLenV K [.str z] H Q := ⟨_, _, rfl, ⟨Nat.le_trans h (by decide), rfl⟩, q⟩
theorem i_ixAL {p : Addr} {xs : List V} {i : Int} {v : V} (h : SqL K H p xs) (ha : atI xs i = some v) (q : Q v H) : rIx K (.ref p) (.int i) H Q := .inl ⟨p, xs, i, v, rfl, rfl, h, ha, q⟩
theorem i_ixAT {p : Addr} {xs : List V} {i : Int} {v : V} (h : SqT K H p xs) (ha : atI xs i = some v) (q : Q v H) : rIx K (.ref p) (.int i) H Q := .inr (.inl ⟨p, xs, i, v, rfl, rfl, h, ha, q⟩)
theorem i_ixAS {z : Str} {i : Int} {c : Nat} (h : z.length ≤ 100000) (ha : atI z.cps.toList i = some c) (q : Q (.str ⟨#[c]⟩) H) : rIx K (.str z) (.int i) H Q := .inr (.inr ⟨z, i, c, rfl, rfl, Nat.le_trans h (by decide), ha, q⟩)
theorem i_tyS {z : Str} (q : A) : tyV K "str" (.str z) H ∧ A := ⟨rfl, q⟩
theorem i_tyL {p : Addr} {xs : List V} (h : SqL K H p xs) (q : A) : tyV K "list" (.ref p) H ∧ A := ⟨.inl ⟨rfl, xs, h⟩, q⟩
/-! texts by their lengths alone -/
theorem a_add {i j : Str} (h : i.length + j.length ≤ 100000) (q : ∀ w : Str, w.length = i.length + j.length → Q (.str w) H) : rAddZ (.str i) (.str j) H Q := i_addZ h (q _ (len_app i j))
theorem a_sl {z : Str} {lo hi : Option Int} (h : z.length ≤ 100000) (q : ∀ w : Str, w.length ≤ z.length → Q (.str w) H) : rSlS (.str z) lo hi H Q := i_slS h (q _ (len_cut _ _ _))
theorem a_up {a : Str} (h : a.length ≤ 100000) (q : ∀ w : Str, w.length ≤ 3 * a.length → Q (.str w) H) : rUp (.str a) [] H Q := i_up h (q _ (PyProof.Rows.len_upper a))
theorem a_mul {z : Str} {n : Int} (h1 : 2 ≤ n ∧ n ≤ 1000) (h2 : 1 ≤ z.length ∧ z.length ≤ 1000) (q : ∀ w : Str, w.length = n.toNat * z.length → Q (.str w) H) : rMulS (.str z) (.int n) H Q := i_mulS h1 h2 (q _ (by
  have key : ∀ (m : Nat) (acc : Array Nat), ((List.replicate m z.cps).foldl (· ++ ·) acc).size = acc.size + m * z.cps.size := by
    intro m
    induction m with
    | zero => intro acc; simp
    | succ m ih =>
      intro acc
      rw [List.replicate_succ, List.foldl_cons, ih, Array.size_append, Nat.succ_mul]
      omega
  show ((List.replicate n.toNat z.cps).foldl (· ++ ·) #[]).size = _
  rw [key]
  simp
  rfl))
end
theorem at_str {z : Str} {i : Int} (h0 : 0 ≤ i) (h1 : i < z.length) : ∃ c, atI z.cps.toList i = some c ∧ c ∈ z.cps.toList := by
  have hl : i.toNat < z.cps.toList.length := by
    rw [Array.length_toList]
    show i.toNat < z.length
    omega
  refine ⟨z.cps.toList[i.toNat], ?_, List.getElem_mem hl⟩
  have e : i = ((i.toNat : Nat) : Int) := by omega
  have h := atI_nat (List.getElem?_eq_getElem hl)
  rw [← e] at h
  exact h
end My
namespace My
open PySem PySem.Spec PyProof.Rows L2
/-! ### new objects, the heap behind them by a name of its own -/
section
variable {K : PySem.W.Frag} {H : Hp} {Q : VK} {xs zs : List V}
theorem lst_end (h : xs.length ≤ 100000) (k : ∀ p H1, H p = none → Same H H1 → H1 p = some (.lst xs) → Q (.ref p) H1) : LstEnd Q xs H := ⟨Nat.le_trans h (by decide), fun p hp => k p _ hp (same_new hp) upd_same⟩
theorem tup_end (h : xs.length ≤ 100000) (k : ∀ p H1, H p = none → Same H H1 → H1 p = some (.tup xs) → Q (.ref p) H1) : TupEnd Q xs H := ⟨Nat.le_trans h (by decide), fun p hp => k p _ hp (same_new hp) upd_same⟩
theorem cat_end {a b : Addr} (h1 : H a = some (.lst xs)) (h2 : H b = some (.lst zs)) (h : xs.length + zs.length ≤ 100000) (k : ∀ p H1, H p = none → Same H H1 → H1 p = some (.lst (xs ++ zs)) → Q (.ref p) H1) : rCat (.ref a) (.ref b) H Q :=
  ⟨a, b, xs, zs, rfl, rfl, h1, h2, Nat.le_trans h (by decide), fun p hp => k p _ hp (same_new hp) upd_same⟩
/-- a list of texts, each short -/
def Short (n : Nat) (vs : List V) : Prop := ∀ v ∈ vs, ∃ z : Str, v = .str z ∧ z.length ≤ n
theorem Short.nil {n : Nat} : Short n [] := fun _ h => nomatch h
theorem Short.cons {n : Nat} {z : Str} {vs : List V} (h : z.length ≤ n) (t : Short n vs) : Short n (.str z :: vs) := by
  intro v hv
  rcases List.mem_cons.mp hv with rfl | hv
  · exact ⟨z, rfl, h⟩
  · exact t v hv
theorem Short.app {n : Nat} {xs ys : List V} (a : Short n xs) (b : Short n ys) : Short n (xs ++ ys) := fun v hv => (List.mem_append.mp hv).elim (a v) (b v)
theorem Short.rev {n : Nat} {xs : List V} (a : Short n xs) : Short n xs.reverse := fun v hv => a v (List.mem_reverse.mp hv)
theorem lst_short {n m : Nat} (hs : Short n xs) (hm : xs.length = m) (h : m ≤ 100000) (k : ∀ p ys H1, H p = none → Same H H1 → H1 p = some (.lst ys) → ys.length = m → Short n ys → Q (.ref p) H1) : LstEnd Q xs H :=
  lst_end (by omega) fun p H1 a b c => k p xs H1 a b c hm hs
theorem same_free {H H1 : Hp} {p : Addr} (s : Same H H1) (h : H1 p = none) : H p = none := s.free h
end
end My
namespace My
open PySem PySem.Spec PyProof.Rows L2
theorem lst_p {H : Hp} {Q : VK} {xs : List V} (R : List V → Prop) (hR : R xs) (h : xs.length ≤ 100000) (k : ∀ p ys H1, H p = none → Same H H1 → H1 p = some (.lst ys) → R ys → Q (.ref p) H1) : LstEnd Q xs H :=
  lst_end h fun p H1 a b c => k p xs H1 a b c hR
end My
namespace My
open PySem PySem.Spec PyProof.Rows L2
theorem i_append {H : Hp} {Q : VK} {p : Addr} {xs : List V} {v : V} (h : H p = some (.lst xs)) (hl : xs.length < 100000) (q : Q .non (upd H p (.lst (xs ++ [v])))) : rAppend (.ref p) [v] H Q :=
  ⟨p, xs, v, rfl, rfl, h, Nat.lt_of_lt_of_le hl (by decide), q⟩
end My
namespace My
open PySem PySem.Spec PyProof.Rows L2
theorem rev_end {K : PySem.W.Frag} {H : Hp} {Q : VK} {p : Addr} {xs : List V} (h : SqL K H p xs) (k : ∀ r H1, H r = none → Same H H1 → H1 r = some (.lst xs.reverse) → Q (.ref r) H1) : RevEnd K Q (.ref p) H :=
  ⟨p, xs, rfl, h, fun r hr => k r _ hr (same_new hr) upd_same⟩
end My
namespace My
open PySem PySem.Spec PyProof.Rows L2
def topS (i : Nat) : Stmt := PySem.Challenge.pw_drowsefolk_k00_names_and_numbers.main.body.getD i (.Pass ⟨0, 0, 0, 0⟩)
abbrev s_is_name : Stmt := topS 24
abbrev n_is_name : List Str := ["text", "sign"]
abbrev p_is_name : List Str := ["text"]
theorem sc_is_name : FnScope n_is_name p_is_name (defScope s_is_name) := ⟨rfl, rfl, rfl, by decide +kernel, rfl, by decide +kernel, by decide +kernel⟩
abbrev s_is_number : Stmt := topS 25
abbrev n_is_number : List Str := ["value", "low", "high"]
abbrev p_is_number : List Str := ["value", "low", "high"]
theorem sc_is_number : FnScope n_is_number p_is_number (defScope s_is_number) := ⟨rfl, rfl, rfl, by decide +kernel, rfl, by decide +kernel, by decide +kernel⟩
abbrev s_law_store : Stmt := topS 27
abbrev n_law_store : List Str := ["script", "total", "cell"]
abbrev p_law_store : List Str := ["script"]
theorem sc_law_store : FnScope n_law_store p_law_store (defScope s_law_store) := ⟨rfl, rfl, rfl, by decide +kernel, rfl, by decide +kernel, by decide +kernel⟩
abbrev s_law_next : Stmt := topS 28
abbrev n_law_next : List Str := ["store", "cell"]
abbrev p_law_next : List Str := ["store"]
theorem sc_law_next : FnScope n_law_next p_law_next (defScope s_law_next) := ⟨rfl, rfl, rfl, by decide +kernel, rfl, by decide +kernel, by decide +kernel⟩
abbrev s_law_raw : Stmt := topS 29
abbrev n_law_raw : List Str := ["store", "one", "two"]
abbrev p_law_raw : List Str := ["store"]
theorem sc_law_raw : FnScope n_law_raw p_law_raw (defScope s_law_raw) := ⟨rfl, rfl, rfl, by decide +kernel, rfl, by decide +kernel, by decide +kernel⟩
abbrev s_law_take : Stmt := topS 30
abbrev n_law_take : List Str := ["store", "many", "number", "size", "k"]
abbrev p_law_take : List Str := ["store", "many"]
theorem sc_law_take : FnScope n_law_take p_law_take (defScope s_law_take) := ⟨rfl, rfl, rfl, by decide +kernel, rfl, by decide +kernel, by decide +kernel⟩
abbrev s_law_some : Stmt := topS 31
abbrev n_law_some : List Str := ["store", "low", "high", "pick"]
abbrev p_law_some : List Str := ["store", "low", "high"]
theorem sc_law_some : FnScope n_law_some p_law_some (defScope s_law_some) := ⟨rfl, rfl, rfl, by decide +kernel, rfl, by decide +kernel, by decide +kernel⟩
abbrev s_law_number : Stmt := topS 32
abbrev n_law_number : List Str := ["store", "pick", "row"]
abbrev p_law_number : List Str := ["store"]
theorem sc_law_number : FnScope n_law_number p_law_number (defScope s_law_number) := ⟨rfl, rfl, rfl, by decide +kernel, rfl, by decide +kernel, by decide +kernel⟩
abbrev s_law_pick : Stmt := topS 33
abbrev n_law_pick : List Str := ["store", "row"]
abbrev p_law_pick : List Str := ["store", "row"]
theorem sc_law_pick : FnScope n_law_pick p_law_pick (defScope s_law_pick) := ⟨rfl, rfl, rfl, by decide +kernel, rfl, by decide +kernel, by decide +kernel⟩
abbrev s_law_same : Stmt := topS 34
abbrev n_law_same : List Str := ["one", "other", "k"]
abbrev p_law_same : List Str := ["one", "other"]
theorem sc_law_same : FnScope n_law_same p_law_same (defScope s_law_same) := ⟨rfl, rfl, rfl, by decide +kernel, rfl, by decide +kernel, by decide +kernel⟩
abbrev s_law_name : Stmt := topS 35
abbrev n_law_name : List Str := ["store", "words", "signs", "name", "k"]
abbrev p_law_name : List Str := ["store"]
theorem sc_law_name : FnScope n_law_name p_law_name (defScope s_law_name) := ⟨rfl, rfl, rfl, by decide +kernel, rfl, by decide +kernel, by decide +kernel⟩
abbrev s_law_bad_name : Stmt := topS 36
abbrev n_law_bad_name : List Str := ["store", "wrong", "name", "pick", "place", "sign"]
abbrev p_law_bad_name : List Str := ["store"]
theorem sc_law_bad_name : FnScope n_law_bad_name p_law_bad_name (defScope s_law_bad_name) := ⟨rfl, rfl, rfl, by decide +kernel, rfl, by decide +kernel, by decide +kernel⟩
abbrev s_law_text : Stmt := topS 37
abbrev n_law_text : List Str := ["store", "wide", "plain", "pick", "name", "place", "size", "text", "k"]
abbrev p_law_text : List Str := ["store"]
theorem sc_law_text : FnScope n_law_text p_law_text (defScope s_law_text) := ⟨rfl, rfl, rfl, by decide +kernel, rfl, by decide +kernel, by decide +kernel⟩
abbrev s_law_near : Stmt := topS 38
abbrev n_law_near : List Str := ["text", "out"]
abbrev p_law_near : List Str := ["text"]
theorem sc_law_near : FnScope n_law_near p_law_near (defScope s_law_near) := ⟨rfl, rfl, rfl, by decide +kernel, rfl, by decide +kernel, by decide +kernel⟩
abbrev s_law_form : Stmt := topS 39
abbrev n_law_form : List Str := ["text", "letters", "fit", "sign"]
abbrev p_law_form : List Str := ["text"]
theorem sc_law_form : FnScope n_law_form p_law_form (defScope s_law_form) := ⟨rfl, rfl, rfl, by decide +kernel, rfl, by decide +kernel, by decide +kernel⟩
abbrev s_law_cut : Stmt := topS 40
abbrev n_law_cut : List Str := ["number"]
abbrev p_law_cut : List Str := ["number"]
theorem sc_law_cut : FnScope n_law_cut p_law_cut (defScope s_law_cut) := ⟨rfl, rfl, rfl, by decide +kernel, rfl, by decide +kernel, by decide +kernel⟩
abbrev s_law_question : Stmt := topS 41
abbrev n_law_question : List Str := ["store", "low", "high", "pick", "row", "value"]
abbrev p_law_question : List Str := ["store"]
theorem sc_law_question : FnScope n_law_question p_law_question (defScope s_law_question) := ⟨rfl, rfl, rfl, by decide +kernel, rfl, by decide +kernel, by decide +kernel⟩
abbrev s_law_texts_fine : Stmt := topS 42
abbrev n_law_texts_fine : List Str := ["texts", "text"]
abbrev p_law_texts_fine : List Str := ["texts"]
theorem sc_law_texts_fine : FnScope n_law_texts_fine p_law_texts_fine (defScope s_law_texts_fine) := ⟨rfl, rfl, rfl, by decide +kernel, rfl, by decide +kernel, by decide +kernel⟩
abbrev s_law_numbers_fine : Stmt := topS 43
abbrev n_law_numbers_fine : List Str := ["questions", "value", "low", "high"]
abbrev p_law_numbers_fine : List Str := ["questions"]
theorem sc_law_numbers_fine : FnScope n_law_numbers_fine p_law_numbers_fine (defScope s_law_numbers_fine) := ⟨rfl, rfl, rfl, by decide +kernel, rfl, by decide +kernel, by decide +kernel⟩
abbrev s_law_constants_fine : Stmt := topS 44
abbrev n_law_constants_fine : List Str := ["told", "due"]
abbrev p_law_constants_fine : List Str := []
theorem sc_law_constants_fine : FnScope n_law_constants_fine p_law_constants_fine (defScope s_law_constants_fine) := ⟨rfl, rfl, rfl, by decide +kernel, rfl, by decide +kernel, by decide +kernel⟩
abbrev s_law : Stmt := topS 45
abbrev n_law : List Str := ["script", "store", "drawn", "texts", "text", "questions", "k"]
abbrev p_law : List Str := ["script"]
theorem sc_law : FnScope n_law p_law (defScope s_law) := ⟨rfl, rfl, rfl, by decide +kernel, rfl, by decide +kernel, by decide +kernel⟩
structure Txt (K : PySem.W.Frag) (mg : Str → Option Value) : Prop where
  b_all : mg "all" = none
  b_bool : mg "bool" = none
  b_int : mg "int" = none
  b_isinstance : mg "isinstance" = none
  b_len : mg "len" = none
  b_list : mg "list" = none
  b_max : mg "max" = none
  b_min : mg "min" = none
  b_range : mg "range" = none
  b_str : mg "str" = none
  b_tuple : mg "tuple" = none
  c_CLASS_LIMIT : ∃ u, mg "CLASS_LIMIT" = some u ∧ RelV (.int 400) u
  c_KEEPER_LIMIT : ∃ u, mg "KEEPER_LIMIT" = some u ∧ RelV (.int 6) u
  c_LIGHT_LIMIT : ∃ u, mg "LIGHT_LIMIT" = some u ∧ RelV (.int 4) u
  c_MOST_BORDER : ∃ u, mg "MOST_BORDER" = some u ∧ RelV (.int 3) u
  c_MOST_DEEDS : ∃ u, mg "MOST_DEEDS" = some u ∧ RelV (.int 200) u
  c_MOST_DEPTH : ∃ u, mg "MOST_DEPTH" = some u ∧ RelV (.int 4) u
  c_MOST_FOLK : ∃ u, mg "MOST_FOLK" = some u ∧ RelV (.int 10) u
  c_MOST_GAP : ∃ u, mg "MOST_GAP" = some u ∧ RelV (.int 6) u
  c_MOST_LINES : ∃ u, mg "MOST_LINES" = some u ∧ RelV (.int 40) u
  c_MOST_NUMBER : ∃ u, mg "MOST_NUMBER" = some u ∧ RelV (.int 9999) u
  c_MOST_OUTER : ∃ u, mg "MOST_OUTER" = some u ∧ RelV (.int 7) u
  c_MOST_ROWS : ∃ u, mg "MOST_ROWS" = some u ∧ RelV (.int 60) u
  c_MOST_SIGHTINGS : ∃ u, mg "MOST_SIGHTINGS" = some u ∧ RelV (.int 8) u
  c_MOST_TICKS : ∃ u, mg "MOST_TICKS" = some u ∧ RelV (.int 90) u
  c_MOST_WATCHES : ∃ u, mg "MOST_WATCHES" = some u ∧ RelV (.int 24) u
  c_PIECE_FOLK : ∃ u, mg "PIECE_FOLK" = some u ∧ RelV (.int 9) u
  c_PIECE_WATCHES : ∃ u, mg "PIECE_WATCHES" = some u ∧ RelV (.int 21) u
  c_RENAME_LIMIT : ∃ u, mg "RENAME_LIMIT" = some u ∧ RelV (.int 5) u
  c_SMALL_CLASS : ∃ u, mg "SMALL_CLASS" = some u ∧ RelV (.int 64) u
  c_SUBSET_LIMIT : ∃ u, mg "SUBSET_LIMIT" = some u ∧ RelV (.int 8) u
  c_LETTERS : ∃ u, mg "_LETTERS" = some u ∧ RelV (.str "abcdefghijklmnopqrstuvwxyz") u
  c_LETTERS_AND_DIGITS : ∃ u, mg "_LETTERS_AND_DIGITS" = some u ∧ RelV (.str "abcdefghijklmnopqrstuvwxyz0123456789") u
  c_LONGEST_NAME : ∃ u, mg "_LONGEST_NAME" = some u ∧ RelV (.int 8) u
end My

namespace My
open PySem PySem.Spec PyProof.Rows L2
local macro_rules | `(tactic| walk_at "my hyp") => `(tactic| first | assumption | exact upd_same | (rw [upd_ne (by assumption)]; assumption) | (rw [upd_ne (by assumption)]; exact upd_same) | (rw [upd_ne (by assumption), upd_ne (by assumption)]; assumption))
local macro_rules | `(tactic| walk_at "my c") => `(tactic| first | assumption | (show (0 : Int) < _; first | assumption | decide | omega) | exact .inr ⟨by decide, by decide⟩ | exact .inl ⟨by decide, by decide⟩ | exact .inl ⟨by omega, by omega⟩ | exact .inr ⟨by omega, by omega⟩ | exact ⟨by decide, by decide⟩ | exact ⟨by decide, by decide, by decide⟩)
local macro_rules | `(tactic| walk_at "my len") => `(tactic| first | omega | ((try simp only [len_app, len_one]); omega) | decide)
local macro_rules | `(tactic| walk_at "my ty") => `(tactic| first | exact .base (.int _) | exact .base (.bl _) | exact .base (.str _) | exact .base .non | exact .base (.lst (by walk_at "my hyp")) | exact .base (.tup (by walk_at "my hyp")))
local macro_rules | `(tactic| walk_at "my st") => `(tactic| first
  | (with_reducible refine i_seq ?_)
  | (with_reducible refine i_asg ?_)
  | (with_reducible refine i_gname ?_)
  | (with_reducible refine i_drop ?_)
  | (with_reducible refine i_ret ?_)
  | (with_reducible refine i_retN ?_)
  | (with_reducible refine i_if ?_)
  | (with_reducible refine i_next ?_)
  | (with_reducible refine i_break ?_)
  | (with_reducible refine i_cont ?_)
  | (with_reducible refine i_c ?_)
  | (with_reducible refine i_op ?_)
  | (with_reducible refine i_un ?_)
  | (with_reducible refine i_I0 ?_)
  | (with_reducible refine i_U ?_)
  | ((with_reducible refine' i_eq ?h ?_); (case h => exact rfl))
  | ((with_reducible refine' i_ne ?h ?_); (case h => exact rfl))
  | (with_reducible refine i_test ?_)
  | (with_reducible refine i_B ?_)
  | (with_reducible refine i_bl ?_)
  | (with_reducible refine i_and ?_)
  | (with_reducible refine i_or ?_)
  | (with_reducible refine i_not ?_)
  | (with_reducible refine i_andV ?_)
  | (with_reducible refine i_orV ?_)
  | (with_reducible refine i_notV ?_)
  | (with_reducible refine i_ifE ?_)
  | (with_reducible refine i_chain ?_)
  | (with_reducible refine i_chain3 ?_)
  | (with_reducible refine i_call ?_)
  | (with_reducible refine i_cons ?_)
  | (with_reducible refine i_nil ?_)
  | (with_reducible refine i_CB ?_)
  | (with_reducible refine i_lst ?_)
  | (with_reducible refine i_tup ?_)
  | (with_reducible refine i_gsub ?_)
  | (with_reducible refine i_sl ?_)
  | (with_reducible refine i_int ?_)
  | (with_reducible refine i_max ?_)
  | (with_reducible refine i_min ?_)
  | (with_reducible refine i_inG ?_)
  | (with_reducible refine i_isN_int ?_)
  | (with_reducible refine i_isN_str ?_)
  | (with_reducible refine i_isN_bl ?_)
  | (with_reducible refine i_isN_ref ?_)
  | (with_reducible refine i_isN_non ?_)
  | (with_reducible refine i_notN_int ?_)
  | (with_reducible refine i_notN_str ?_)
  | (with_reducible refine i_notN_bl ?_)
  | (with_reducible refine i_notN_ref ?_)
  | (with_reducible refine i_notN_non ?_)
  | (with_reducible refine i_BM0 ?_)
  | (with_reducible refine i_BM ?_)
  | (with_reducible refine i_noPart ?_)
  | (with_reducible refine i_part ?_)
  | (with_reducible refine i_exint ?_)
  | (with_reducible refine i_revL ?_)
  | (with_reducible refine i_yes ?_)
  | ((with_reducible refine' i_lenL ?h ?_); (case h => exact sqL (by walk_at "my hyp")))
  | ((with_reducible refine' i_lenT ?h ?_); (case h => exact sqT (by walk_at "my hyp")))
  | (with_reducible refine i_tyS ?_)
  | ((with_reducible refine' i_tyL ?h ?_); (case h => exact sqL (by walk_at "my hyp")))
  | ((with_reducible refine' i_lenVL ?h ?_); (case h => exact sqL (by walk_at "my hyp")))
  | ((with_reducible refine' i_lenVT ?h ?_); (case h => exact sqT (by walk_at "my hyp")))
  | ((with_reducible refine' i_lenVS ?h ?_); (case h => walk_at "my len"))
  | ((with_reducible refine' i_lenZ ?h ?_); (case h => walk_at "my len"))
  | ((with_reducible refine' i_addZ ?h ?_); (case h => walk_at "my len"))
  | ((with_reducible refine' i_up ?h ?_); (case h => walk_at "my len"))
  | ((with_reducible refine' i_slS ?h ?_); (case h => walk_at "my len"))
  | ((with_reducible refine' i_ixS ?h ?a ?_); (case h => exact Nat.le_trans (m := 100000) (by walk_at "my len") (by decide)); (case a => first | assumption | exact rfl))
  | (with_reducible refine iteT ?_)
  | (with_reducible refine iteF ?_)
  | (with_reducible refine i_nF ?_)
  | (with_reducible refine i_nT ?_)
  | ((with_reducible refine' i_isi1 (b := true) ?h ?a ?_); (case h => walk_at "my ty"); (case a => decide +kernel))
  | ((with_reducible refine' i_isi1 (b := false) ?h ?a ?_); (case h => walk_at "my ty"); (case a => decide +kernel))
  | ((with_reducible refine' i_isi2' true false true ?h ?t ?a ?b rfl ?_); (case h => walk_at "my hyp"); (case t => walk_at "my ty"); (case a => decide +kernel); (case b => decide +kernel))
  | ((with_reducible refine' i_isi2' false true true ?h ?t ?a ?b rfl ?_); (case h => walk_at "my hyp"); (case t => walk_at "my ty"); (case a => decide +kernel); (case b => decide +kernel))
  | ((with_reducible refine' i_isi2' false false false ?h ?t ?a ?b rfl ?_); (case h => walk_at "my hyp"); (case t => walk_at "my ty"); (case a => decide +kernel); (case b => decide +kernel))
  | (with_reducible refine i_forR ?_)
  | (with_reducible refine i_forL ?_)
  | (with_reducible refine i_lcR ?_)
  | (with_reducible refine i_lcL ?_)
  | (with_reducible refine i_lcS ?_)
  | ((with_reducible refine' i_var ?h ?_); (case h => exact rfl))
  | ((with_reducible refine' i_I ?h ?_); (case h => walk_at "my c"))
  | ((with_reducible refine' i_ixL ?h ?a ?_); (case h => exact sqL (by walk_at "my hyp")); (case a => exact rfl))
  | ((with_reducible refine' i_ixT ?h ?a ?_); (case h => exact sqT (by walk_at "my hyp")); (case a => exact rfl))
  | ((with_reducible refine' i_ixAL ?h ?a ?_); (case h => exact sqL (by walk_at "my hyp")); (case a => first | assumption | exact rfl))
  | ((with_reducible refine' i_ixAT ?h ?a ?_); (case h => exact sqT (by walk_at "my hyp")); (case a => first | assumption | exact rfl))
  | ((with_reducible refine' i_setL ?h ?a ?_); (case h => walk_at "my hyp"); (case a => exact rfl)))
local macro_rules | `(tactic| walk_at "my ab") => `(tactic| first
  | ((with_reducible refine' a_add ?h ?_); (case h => walk_at "my len"); intro w hw)
  | ((with_reducible refine' a_sl ?h ?_); (case h => walk_at "my len"); intro w hw)
  | ((with_reducible refine' a_up ?h ?_); (case h => walk_at "my len"); intro w hw)
  | walk_at "my st")
local macro_rules | `(tactic| walk_at "my abs") => `(tactic| repeat (walk_at "my ab"))
local macro_rules | `(tactic| walk_at "my sts") => `(tactic| repeat (walk_at "my st"))

section
variable {P : Program} {w : World} {K : PySem.W.Frag} {mg : Str → Option Value} {base : Heap}
/-! ### the store of draws -/
def sp_law_store (K : PySem.W.Frag) : Sp := fun vs H Q _ => ∃ (a : Addr) (ns : List Int), vs = [.ref a] ∧ SqL K H a (ns.map V.int) ∧ ns.length ≤ 1000 ∧ ∀ s H', H s = none → StOk H' s → Same H H' → Q (.ref s) H'
theorem ok_law_store {f : Addr} {fd : FuncData}
    (T : Txt K mg) (D : Dn K mg "_law_store" s_law_store p_law_store f fd) : FnOk P w K mg base CX0 1 f fd p_law_store (sp_law_store K) := by
  refine D.F.ok sc_law_store (fun vs H Q E h => ?_) (fun cdv A outer s H vs Q E hr h => ?_)
  · obtain ⟨a, ns, rfl, _⟩ := h
    rfl
  · obtain ⟨a, ns, rfl, hS, hl, k⟩ := h
    refine ⟨_, (pss_cons (ps_set (i := 1) sc_law_store.nd rfl (Or.inl rfl) (pe_op op_add pe_int (pe_op op_mul pe_int (pe_callB n_lenQ (by rfl) T.b_len (by decide +kernel) (pa_cons (pv 0) pa_nil)))))
  (pss_cons (ps_for PassesOwn.never rfl (pi_list (pv 0)) (pg_name (i := 2) sc_law_store.nd rfl (Or.inl rfl))
   (pss_one (ps_set (i := 1) sc_law_store.nd rfl (Or.inl rfl) (pe_op op_add (pv 1) (pe_op op_mod (pe_callTy n_int (by rfl) T.b_int (by decide +kernel) (pa_cons (pv 2) pa_nil)) pe_int)))))
  (pss_one (ps_ret (pe_lst (pa_cons (pe_callTy n_list (by rfl) T.b_list (by decide +kernel) (pa_cons (pv 0) pa_nil)) (pa_cons pe_int (pa_cons pe_int (pa_cons pe_int (pa_cons pe_int (pa_cons pe_int (pa_cons (pe_op op_mod (pe_callTy n_int (by rfl) T.b_int (by decide +kernel) (pa_cons (pv 1) pa_nil)) pe_int) pa_nil)))))))))))), ?_⟩
    walk_at "my sts"
    refine i_lenL hS ?_
    walk_at "my sts"
    refine fl (xs := ns.map V.int) hS (fun i σ' H' => H' = H ∧ ∃ t c, σ' = [some (.ref a), some (.int t), c]) ⟨rfl, _, none, rfl⟩ (fun i σ' H' _ h => h.1 ▸ hS) ?_ ?_
    · rintro i x σ' H' hx ⟨rfl, t, c, rfl⟩
      obtain ⟨z, rfl⟩ : ∃ z, x = V.int z := by
        rw [List.getElem?_map] at hx
        obtain ⟨z, _, e⟩ := Option.map_eq_some_iff.mp hx
        exact ⟨z, e.symm⟩
      walk_at "my sts"
      exact ⟨rfl, _, _, rfl⟩
    · rintro σ' H' ⟨rfl, t, c, rfl⟩
      walk_at "my sts"
      refine i_listL hS fun q hq => ?_
      walk_at "my sts"
      refine ⟨by show 7 ≤ sizeLine; decide, fun p hp => ?_⟩
      have nqp : p ≠ q := fun e => by
        rw [e, upd_same] at hp
        cases hp
      refine k p _ (by rw [upd_ne nqp] at hp; exact hp) ⟨q, ns, 0, 0, 0, 0, 0, _, upd_same, by rw [upd_ne nqp.symm, upd_same], nqp.symm, Int.le_refl _⟩ ?_
      exact (same_new hq).trans (same_new hp)
def sp_law_next (K : PySem.W.Frag) : Sp := fun vs H Q _ => ∃ s, vs = [.ref s] ∧ StOk H s ∧ ∀ H', StOk H' s → Fr s H H' → Q .non H'
theorem ok_law_next {f : Addr} {fd : FuncData}
    (T : Txt K mg) (D : Dn K mg "_law_next" s_law_next p_law_next f fd) : FnOk P w K mg base CX0 1 f fd p_law_next (sp_law_next K) := by
  refine D.F.ok sc_law_next (fun vs H Q E h => ?_) (fun cdv A outer s' H vs Q E hr h => ?_)
  · obtain ⟨s, rfl, _⟩ := h
    rfl
  · obtain ⟨s, rfl, hst, k⟩ := h
    obtain ⟨q, ns, i1, n2, i3, i4, i5, i6, hs, hq, nq, h0⟩ := hst
    refine ⟨_, (pss_cons (ps_if (pt_cmpR op_ge (pe_ix ix_list (pv 0) pe_int (fun _ _ => rfl)) (pe_callB n_lenQ (by rfl) T.b_len (by decide +kernel) (pa_cons (pe_ix ix_list (pv 0) pe_int (fun _ _ => rfl)) pa_nil)) (nomark _)) (pss_cons (ps_asg (pe_ix ix_list (pv 0) pe_int (fun _ _ => rfl)) (pg_sub (pv 0) pe_int set_list))
  (pss_cons (ps_asg pe_int (pg_sub (pv 0) pe_int set_list))
  (pss_one (ps_ret pe_non)))) pss_nil)
  (pss_cons (ps_set (i := 1) sc_law_next.nd rfl (Or.inl rfl) (pe_callTy n_int (by rfl) T.b_int (by decide +kernel) (pa_cons (pe_ix ix_list (pe_ix ix_list (pv 0) pe_int (fun _ _ => rfl)) (pe_ix ix_list (pv 0) pe_int (fun _ _ => rfl)) (fun _ _ => rfl)) pa_nil)))
  (pss_cons (ps_asg (pe_op op_add (pe_ix ix_list (pv 0) pe_int (fun _ _ => rfl)) pe_int) (pg_sub (pv 0) pe_int set_list))
  (pss_cons (ps_if (pt_cmpR op_ge (pv 1) (pe_op op_pow pe_int pe_int) (nomark _)) (pss_one (ps_asg (pv 1) (pg_sub (pv 0) pe_int set_list))) (pss_cons (ps_asg (pe_op op_mod (pv 1) pe_int) (pg_sub (pv 0) pe_int set_list))
  (pss_one (ps_asg pe_int (pg_sub (pv 0) pe_int set_list)))))
  (pss_one (ps_ret pe_non)))))), ?_⟩
    walk_at "my sts"
    refine i_ite (fun hb => ?_) fun hb => ?_
    · walk_at "my sts"
      exact k _ ⟨q, ns, i1, n2, i3, _, _, i6, upd_same, by rw [upd_ne nq, upd_ne nq]; exact hq, nq, h0⟩ (Fr.set (Fr.set Fr.refl hs) upd_same)
    · have hb := of_decide_eq_false hb
      have hj : i1.toNat < ns.length := by
        rw [List.length_map] at hb
        omega
      have hi : atI (ns.map V.int) i1 = some (V.int ns[i1.toNat]) := at_of (j := i1.toNat) (by omega) (by rw [List.getElem?_map, List.getElem?_eq_getElem hj]; rfl)
      walk_at "my sts"
      refine i_ixL (sqL hq) hi ?_
      walk_at "my sts"
      refine i_ite (fun hc => ?_) fun hc => ?_
      · walk_at "my sts"
        exact k _ ⟨q, ns, i1 + 1, _, i3, _, _, i6, upd_same, by rw [upd_ne nq, upd_ne nq]; exact hq, nq, by omega⟩ (Fr.set (Fr.set Fr.refl hs) upd_same)
      · walk_at "my sts"
        exact k _ ⟨q, ns, i1 + 1, _, i3, _, _, i6, upd_same, by rw [upd_ne nq, upd_ne nq, upd_ne nq]; exact hq, nq, by omega⟩ (Fr.set (Fr.set (Fr.set Fr.refl hs) upd_same) upd_same)
def sp_law_raw (K : PySem.W.Frag) : Sp := fun vs H Q _ => ∃ s, vs = [.ref s] ∧ StOk H s ∧ ∀ n H', 0 ≤ n → n < 1000003 → StOk H' s → Fr s H H' → Q (.int n) H'
theorem ok_law_raw {f : Addr} {fd : FuncData}
    (T : Txt K mg) (D : Dn K mg "_law_raw" s_law_raw p_law_raw f fd) : FnOk P w K mg base CX0 1 f fd p_law_raw (sp_law_raw K) := by
  refine D.F.ok sc_law_raw (fun vs H Q E h => ?_) (fun cdv A outer s' H vs Q E hr h => ?_)
  · obtain ⟨s, rfl, _⟩ := h
    rfl
  · obtain ⟨s, rfl, hst, k⟩ := h
    obtain ⟨q, ns, i1, n2, i3, i4, i5, i6, hs, hq, nq, h0⟩ := hst
    refine ⟨_, (pss_cons (ps_asg (pe_op op_add (pe_ix ix_list (pv 0) pe_int (fun _ _ => rfl)) pe_int) (pg_sub (pv 0) pe_int set_list))
  (pss_cons (ps_set (i := 1) sc_law_raw.nd rfl (Or.inl rfl) (pe_op op_mod (pe_callTy n_int (by rfl) T.b_int (by decide +kernel) (pa_cons (pe_op op_add (pe_op op_add (pe_op op_mul (pe_ix ix_list (pv 0) pe_int (fun _ _ => rfl)) pe_int) (pe_op op_mul (pe_ix ix_list (pv 0) pe_int (fun _ _ => rfl)) pe_int)) pe_int) pa_nil)) pe_int))
  (pss_cons (ps_set (i := 2) sc_law_raw.nd rfl (Or.inl rfl) (pe_op op_mod (pe_callTy n_int (by rfl) T.b_int (by decide +kernel) (pa_cons (pe_op op_add (pe_op op_mul (pv 1) (pv 1)) (pe_ix ix_list (pv 0) pe_int (fun _ _ => rfl))) pa_nil)) pe_int))
  (pss_one (ps_ret (pe_op op_mod (pe_callTy n_int (by rfl) T.b_int (by decide +kernel) (pa_cons (pe_op op_add (pe_op op_mul (pv 2) (pv 2)) (pv 1)) pa_nil)) pe_int)))))), ?_⟩
    walk_at "my sts"
    exact k _ _ (Int.emod_nonneg _ (by decide)) (Int.emod_lt_of_pos _ (by decide)) ⟨q, ns, i1, n2, _, _, _, _, upd_same, by rw [upd_ne nq]; exact hq, nq, h0⟩ (Fr.set Fr.refl hs)
def sp_law_take (K : PySem.W.Frag) : Sp := fun vs H Q _ => ∃ (s : Addr) (many : Int), vs = [.ref s, .int many] ∧ StOk H s ∧ many < 10 ^ 70 ∧ ∀ n H', 0 ≤ n → (n < many ∨ n = 0) → StOk H' s → Fr s H H' → Q (.int n) H'
theorem ok_law_take {f : Addr} {fd : FuncData}
    {f_law_next : Addr} {fd_law_next : FuncData} (D_law_next : Dn K mg "_law_next" s_law_next p_law_next f_law_next fd_law_next) (G_law_next : FnOk P w K mg base CX0 1 f_law_next fd_law_next p_law_next (sp_law_next K))
    {f_law_raw : Addr} {fd_law_raw : FuncData} (D_law_raw : Dn K mg "_law_raw" s_law_raw p_law_raw f_law_raw fd_law_raw) (G_law_raw : FnOk P w K mg base CX0 1 f_law_raw fd_law_raw p_law_raw (sp_law_raw K))
    (T : Txt K mg) (D : Dn K mg "_law_take" s_law_take p_law_take f fd) : FnOk P w K mg base CX0 2 f fd p_law_take (sp_law_take K) := by
  refine D.F.ok sc_law_take (fun vs H Q E h => ?_) (fun cdv A outer s' H vs Q E hr h => ?_)
  · obtain ⟨s, many, rfl, _⟩ := h
    rfl
  · obtain ⟨s, many, rfl, hst, hm, k⟩ := h
    refine ⟨_, (pss_cons (ps_if (pt_cmpR op_le (pv 1) pe_int (nomark _)) (pss_one (ps_ret pe_int)) pss_nil)
  (Evl.pss_cut (ps_if (PW.pt (pw_and (pt_cmpR op_eq (pe_ix ix_list (pv 0) pe_int (fun _ _ => rfl)) pe_int (nomark _)) (pw_and1 (pt_cmpR op_eq (pe_ix ix_list (pv 0) pe_int (fun _ _ => rfl)) pe_int (nomark _))))) (pss_one (ps_expr (pe_call G_law_next (hr.mono (by decide)) (by rfl) D_law_next.m D_law_next.F.kp D_law_next.b .nil pass0 (pa_cons (pv 0) pa_nil)))) pss_nil)
  (pss_cons (ps_if (pt_cmpR op_gt (pe_ix ix_list (pv 0) pe_int (fun _ _ => rfl)) pe_int (nomark _)) (pss_cons (ps_set (i := 2) sc_law_take.nd rfl (Or.inl rfl) (pe_op op_mod (pe_callTy n_int (by rfl) T.b_int (by decide +kernel) (pa_cons (pe_ix ix_list (pv 0) pe_int (fun _ _ => rfl)) pa_nil)) (pv 1)))
  (pss_cons (ps_asg (pe_op op_fdivW (pe_callTy n_int (by rfl) T.b_int (by decide +kernel) (pa_cons (pe_ix ix_list (pv 0) pe_int (fun _ _ => rfl)) pa_nil)) (pv 1)) (pg_sub (pv 0) pe_int set_list))
  (pss_one (ps_ret (pv 2))))) pss_nil)
  (pss_cons (ps_asg (pe_op op_sub (pe_ix ix_list (pv 0) pe_int (fun _ _ => rfl)) pe_int) (pg_sub (pv 0) pe_int set_list))
  (pss_cons (ps_set (i := 2) sc_law_take.nd rfl (Or.inl rfl) pe_int)
  (pss_cons (ps_set (i := 3) sc_law_take.nd rfl (Or.inl rfl) pe_int)
  (pss_cons (ps_for PassesOwn.never rfl (pi_range1 (by rfl) T.b_range (pa_cons pe_int pa_nil)) (pg_name (i := 4) sc_law_take.nd rfl (Or.inl rfl))
   (pss_cons (ps_if (pt_cmpR op_ge (pv 3) (pe_op op_mul (pv 1) pe_int) (nomark _)) (pss_one ps_break) pss_nil)
  (pss_cons (ps_set (i := 2) sc_law_take.nd rfl (Or.inl rfl) (pe_op op_add (pe_op op_mul (pv 2) pe_int) (pe_call G_law_raw (hr.mono (by decide)) (by rfl) D_law_raw.m D_law_raw.F.kp D_law_raw.b .nil pass0 (pa_cons (pv 0) pa_nil))))
  (pss_one (ps_set (i := 3) sc_law_take.nd rfl (Or.inl rfl) (pe_op op_mul (pv 3) pe_int))))))
  (pss_one (ps_ret (pe_op op_mod (pe_callTy n_int (by rfl) T.b_int (by decide +kernel) (pa_cons (pv 2) pa_nil)) (pv 1))))))))))), ?_⟩
    walk_at "my sts"
    refine i_ite (fun hb => ?_) fun hb => ?_
    · walk_at "my sts"
      exact k _ _ (Int.le_refl _) (.inr rfl) hst Fr.refl
    · have hb := of_decide_eq_false hb
      walk_at "my sts"
      refine i_cut (fun σ' H' => σ' = L2.start n_law_take [.ref s, .int many] ∧ StOk H' s ∧ Fr s H H') ?_ ?_
      · obtain ⟨q, ns, i1, n2, i3, i4, i5, i6, hs, hq, nq, h0⟩ := id hst
        have next : ∀ (nx : L2.St → Hp → Prop), nx = (fun σ' H' => σ' = L2.start n_law_take [.ref s, .int many] ∧ StOk H' s ∧ Fr s H H') → nx (L2.start n_law_take [.ref s, .int many]) H := fun nx e => by
          rw [e]
          exact ⟨rfl, hst, Fr.refl⟩
        walk_at "my sts"
        refine i_ite (fun _ => ?_) fun _ => ?_
        · walk_at "my sts"
          refine i_ite (fun _ => ?_) fun _ => ?_
          · walk_at "my sts"
            exact ⟨s, rfl, hst, fun H' h1 h2 => ⟨rfl, h1, h2⟩⟩
          · walk_at "my sts"
            exact ⟨rfl, hst, Fr.refl⟩
        · walk_at "my sts"
          exact ⟨rfl, hst, Fr.refl⟩
      · rintro σ' H' ⟨rfl, hst', hf⟩
        obtain ⟨q, ns, i1, n2, i3, i4, i5, i6, hs, hq, nq, h0⟩ := id hst'
        walk_at "my sts"
        refine i_ite (fun h2 => ?_) fun h2 => ?_
        · have hW : CDivW n2 many := wide_div (b := 250) (by omega) (by omega) (by decide) (by decide)
          have h2 := of_decide_eq_true h2
          walk_at "my sts"
          exact k _ _ (Int.emod_nonneg _ (by omega)) (.inl (Int.emod_lt_of_pos _ (by omega))) ⟨q, ns, i1, _, _, _, _, _, upd_same, by rw [upd_ne nq]; exact hq, nq, h0⟩ (Fr.set hf hs)
        · walk_at "my sts"
          refine fr1 (by decide) (by decide) (fun i σ2 H2 => ∃ (number size : Int) (kk : Option V), σ2 = [some (.ref s), some (.int many), some (.int number), some (.int size), kk] ∧ StOk H2 s ∧ Fr s H H2) ⟨0, 1, none, rfl, ⟨q, ns, i1, _, _, _, _, _, upd_same, by rw [upd_ne nq]; exact hq, nq, h0⟩, Fr.set hf hs⟩ ?_ ?_
          · rintro i σ2 H2 _ ⟨number, size, kk, rfl, hst2, hf2⟩
            walk_at "my sts"
            refine i_ite (fun _ => ?_) fun _ => ?_
            · walk_at "my sts"
              exact k _ _ (Int.emod_nonneg _ (by omega)) (.inl (Int.emod_lt_of_pos _ (by omega))) hst2 hf2
            · walk_at "my sts"
              refine ⟨s, rfl, hst2, fun n H3 _ _ hst3 hf3 => ?_⟩
              walk_at "my sts"
              exact ⟨_, _, _, rfl, hst3, hf2.trans hf3⟩
          · rintro σ2 H2 ⟨number, size, kk, rfl, hst2, hf2⟩
            walk_at "my sts"
            exact k _ _ (Int.emod_nonneg _ (by omega)) (.inl (Int.emod_lt_of_pos _ (by omega))) hst2 hf2
def sp_law_some (K : PySem.W.Frag) : Sp := fun vs H Q _ => ∃ (s : Addr) (low high : Int), vs = [.ref s, .int low, .int high] ∧ StOk H s ∧ high - low < 10 ^ 69 ∧ ∀ n H', low ≤ n → (n ≤ high ∨ n = low) → StOk H' s → Fr s H H' → Q (.int n) H'
theorem ok_law_some {f : Addr} {fd : FuncData}
    {f_law_take : Addr} {fd_law_take : FuncData} (D_law_take : Dn K mg "_law_take" s_law_take p_law_take f_law_take fd_law_take) (G_law_take : FnOk P w K mg base CX0 2 f_law_take fd_law_take p_law_take (sp_law_take K))
    (T : Txt K mg) (D : Dn K mg "_law_some" s_law_some p_law_some f fd) : FnOk P w K mg base CX0 3 f fd p_law_some (sp_law_some K) := by
  refine D.F.ok sc_law_some (fun vs H Q E h => ?_) (fun cdv A outer s' H vs Q E hr h => ?_)
  · obtain ⟨s, low, high, rfl, _⟩ := h
    rfl
  · obtain ⟨s, low, high, rfl, hst, hm, k⟩ := h
    refine ⟨_, (pss_cons (ps_if (pt_cmpR op_le (pv 2) (pv 1) (nomark _)) (pss_one (ps_ret (pv 1))) pss_nil)
  (pss_cons (ps_set (i := 3) sc_law_some.nd rfl (Or.inl rfl) (pe_call G_law_take (hr.mono (by decide)) (by rfl) D_law_take.m D_law_take.F.kp D_law_take.b .nil pass0 (pa_cons (pv 0) (pa_cons pe_int pa_nil))))
  (pss_cons (ps_if (pt_cmpR op_eq (pv 3) pe_int (nomark _)) (pss_one (ps_ret (pv 1))) pss_nil)
  (pss_cons (ps_if (pt_cmpR op_eq (pv 3) pe_int (nomark _)) (pss_one (ps_ret (pv 2))) pss_nil)
  (pss_one (ps_ret (pe_op op_add (pv 1) (pe_call G_law_take (hr.mono (by decide)) (by rfl) D_law_take.m D_law_take.F.kp D_law_take.b .nil pass0 (pa_cons (pv 0) (pa_cons (pe_op op_add (pe_op op_sub (pv 2) (pv 1)) pe_int) pa_nil)))))))))), ?_⟩
    walk_at "my sts"
    refine i_ite (fun hb => ?_) fun hb => ?_
    · walk_at "my sts"
      exact k _ _ (Int.le_refl _) (.inr rfl) hst Fr.refl
    · have hb := of_decide_eq_false hb
      walk_at "my sts"
      refine ⟨s, 6, rfl, hst, by decide, fun n H1 n0 n6 hst1 hf1 => ?_⟩
      walk_at "my sts"
      refine i_ite (fun _ => ?_) fun _ => ?_
      · walk_at "my sts"
        exact k _ _ (Int.le_refl _) (.inr rfl) hst1 hf1
      · walk_at "my sts"
        refine i_ite (fun _ => ?_) fun _ => ?_
        · walk_at "my sts"
          exact k _ _ (by omega) (.inl (Int.le_refl _)) hst1 hf1
        · walk_at "my sts"
          refine ⟨s, _, rfl, hst1, by omega, fun n2 H2 m0 m1 hst2 hf2 => ?_⟩
          walk_at "my sts"
          exact k _ _ (by omega) (by omega) hst2 (hf1.trans hf2)
end
end My

namespace My
open PySem PySem.Spec PyProof.Rows L2
local macro_rules | `(tactic| walk_at "my hyp") => `(tactic| first | assumption | exact upd_same | (rw [upd_ne (by assumption)]; assumption) | (rw [upd_ne (by assumption)]; exact upd_same) | (rw [upd_ne (by assumption), upd_ne (by assumption)]; assumption))
local macro_rules | `(tactic| walk_at "my c") => `(tactic| first | assumption | (show (0 : Int) < _; first | assumption | decide | omega) | exact .inr ⟨by decide, by decide⟩ | exact .inl ⟨by decide, by decide⟩ | exact .inl ⟨by omega, by omega⟩ | exact .inr ⟨by omega, by omega⟩ | exact ⟨by decide, by decide⟩ | exact ⟨by decide, by decide, by decide⟩)
local macro_rules | `(tactic| walk_at "my len") => `(tactic| first | omega | ((try simp only [len_app, len_one]); omega) | decide)
local macro_rules | `(tactic| walk_at "my ty") => `(tactic| first | exact .base (.int _) | exact .base (.bl _) | exact .base (.str _) | exact .base .non | exact .base (.lst (by walk_at "my hyp")) | exact .base (.tup (by walk_at "my hyp")))
local macro_rules | `(tactic| walk_at "my st") => `(tactic| first
  | (with_reducible refine i_seq ?_)
  | (with_reducible refine i_asg ?_)
  | (with_reducible refine i_gname ?_)
  | (with_reducible refine i_drop ?_)
  | (with_reducible refine i_ret ?_)
  | (with_reducible refine i_retN ?_)
  | (with_reducible refine i_if ?_)
  | (with_reducible refine i_next ?_)
  | (with_reducible refine i_break ?_)
  | (with_reducible refine i_cont ?_)
  | (with_reducible refine i_c ?_)
  | (with_reducible refine i_op ?_)
  | (with_reducible refine i_un ?_)
  | (with_reducible refine i_I0 ?_)
  | (with_reducible refine i_U ?_)
  | ((with_reducible refine' i_eq ?h ?_); (case h => exact rfl))
  | ((with_reducible refine' i_ne ?h ?_); (case h => exact rfl))
  | (with_reducible refine i_test ?_)
  | (with_reducible refine i_B ?_)
  | (with_reducible refine i_bl ?_)
  | (with_reducible refine i_and ?_)
  | (with_reducible refine i_or ?_)
  | (with_reducible refine i_not ?_)
  | (with_reducible refine i_andV ?_)
  | (with_reducible refine i_orV ?_)
  | (with_reducible refine i_notV ?_)
  | (with_reducible refine i_ifE ?_)
  | (with_reducible refine i_chain ?_)
  | (with_reducible refine i_chain3 ?_)
  | (with_reducible refine i_call ?_)
  | (with_reducible refine i_cons ?_)
  | (with_reducible refine i_nil ?_)
  | (with_reducible refine i_CB ?_)
  | (with_reducible refine i_lst ?_)
  | (with_reducible refine i_tup ?_)
  | (with_reducible refine i_gsub ?_)
  | (with_reducible refine i_sl ?_)
  | (with_reducible refine i_int ?_)
  | (with_reducible refine i_max ?_)
  | (with_reducible refine i_min ?_)
  | (with_reducible refine i_inG ?_)
  | (with_reducible refine i_isN_int ?_)
  | (with_reducible refine i_isN_str ?_)
  | (with_reducible refine i_isN_bl ?_)
  | (with_reducible refine i_isN_ref ?_)
  | (with_reducible refine i_isN_non ?_)
  | (with_reducible refine i_notN_int ?_)
  | (with_reducible refine i_notN_str ?_)
  | (with_reducible refine i_notN_bl ?_)
  | (with_reducible refine i_notN_ref ?_)
  | (with_reducible refine i_notN_non ?_)
  | (with_reducible refine i_BM0 ?_)
  | (with_reducible refine i_BM ?_)
  | (with_reducible refine i_noPart ?_)
  | (with_reducible refine i_part ?_)
  | (with_reducible refine i_exint ?_)
  | (with_reducible refine i_revL ?_)
  | (with_reducible refine i_yes ?_)
  | ((with_reducible refine' i_lenL ?h ?_); (case h => exact sqL (by walk_at "my hyp")))
  | ((with_reducible refine' i_lenT ?h ?_); (case h => exact sqT (by walk_at "my hyp")))
  | (with_reducible refine i_tyS ?_)
  | ((with_reducible refine' i_tyL ?h ?_); (case h => exact sqL (by walk_at "my hyp")))
  | ((with_reducible refine' i_lenVL ?h ?_); (case h => exact sqL (by walk_at "my hyp")))
  | ((with_reducible refine' i_lenVT ?h ?_); (case h => exact sqT (by walk_at "my hyp")))
  | ((with_reducible refine' i_lenVS ?h ?_); (case h => walk_at "my len"))
  | ((with_reducible refine' i_lenZ ?h ?_); (case h => walk_at "my len"))
  | ((with_reducible refine' i_addZ ?h ?_); (case h => walk_at "my len"))
  | ((with_reducible refine' i_up ?h ?_); (case h => walk_at "my len"))
  | ((with_reducible refine' i_slS ?h ?_); (case h => walk_at "my len"))
  | ((with_reducible refine' i_ixS ?h ?a ?_); (case h => exact Nat.le_trans (m := 100000) (by walk_at "my len") (by decide)); (case a => first | assumption | exact rfl))
  | (with_reducible refine iteT ?_)
  | (with_reducible refine iteF ?_)
  | (with_reducible refine i_nF ?_)
  | (with_reducible refine i_nT ?_)
  | ((with_reducible refine' i_isi1 (b := true) ?h ?a ?_); (case h => walk_at "my ty"); (case a => decide +kernel))
  | ((with_reducible refine' i_isi1 (b := false) ?h ?a ?_); (case h => walk_at "my ty"); (case a => decide +kernel))
  | ((with_reducible refine' i_isi2' true false true ?h ?t ?a ?b rfl ?_); (case h => walk_at "my hyp"); (case t => walk_at "my ty"); (case a => decide +kernel); (case b => decide +kernel))
  | ((with_reducible refine' i_isi2' false true true ?h ?t ?a ?b rfl ?_); (case h => walk_at "my hyp"); (case t => walk_at "my ty"); (case a => decide +kernel); (case b => decide +kernel))
  | ((with_reducible refine' i_isi2' false false false ?h ?t ?a ?b rfl ?_); (case h => walk_at "my hyp"); (case t => walk_at "my ty"); (case a => decide +kernel); (case b => decide +kernel))
  | (with_reducible refine i_forR ?_)
  | (with_reducible refine i_forL ?_)
  | (with_reducible refine i_lcR ?_)
  | (with_reducible refine i_lcL ?_)
  | (with_reducible refine i_lcS ?_)
  | ((with_reducible refine' i_var ?h ?_); (case h => exact rfl))
  | ((with_reducible refine' i_I ?h ?_); (case h => walk_at "my c"))
  | ((with_reducible refine' i_ixL ?h ?a ?_); (case h => exact sqL (by walk_at "my hyp")); (case a => exact rfl))
  | ((with_reducible refine' i_ixT ?h ?a ?_); (case h => exact sqT (by walk_at "my hyp")); (case a => exact rfl))
  | ((with_reducible refine' i_ixAL ?h ?a ?_); (case h => exact sqL (by walk_at "my hyp")); (case a => first | assumption | exact rfl))
  | ((with_reducible refine' i_ixAT ?h ?a ?_); (case h => exact sqT (by walk_at "my hyp")); (case a => first | assumption | exact rfl))
  | ((with_reducible refine' i_setL ?h ?a ?_); (case h => walk_at "my hyp"); (case a => exact rfl)))
local macro_rules | `(tactic| walk_at "my ab") => `(tactic| first
  | ((with_reducible refine' a_add ?h ?_); (case h => walk_at "my len"); intro w hw)
  | ((with_reducible refine' a_sl ?h ?_); (case h => walk_at "my len"); intro w hw)
  | ((with_reducible refine' a_up ?h ?_); (case h => walk_at "my len"); intro w hw)
  | walk_at "my st")
local macro_rules | `(tactic| walk_at "my abs") => `(tactic| repeat (walk_at "my ab"))
local macro_rules | `(tactic| walk_at "my sts") => `(tactic| repeat (walk_at "my st"))

section
variable {P : Program} {w : World} {K : PySem.W.Frag} {mg : Str → Option Value} {base : Heap}
def sp_law_pick (K : PySem.W.Frag) : Sp := fun vs H Q _ => ∃ (s : Addr) (x : V), vs = [.ref s, x] ∧ StOk H s ∧
  ((∃ (p : Addr) (xs : List V), x = .ref p ∧ H p = some (.lst xs) ∧ p ≠ s ∧ 0 < xs.length ∧ xs.length < 10 ^ 9 ∧ ∀ v H', v ∈ xs → StOk H' s → Fr s H H' → Q v H') ∨
  ∃ z : Str, x = .str z ∧ 0 < z.length ∧ z.length ≤ 1000 ∧ ∀ c H', c ∈ z.cps.toList → StOk H' s → Fr s H H' → Q (.str ⟨#[c]⟩) H')
theorem ok_law_pick {f : Addr} {fd : FuncData}
    {f_law_take : Addr} {fd_law_take : FuncData} (D_law_take : Dn K mg "_law_take" s_law_take p_law_take f_law_take fd_law_take) (G_law_take : FnOk P w K mg base CX0 2 f_law_take fd_law_take p_law_take (sp_law_take K))
    (T : Txt K mg) (D : Dn K mg "_law_pick" s_law_pick p_law_pick f fd) : FnOk P w K mg base CX0 3 f fd p_law_pick (sp_law_pick K) := by
  refine D.F.ok sc_law_pick (fun vs H Q E h => ?_) (fun cdv A outer s' H vs Q E hr h => ?_)
  · obtain ⟨s, x, rfl, _⟩ := h
    rfl
  · obtain ⟨s, x, rfl, hst, k⟩ := h
    refine ⟨_, (pss_one (ps_ret (pe_ix ix_seq (pv 1) (pe_call G_law_take (hr.mono (by decide)) (by rfl) D_law_take.m D_law_take.F.kp D_law_take.b .nil pass0 (pa_cons (pv 0) (pa_cons (pe_callB n_lenV (by rfl) T.b_len (by decide +kernel) (pa_cons (pv 1) pa_nil)) pa_nil))) (fun _ _ => rfl)))), ?_⟩
    rcases k with ⟨p, xs, rfl, hp, np, h0, hl, k⟩ | ⟨z, rfl, h0, hl, k⟩
    · walk_at "my sts"
      refine ⟨s, _, rfl, hst, by omega, fun n H1 n0 n1 hst1 hf1 => ?_⟩
      have hn : n.toNat < xs.length := by omega
      refine i_ixAL (sqL (hf1.1 _ _ hp np)) (at_of (j := n.toNat) (by omega) (List.getElem?_eq_getElem hn)) ?_
      exact k _ _ (List.getElem_mem hn) hst1 hf1
    · walk_at "my sts"
      refine ⟨s, _, rfl, hst, by omega, fun n H1 n0 n1 hst1 hf1 => ?_⟩
      obtain ⟨c, hc, hm⟩ := at_str (z := z) (i := n) n0 (by omega)
      refine i_ixAS (Nat.le_trans hl (by decide)) hc ?_
      exact k _ _ hm hst1 hf1
def sp_law_number (K : PySem.W.Frag) : Sp := fun vs H Q _ => ∃ s, vs = [.ref s] ∧ StOk H s ∧ ∀ n H', -(10 ^ 61) < n → n < 10 ^ 61 → StOk H' s → Fr s H H' → Q (.int n) H'
theorem ok_law_number {f : Addr} {fd : FuncData}
    {f_law_take : Addr} {fd_law_take : FuncData} (D_law_take : Dn K mg "_law_take" s_law_take p_law_take f_law_take fd_law_take) (G_law_take : FnOk P w K mg base CX0 2 f_law_take fd_law_take p_law_take (sp_law_take K))
    (T : Txt K mg) (D : Dn K mg "_law_number" s_law_number p_law_number f fd) : FnOk P w K mg base CX0 3 f fd p_law_number (sp_law_number K) := by
  refine D.F.ok sc_law_number (fun vs H Q E h => ?_) (fun cdv A outer s' H vs Q E hr h => ?_)
  · obtain ⟨s, rfl, _⟩ := h
    rfl
  · obtain ⟨s, rfl, hst, k⟩ := h
    have e60 : (10 : Int) ^ Int.toNat 60 = 10 ^ 60 := rfl
    refine ⟨_, (pss_cons (ps_set (i := 1) sc_law_number.nd rfl (Or.inl rfl) (pe_call G_law_take (hr.mono (by decide)) (by rfl) D_law_take.m D_law_take.F.kp D_law_take.b .nil pass0 (pa_cons (pv 0) (pa_cons pe_int pa_nil))))
  (pss_cons (ps_if (pt_cmpR op_eq (pv 1) pe_int (nomark _)) (pss_one (ps_ret (pe_op op_sub (pe_call G_law_take (hr.mono (by decide)) (by rfl) D_law_take.m D_law_take.F.kp D_law_take.b .nil pass0 (pa_cons (pv 0) (pa_cons pe_int pa_nil))) pe_int))) pss_nil)
  (pss_cons (ps_if (pt_cmpR op_eq (pv 1) pe_int (nomark _)) (pss_one (ps_ret (pe_op op_add pe_int (pe_call G_law_take (hr.mono (by decide)) (by rfl) D_law_take.m D_law_take.F.kp D_law_take.b .nil pass0 (pa_cons (pv 0) (pa_cons pe_int pa_nil)))))) pss_nil)
  (pss_cons (ps_if (pt_cmpR op_eq (pv 1) pe_int (nomark _)) (pss_one (ps_ret (pe_call G_law_take (hr.mono (by decide)) (by rfl) D_law_take.m D_law_take.F.kp D_law_take.b .nil pass0 (pa_cons (pv 0) (pa_cons (pe_op op_pow pe_int pe_int) pa_nil))))) pss_nil)
  (pss_cons (ps_if (pt_cmpR op_eq (pv 1) pe_int (nomark _)) (pss_one (ps_ret (pe_op op_sub pe_int (pe_call G_law_take (hr.mono (by decide)) (by rfl) D_law_take.m D_law_take.F.kp D_law_take.b .nil pass0 (pa_cons (pv 0) (pa_cons (pe_op op_pow pe_int pe_int) pa_nil)))))) pss_nil)
  (pss_cons (ps_set (i := 2) sc_law_number.nd rfl (Or.inl rfl) (pe_lst (pa_cons pe_int (pa_cons pe_int (pa_cons pe_int (pa_cons pe_int (pa_cons (pe_un un_neg pe_int) (pa_cons (pe_op op_sub (pe_op op_pow pe_int pe_int) pe_int) (pa_cons (pe_op op_sub pe_int (pe_op op_pow pe_int pe_int)) (pa_cons pe_int (pa_cons pe_int (pa_cons pe_int (pa_cons pe_int (pa_cons pe_int (pa_cons pe_int (pa_cons pe_int (pa_cons pe_int pa_nil)))))))))))))))))
  (pss_one (ps_ret (pe_ix ix_list (pv 2) (pe_call G_law_take (hr.mono (by decide)) (by rfl) D_law_take.m D_law_take.F.kp D_law_take.b .nil pass0 (pa_cons (pv 0) (pa_cons pe_int pa_nil))) (fun _ _ => rfl)))))))))), ?_⟩
    walk_at "my sts"
    refine ⟨s, 5, rfl, hst, by decide, fun n H1 n0 n6 hst1 hf1 => ?_⟩
    walk_at "my sts"
    refine i_ite (fun _ => ?_) fun _ => ?_
    · walk_at "my sts"
      refine ⟨s, _, rfl, hst1, by decide, fun n2 H2 m0 m1 hst2 hf2 => ?_⟩
      walk_at "my sts"
      exact k _ _ (by omega) (by omega) hst2 (hf1.trans hf2)
    walk_at "my sts"
    refine i_ite (fun _ => ?_) fun _ => ?_
    · walk_at "my sts"
      refine ⟨s, _, rfl, hst1, by decide, fun n2 H2 m0 m1 hst2 hf2 => ?_⟩
      walk_at "my sts"
      exact k _ _ (by omega) (by omega) hst2 (hf1.trans hf2)
    walk_at "my sts"
    refine i_ite (fun _ => ?_) fun _ => ?_
    · walk_at "my sts"
      refine ⟨s, _, rfl, hst1, by decide, fun n2 H2 m0 m1 hst2 hf2 => ?_⟩
      exact k _ _ (by omega) (by omega) hst2 (hf1.trans hf2)
    walk_at "my sts"
    refine i_ite (fun _ => ?_) fun _ => ?_
    · walk_at "my sts"
      refine ⟨s, _, rfl, hst1, by decide, fun n2 H2 m0 m1 hst2 hf2 => ?_⟩
      walk_at "my sts"
      exact k _ _ (by omega) (by omega) hst2 (hf1.trans hf2)
    walk_at "my sts"
    refine ⟨by show 15 ≤ sizeLine; decide, fun p hp => ?_⟩
    have np : p ≠ s := hst1.ne hp
    walk_at "my sts"
    refine ⟨s, _, rfl, hst1.new hp, by decide, fun n2 H2 m0 m1 hst2 hf2 => ?_⟩
    have hp2 := hf2.1 p _ upd_same np
    have hn : n2.toNat < 15 := by omega
    have all : ∀ v ∈ ([V.int 0, V.int 1, V.int 9999, V.int 10000, V.int (-1), V.int (10 ^ Int.toNat 60 - 1), V.int (1 - 10 ^ Int.toNat 60), V.int 60, V.int 200, V.int 201, V.int 12, V.int 13, V.int 90, V.int 91, V.int 400] : List V), ∃ z, v = V.int z ∧ -(10 ^ 61) < z ∧ z < 10 ^ 61 := by
      intro v hv
      simp only [List.mem_cons, List.not_mem_nil, or_false] at hv
      rcases hv with rfl | rfl | rfl | rfl | rfl | rfl | rfl | rfl | rfl | rfl | rfl | rfl | rfl | rfl | rfl <;> exact ⟨_, rfl, by omega, by omega⟩
    obtain ⟨z, e, z1, z2⟩ := all _ (List.getElem_mem hn)
    refine i_ixL (sqL hp2) (at_of (j := n2.toNat) (by omega) ((List.getElem?_eq_getElem hn).trans (congrArg some e))) ?_
    exact k _ _ z1 z2 hst2 ((hf1.new hp).trans hf2)
/-! ### the same data, piece by piece -/
inductive Sm (H : Hp) : Nat → V → V → Prop
  | bl (n : Nat) (b : Bool) : Sm H n (.bl b) (.bl b)
  | int (n : Nat) (i : Int) : Sm H n (.int i) (.int i)
  | lst {n : Nat} {a b : Addr} {xs ys : List V} (ha : H a = some (.lst xs)) (hb : H b = some (.lst ys)) (hl : ys.length = xs.length) (hz : xs.length ≤ 100000) (h : ∀ (i : Nat) (x y : V), xs[i]? = some x → ys[i]? = some y → Sm H n x y) : Sm H (n + 1) (.ref a) (.ref b)
theorem Sm.keep {H H' : Hp} (k : Same H H') : ∀ {n : Nat} {x y : V}, Sm H n x y → Sm H' n x y := by
  intro n x y h
  induction h with
  | bl n b => exact .bl n b
  | int n i => exact .int n i
  | lst ha hb hl hz _ ih => exact .lst (k _ _ ha) (k _ _ hb) hl hz ih
def sp_law_sameN (n : Nat) (K : PySem.W.Frag) : Sp := fun vs H Q _ => ∃ (x y : V), vs = [x, y] ∧ Sm H n x y ∧ ∀ H', Same H H' → Q (.bl true) H'
def sp_law_same (K : PySem.W.Frag) : Sp := sp_law_sameN 1 K
theorem ok_law_same0 {f : Addr} {fd : FuncData} (T : Txt K mg) (D_law_same : Dn K mg "_law_same" s_law_same p_law_same f fd) : ∀ n : Nat, FnOk P w K mg base CX0 (n + 1) f fd p_law_same (sp_law_sameN n K) := by
  have body : ∀ (n : Nat) (sp : Sp), FnOk P w K mg base CX0 n f fd p_law_same sp → (∀ m, n = m + 1 → sp = sp_law_sameN m K) → FnOk P w K mg base CX0 (n + 1) f fd p_law_same (sp_law_sameN n K) := by
    intro n sp G_law_same hsp
    refine D_law_same.F.ok sc_law_same (fun vs H Q E h => ?_) (fun cdv A outer s' H vs Q E hr h => ?_)
    · obtain ⟨x, y, rfl, _⟩ := h
      rfl
    · obtain ⟨x, y, rfl, hxy, k⟩ := h
      refine ⟨_, (pss_cons (ps_if (PW.pt (pw_or (pt_val (pe_callB call_isi (by rfl) T.b_isinstance (by decide +kernel) (pa_cons (pv 0) (pa_cons (pe_bltn (v := .ty "bool") (by rfl) T.b_bool (by decide +kernel) rfl) pa_nil)))) (pw_or1 (pt_val (pe_callB call_isi (by rfl) T.b_isinstance (by decide +kernel) (pa_cons (pv 1) (pa_cons (pe_bltn (v := .ty "bool") (by rfl) T.b_bool (by decide +kernel) rfl) pa_nil))))))) (pss_one (ps_ret (pe_and (pe_callB call_isi (by rfl) T.b_isinstance (by decide +kernel) (pa_cons (pv 0) (pa_cons (pe_bltn (v := .ty "bool") (by rfl) T.b_bool (by decide +kernel) rfl) pa_nil))) (pe_and (pe_callB call_isi (by rfl) T.b_isinstance (by decide +kernel) (pa_cons (pv 1) (pa_cons (pe_bltn (v := .ty "bool") (by rfl) T.b_bool (by decide +kernel) rfl) pa_nil))) (pe_one (pe_cmpR op_eq (pv 0) (pv 1) (nomark _))))))) pss_nil)
  (pss_cons (ps_if (PW.pt (pw_or (pt_cmpR n_isN (pv 0) pe_non (nomark _)) (pw_or1 (pt_cmpR n_isN (pv 1) pe_non (nomark _))))) (pss_one (ps_ret (pe_and (pe_cmpR n_isN (pv 0) pe_non (nomark _)) (pe_one (pe_cmpR n_isN (pv 1) pe_non (nomark _)))))) pss_nil)
  (pss_cons (ps_if (PW.pt (pw_or (pt_val (pe_callB call_isi (by rfl) T.b_isinstance (by decide +kernel) (pa_cons (pv 0) (pa_cons (pe_bltn (v := .ty "int") (by rfl) T.b_int (by decide +kernel) rfl) pa_nil)))) (pw_or1 (pt_val (pe_callB call_isi (by rfl) T.b_isinstance (by decide +kernel) (pa_cons (pv 1) (pa_cons (pe_bltn (v := .ty "int") (by rfl) T.b_int (by decide +kernel) rfl) pa_nil))))))) (pss_one (ps_ret (pe_and (pe_callB call_isi (by rfl) T.b_isinstance (by decide +kernel) (pa_cons (pv 0) (pa_cons (pe_bltn (v := .ty "int") (by rfl) T.b_int (by decide +kernel) rfl) pa_nil))) (pe_and (pe_callB call_isi (by rfl) T.b_isinstance (by decide +kernel) (pa_cons (pv 1) (pa_cons (pe_bltn (v := .ty "int") (by rfl) T.b_int (by decide +kernel) rfl) pa_nil))) (pe_one (pe_cmpR op_eq (pv 0) (pv 1) (nomark _))))))) pss_nil)
  (pss_cons (ps_if (PW.pt (pw_or (pt_val (pe_callB call_isi (by rfl) T.b_isinstance (by decide +kernel) (pa_cons (pv 0) (pa_cons (pe_bltn (v := .ty "str") (by rfl) T.b_str (by decide +kernel) rfl) pa_nil)))) (pw_or1 (pt_val (pe_callB call_isi (by rfl) T.b_isinstance (by decide +kernel) (pa_cons (pv 1) (pa_cons (pe_bltn (v := .ty "str") (by rfl) T.b_str (by decide +kernel) rfl) pa_nil))))))) (pss_one (ps_ret (pe_and (pe_callB call_isi (by rfl) T.b_isinstance (by decide +kernel) (pa_cons (pv 0) (pa_cons (pe_bltn (v := .ty "str") (by rfl) T.b_str (by decide +kernel) rfl) pa_nil))) (pe_and (pe_callB call_isi (by rfl) T.b_isinstance (by decide +kernel) (pa_cons (pv 1) (pa_cons (pe_bltn (v := .ty "str") (by rfl) T.b_str (by decide +kernel) rfl) pa_nil))) (pe_one (pe_cmpR op_eq (pv 0) (pv 1) (nomark _))))))) pss_nil)
  (pss_cons (ps_if (PW.pt (pw_and (pt_val (pe_callB call_isi (by rfl) T.b_isinstance (by decide +kernel) (pa_cons (pv 0) (pa_cons (pe_bltn (v := .ty "list") (by rfl) T.b_list (by decide +kernel) rfl) pa_nil)))) (pw_and1 (pt_not (pt_val (pe_callB call_isi (by rfl) T.b_isinstance (by decide +kernel) (pa_cons (pv 1) (pa_cons (pe_bltn (v := .ty "list") (by rfl) T.b_list (by decide +kernel) rfl) pa_nil)))))))) (pss_one (ps_ret pe_bl)) pss_nil)
  (pss_cons (ps_if (PW.pt (pw_and (pt_val (pe_callB call_isi (by rfl) T.b_isinstance (by decide +kernel) (pa_cons (pv 0) (pa_cons (pe_bltn (v := .ty "tuple") (by rfl) T.b_tuple (by decide +kernel) rfl) pa_nil)))) (pw_and1 (pt_not (pt_val (pe_callB call_isi (by rfl) T.b_isinstance (by decide +kernel) (pa_cons (pv 1) (pa_cons (pe_bltn (v := .ty "tuple") (by rfl) T.b_tuple (by decide +kernel) rfl) pa_nil)))))))) (pss_one (ps_ret pe_bl)) pss_nil)
  (pss_cons (ps_if (PW.pt (pw_or (pt_not (pt_val (pe_callB call_isiT (by rfl) T.b_isinstance (by decide +kernel) (pa_cons (pv 0) (pa_cons (pe_tup (pa_cons (pe_bltn (v := .ty "list") (by rfl) T.b_list (by decide +kernel) rfl) (pa_cons (pe_bltn (v := .ty "tuple") (by rfl) T.b_tuple (by decide +kernel) rfl) pa_nil))) pa_nil))))) (pw_or (pt_not (pt_val (pe_callB call_isiT (by rfl) T.b_isinstance (by decide +kernel) (pa_cons (pv 1) (pa_cons (pe_tup (pa_cons (pe_bltn (v := .ty "list") (by rfl) T.b_list (by decide +kernel) rfl) (pa_cons (pe_bltn (v := .ty "tuple") (by rfl) T.b_tuple (by decide +kernel) rfl) pa_nil))) pa_nil))))) (pw_or1 (pt_cmpR op_ne (pe_callB n_lenV (by rfl) T.b_len (by decide +kernel) (pa_cons (pv 0) pa_nil)) (pe_callB n_lenV (by rfl) T.b_len (by decide +kernel) (pa_cons (pv 1) pa_nil)) (nomark _)))))) (pss_one (ps_ret pe_bl)) pss_nil)
  (pss_cons (ps_for PassesOwn.never rfl (pi_range1 (by rfl) T.b_range (pa_cons (pe_callB n_lenV (by rfl) T.b_len (by decide +kernel) (pa_cons (pv 0) pa_nil)) pa_nil)) (pg_name (i := 2) sc_law_same.nd rfl (Or.inl rfl))
   (pss_one (ps_if (pt_not (pt_val (pe_call G_law_same hr (by rfl) D_law_same.m D_law_same.F.kp D_law_same.b .nil pass0 (pa_cons (pe_ix ix_seq (pv 0) (pv 2) (fun _ _ => rfl)) (pa_cons (pe_ix ix_seq (pv 1) (pv 2) (fun _ _ => rfl)) pa_nil))))) (pss_one (ps_ret pe_bl)) pss_nil)))
  (pss_one (ps_ret pe_bl)))))))))), ?_⟩
      cases hxy with
      | bl n b =>
        walk_at "my sts"
        rw [decide_eq_true rfl]
        exact k _ (Same.refl _)
      | int n i =>
        walk_at "my sts"
        rw [decide_eq_true rfl]
        exact k _ (Same.refl _)
      | @lst m a b xs ys ha hb hl hz hall =>
        walk_at "my sts"
        refine ⟨by decide, fun p hp => ?_⟩
        have s1 : Same H (upd H p (.tup [V.ty "list", V.ty "tuple"])) := same_new hp
        have a1 := s1 _ _ ha
        have b1 := s1 _ _ hb
        have t1 : (upd H p (.tup [V.ty "list", V.ty "tuple"])) p = some _ := upd_same
        have k1 : ∀ H', Same (upd H p (.tup [V.ty "list", V.ty "tuple"])) H' → Q (.bl true) H' := fun H' h => k H' (s1.trans h)
        have h1 : ∀ (i : Nat) (x y : V), xs[i]? = some x → ys[i]? = some y → Sm (upd H p (.tup [V.ty "list", V.ty "tuple"])) m x y := fun i x y ex ey => (hall i x y ex ey).keep s1
        clear hp s1 ha hb k hall
        generalize upd H p (.tup [V.ty "list", V.ty "tuple"]) = H1 at *
        walk_at "my sts"
        refine ⟨by decide, fun p hp => ?_⟩
        have s1 : Same H1 (upd H1 p (.tup [V.ty "list", V.ty "tuple"])) := same_new hp
        have a2 := s1 _ _ a1
        have b2 := s1 _ _ b1
        have t2 : (upd H1 p (.tup [V.ty "list", V.ty "tuple"])) p = some _ := upd_same
        have k2 : ∀ H', Same (upd H1 p (.tup [V.ty "list", V.ty "tuple"])) H' → Q (.bl true) H' := fun H' h => k1 H' (s1.trans h)
        have h2 : ∀ (i : Nat) (x y : V), xs[i]? = some x → ys[i]? = some y → Sm (upd H1 p (.tup [V.ty "list", V.ty "tuple"])) m x y := fun i x y ex ey => (h1 i x y ex ey).keep s1
        clear hp s1 a1 b1 k1 h1 t1
        generalize upd H1 p (.tup [V.ty "list", V.ty "tuple"]) = H2 at *
        walk_at "my sts"
        refine iteNS (by rw [hl]) ?_
        walk_at "my sts"
        cases hsp m rfl
        refine fr1 (by omega) (by omega) (fun i σ' H' => Same H2 H' ∧ ∃ v, σ' = [some (.ref a), some (.ref b), v]) ⟨Same.refl _, none, rfl⟩ ?_ ?_
        · rintro i σ' H' hi ⟨s3, v, rfl⟩
          have hi1 : i < xs.length := by omega
          have hi2 : i < ys.length := by omega
          walk_at "my sts"
          refine i_ixAL (sqL (s3 _ _ a2)) (at_of rfl (List.getElem?_eq_getElem hi1)) ?_
          walk_at "my sts"
          refine i_ixAL (sqL (s3 _ _ b2)) (at_of rfl (List.getElem?_eq_getElem hi2)) ?_
          walk_at "my sts"
          refine ⟨_, _, rfl, (h2 i _ _ (List.getElem?_eq_getElem hi1) (List.getElem?_eq_getElem hi2)).keep s3, fun H4 s4 => ?_⟩
          walk_at "my sts"
          exact ⟨s3.trans s4, _, rfl⟩
        · rintro σ' H' ⟨s3, v, rfl⟩
          walk_at "my sts"
          exact k2 _ s3
  intro n
  induction n with
  | zero => exact body 0 (fun _ _ _ _ => False) ⟨fun _ _ _ _ h => h.elim, fun _ _ _ _ _ _ _ _ _ _ _ _ _ h => h.elim⟩ fun m e => nomatch e
  | succ n ih => exact body (n + 1) _ ih fun m e => by cases e; rfl
theorem ok_law_same {f : Addr} {fd : FuncData} (T : Txt K mg) (D_law_same : Dn K mg "_law_same" s_law_same p_law_same f fd) : FnOk P w K mg base CX0 2 f fd p_law_same (sp_law_same K) := ok_law_same0 T D_law_same 1
end
end My

namespace My
open PySem PySem.Spec PyProof.Rows L2
local macro_rules | `(tactic| walk_at "my hyp") => `(tactic| first | assumption | exact upd_same | (rw [upd_ne (by assumption)]; assumption) | (rw [upd_ne (by assumption)]; exact upd_same) | (rw [upd_ne (by assumption), upd_ne (by assumption)]; assumption))
local macro_rules | `(tactic| walk_at "my c") => `(tactic| first | assumption | (show (0 : Int) < _; first | assumption | decide | omega) | exact .inr ⟨by decide, by decide⟩ | exact .inl ⟨by decide, by decide⟩ | exact .inl ⟨by omega, by omega⟩ | exact .inr ⟨by omega, by omega⟩ | exact ⟨by decide, by decide⟩ | exact ⟨by decide, by decide, by decide⟩)
local macro_rules | `(tactic| walk_at "my len") => `(tactic| first | omega | ((try simp only [len_app, len_one]); omega) | decide)
local macro_rules | `(tactic| walk_at "my ty") => `(tactic| first | exact .base (.int _) | exact .base (.bl _) | exact .base (.str _) | exact .base .non | exact .base (.lst (by walk_at "my hyp")) | exact .base (.tup (by walk_at "my hyp")))
local macro_rules | `(tactic| walk_at "my st") => `(tactic| first
  | (with_reducible refine i_seq ?_)
  | (with_reducible refine i_asg ?_)
  | (with_reducible refine i_gname ?_)
  | (with_reducible refine i_drop ?_)
  | (with_reducible refine i_ret ?_)
  | (with_reducible refine i_retN ?_)
  | (with_reducible refine i_if ?_)
  | (with_reducible refine i_next ?_)
  | (with_reducible refine i_break ?_)
  | (with_reducible refine i_cont ?_)
  | (with_reducible refine i_c ?_)
  | (with_reducible refine i_op ?_)
  | (with_reducible refine i_un ?_)
  | (with_reducible refine i_I0 ?_)
  | (with_reducible refine i_U ?_)
  | ((with_reducible refine' i_eq ?h ?_); (case h => exact rfl))
  | ((with_reducible refine' i_ne ?h ?_); (case h => exact rfl))
  | (with_reducible refine i_test ?_)
  | (with_reducible refine i_B ?_)
  | (with_reducible refine i_bl ?_)
  | (with_reducible refine i_and ?_)
  | (with_reducible refine i_or ?_)
  | (with_reducible refine i_not ?_)
  | (with_reducible refine i_andV ?_)
  | (with_reducible refine i_orV ?_)
  | (with_reducible refine i_notV ?_)
  | (with_reducible refine i_ifE ?_)
  | (with_reducible refine i_chain ?_)
  | (with_reducible refine i_chain3 ?_)
  | (with_reducible refine i_call ?_)
  | (with_reducible refine i_cons ?_)
  | (with_reducible refine i_nil ?_)
  | (with_reducible refine i_CB ?_)
  | (with_reducible refine i_lst ?_)
  | (with_reducible refine i_tup ?_)
  | (with_reducible refine i_gsub ?_)
  | (with_reducible refine i_sl ?_)
  | (with_reducible refine i_int ?_)
  | (with_reducible refine i_max ?_)
  | (with_reducible refine i_min ?_)
  | (with_reducible refine i_inG ?_)
  | (with_reducible refine i_isN_int ?_)
  | (with_reducible refine i_isN_str ?_)
  | (with_reducible refine i_isN_bl ?_)
  | (with_reducible refine i_isN_ref ?_)
  | (with_reducible refine i_isN_non ?_)
  | (with_reducible refine i_notN_int ?_)
  | (with_reducible refine i_notN_str ?_)
  | (with_reducible refine i_notN_bl ?_)
  | (with_reducible refine i_notN_ref ?_)
  | (with_reducible refine i_notN_non ?_)
  | (with_reducible refine i_BM0 ?_)
  | (with_reducible refine i_BM ?_)
  | (with_reducible refine i_noPart ?_)
  | (with_reducible refine i_part ?_)
  | (with_reducible refine i_exint ?_)
  | (with_reducible refine i_revL ?_)
  | (with_reducible refine i_yes ?_)
  | ((with_reducible refine' i_lenL ?h ?_); (case h => exact sqL (by walk_at "my hyp")))
  | ((with_reducible refine' i_lenT ?h ?_); (case h => exact sqT (by walk_at "my hyp")))
  | (with_reducible refine i_tyS ?_)
  | ((with_reducible refine' i_tyL ?h ?_); (case h => exact sqL (by walk_at "my hyp")))
  | ((with_reducible refine' i_lenVL ?h ?_); (case h => exact sqL (by walk_at "my hyp")))
  | ((with_reducible refine' i_lenVT ?h ?_); (case h => exact sqT (by walk_at "my hyp")))
  | ((with_reducible refine' i_lenVS ?h ?_); (case h => walk_at "my len"))
  | ((with_reducible refine' i_lenZ ?h ?_); (case h => walk_at "my len"))
  | ((with_reducible refine' i_addZ ?h ?_); (case h => walk_at "my len"))
  | ((with_reducible refine' i_up ?h ?_); (case h => walk_at "my len"))
  | ((with_reducible refine' i_slS ?h ?_); (case h => walk_at "my len"))
  | ((with_reducible refine' i_ixS ?h ?a ?_); (case h => exact Nat.le_trans (m := 100000) (by walk_at "my len") (by decide)); (case a => first | assumption | exact rfl))
  | (with_reducible refine iteT ?_)
  | (with_reducible refine iteF ?_)
  | (with_reducible refine i_nF ?_)
  | (with_reducible refine i_nT ?_)
  | ((with_reducible refine' i_isi1 (b := true) ?h ?a ?_); (case h => walk_at "my ty"); (case a => decide +kernel))
  | ((with_reducible refine' i_isi1 (b := false) ?h ?a ?_); (case h => walk_at "my ty"); (case a => decide +kernel))
  | ((with_reducible refine' i_isi2' true false true ?h ?t ?a ?b rfl ?_); (case h => walk_at "my hyp"); (case t => walk_at "my ty"); (case a => decide +kernel); (case b => decide +kernel))
  | ((with_reducible refine' i_isi2' false true true ?h ?t ?a ?b rfl ?_); (case h => walk_at "my hyp"); (case t => walk_at "my ty"); (case a => decide +kernel); (case b => decide +kernel))
  | ((with_reducible refine' i_isi2' false false false ?h ?t ?a ?b rfl ?_); (case h => walk_at "my hyp"); (case t => walk_at "my ty"); (case a => decide +kernel); (case b => decide +kernel))
  | (with_reducible refine i_forR ?_)
  | (with_reducible refine i_forL ?_)
  | (with_reducible refine i_lcR ?_)
  | (with_reducible refine i_lcL ?_)
  | (with_reducible refine i_lcS ?_)
  | ((with_reducible refine' i_var ?h ?_); (case h => exact rfl))
  | ((with_reducible refine' i_I ?h ?_); (case h => walk_at "my c"))
  | ((with_reducible refine' i_ixL ?h ?a ?_); (case h => exact sqL (by walk_at "my hyp")); (case a => exact rfl))
  | ((with_reducible refine' i_ixT ?h ?a ?_); (case h => exact sqT (by walk_at "my hyp")); (case a => exact rfl))
  | ((with_reducible refine' i_ixAL ?h ?a ?_); (case h => exact sqL (by walk_at "my hyp")); (case a => first | assumption | exact rfl))
  | ((with_reducible refine' i_ixAT ?h ?a ?_); (case h => exact sqT (by walk_at "my hyp")); (case a => first | assumption | exact rfl))
  | ((with_reducible refine' i_setL ?h ?a ?_); (case h => walk_at "my hyp"); (case a => exact rfl)))
local macro_rules | `(tactic| walk_at "my ab") => `(tactic| first
  | ((with_reducible refine' a_add ?h ?_); (case h => walk_at "my len"); intro w hw)
  | ((with_reducible refine' a_sl ?h ?_); (case h => walk_at "my len"); intro w hw)
  | ((with_reducible refine' a_up ?h ?_); (case h => walk_at "my len"); intro w hw)
  | walk_at "my st")
local macro_rules | `(tactic| walk_at "my abs") => `(tactic| repeat (walk_at "my ab"))
local macro_rules | `(tactic| walk_at "my sts") => `(tactic| repeat (walk_at "my st"))

def AZ : List Nat := ("abcdefghijklmnopqrstuvwxyz" : Str).cps.toList
def AZ9 : List Nat := ("abcdefghijklmnopqrstuvwxyz0123456789" : Str).cps.toList
def firstB (l : List Nat) : Bool := match l[0]? with
  | some c => decide (c ∈ AZ)
  | none => false
/-- what a name is -/
def nameB (z : Str) : Bool := decide (1 ≤ z.length) && (decide (z.length ≤ 8) && (firstB z.cps.toList && z.cps.toList.all fun c => decide (c ∈ AZ9)))
theorem nameB_0 {z : Str} (h : ¬ 1 ≤ z.length) : nameB z = false := by simp [nameB, h]
theorem nameB_9 {z : Str} (h : ¬ z.length ≤ 8) : nameB z = false := by simp [nameB, h]
theorem nameB_f {z : Str} (h : firstB z.cps.toList = false) : nameB z = false := by simp [nameB, h]
theorem nameB_ok {z : Str} (h0 : 1 ≤ z.length) (h1 : z.length ≤ 8) (h2 : firstB z.cps.toList = true) : nameB z = z.cps.toList.all fun c => decide (c ∈ AZ9) := by simp [nameB, h0, h1, h2]
theorem first_of {z : Str} (h : 1 ≤ z.length) : ∃ c, z.cps.toList[0]? = some c ∧ firstB z.cps.toList = decide (c ∈ AZ) := by
  have hl : 0 < z.cps.toList.length := by
    rw [Array.length_toList]
    exact h
  refine ⟨z.cps.toList[0], List.getElem?_eq_getElem hl, ?_⟩
  unfold firstB
  rw [List.getElem?_eq_getElem hl]
theorem fit_len (p : Nat → Bool) : ∀ l : List Nat, (l.filter p).length = l.length ↔ l.all p = true
  | [] => by simp
  | a :: r => by
    have ih := fit_len p r
    have hl := List.length_filter_le p r
    cases h : p a with
    | true => simp [h, ih]
    | false =>
      rw [List.filter_cons, if_neg (by rw [h]; decide), List.all_cons, h]
      simp
      omega
section
variable {P : Program} {w : World} {K : PySem.W.Frag} {mg : Str → Option Value} {base : Heap}
def sp_is_name (K : PySem.W.Frag) : Sp := fun vs H Q _ => ∃ (z : Str), vs = [.str z] ∧ z.length ≤ 1000 ∧ ∀ H', Same H H' → Q (.bl (nameB z)) H'
theorem ok_is_name {f : Addr} {fd : FuncData}
    (T : Txt K mg) (D : Dn K mg "is_name" s_is_name p_is_name f fd) : FnOk P w K mg base CX0 1 f fd p_is_name (sp_is_name K) := by
  refine D.F.ok sc_is_name (fun vs H Q E h => ?_) (fun cdv A outer s' H vs Q E hr h => ?_)
  · obtain ⟨z, rfl, _⟩ := h
    rfl
  · obtain ⟨z, rfl, hz, k⟩ := h
    refine ⟨_, (pss_cons (ps_if (pt_not (pt_chain op_le op_le pe_int (pe_callB n_lenZ (by rfl) T.b_len (by decide +kernel) (pa_cons (pv 0) pa_nil)) (pe_globE (by rfl) T.c_LONGEST_NAME))) (pss_one (ps_ret pe_bl)) pss_nil)
  (pss_one (ps_ret (pe_and (pe_cmpR n_inG (pe_ix ix_str (pv 0) pe_int (fun _ _ => rfl)) (pe_globE (by rfl) T.c_LETTERS) rfl) (pe_one (pe_callB (cr_all rfl) (by rfl) T.b_all (by decide +kernel) (pa_cons (pe_lc (own := [("sign", 1)]) rfl sc_is_name.nd (pi_str (pv 0)) (blkOk_by (own := [("sign", 1)]) (N := n_is_name) (sc := defScope s_is_name) (by decide +kernel)) (fun _ _ _ _ _ => (pg_name (i := 1) sc_is_name.nd rfl (Or.inl rfl))) (fun _ _ _ _ _ => pts_nil) (fun _ _ _ _ _ => (pe_cmpR n_inG (pv 1) (pe_globE (by rfl) T.c_LETTERS_AND_DIGITS) rfl))) pa_nil))))))), ?_⟩
    walk_at "my sts"
    refine i_ite (fun h1 => ?_) fun h1 => ?_
    · have h1 : 1 ≤ z.length := by
        have := of_decide_eq_true h1
        omega
      walk_at "my sts"
      refine i_ite (fun h2 => ?_) fun h2 => ?_
      · walk_at "my sts"
        have h2 := of_decide_eq_false (nbT h2)
        rw [← nameB_9 (z := z) (by omega)]
        exact k _ (Same.refl _)
      · walk_at "my sts"
        have h2 : z.length ≤ 8 := by
          have := of_decide_eq_true (nbF h2)
          omega
        obtain ⟨c, hc, hf⟩ := first_of h1
        refine i_ixS (Nat.le_trans hz (by decide)) (atI_nat (j := 0) hc) ?_
        walk_at "my sts"
        refine i_ite (fun h3 => ?_) fun h3 => ?_
        · walk_at "my sts"
          refine cs (fun Dl i H' => Same H H' ∧ H' Dl = some (.lst (((z.cps.toList.take i).map fun c => decide (c ∈ AZ9)).map V.bl))) (fun Dl hD => ⟨same_new hD, upd_same⟩) ?_ ?_
          · rintro Dl i c H' hD hc' ⟨sm, hd⟩
            refine ⟨rfl, ?_⟩
            walk_at "my sts"
            refine ⟨_, hd, ?_, same_mut sm hD, ?_⟩
            · rw [List.length_map, List.length_map, List.length_take]
              exact Nat.lt_of_le_of_lt (m := 8) (by rw [Array.length_toList]; exact Nat.le_trans (Nat.min_le_right _ _) h2) (by decide)
            · rw [upd_same, take_map _ (of_arr hc'), List.map_append]
              rfl
          · rintro Dl H' hD ⟨sm, hd⟩
            walk_at "my sts"
            rw [← Array.length_toList, take_all] at hd
            refine i_all (sqL hd) ?_
            have e : nameB z = (z.cps.toList.map fun c => decide (c ∈ AZ9)).all id := by
              rw [nameB_ok h1 h2 (hf.trans h3), List.all_map]
              rfl
            rw [← e]
            exact k _ sm
        · rw [← nameB_f (hf.trans h3)]
          exact k _ (Same.refl _)
    · walk_at "my sts"
      have h1 := of_decide_eq_false h1
      rw [← nameB_0 (z := z) (by omega)]
      exact k _ (Same.refl _)
def sp_is_number (K : PySem.W.Frag) : Sp := fun vs H Q _ => ∃ (x : V) (lo hi : Int), vs = [x, .int lo, .int hi] ∧ ((∃ n, x = .int n ∧ ∀ H', Same H H' → Q (.bl (decide (lo ≤ n) && decide (n ≤ hi))) H') ∨ (∃ b, x = .bl b ∧ ∀ H', Same H H' → Q (.bl false) H'))
theorem ok_is_number {f : Addr} {fd : FuncData}
    (T : Txt K mg) (D : Dn K mg "is_number" s_is_number p_is_number f fd) : FnOk P w K mg base CX0 1 f fd p_is_number (sp_is_number K) := by
  refine D.F.ok sc_is_number (fun vs H Q E h => ?_) (fun cdv A outer s' H vs Q E hr h => ?_)
  · obtain ⟨x, lo, hi, rfl, _⟩ := h
    rfl
  · obtain ⟨x, lo, hi, rfl, k⟩ := h
    refine ⟨_, (pss_one (ps_ret (pe_and (pe_callB call_isi (by rfl) T.b_isinstance (by decide +kernel) (pa_cons (pv 0) (pa_cons (pe_bltn (v := .ty "int") (by rfl) T.b_int (by decide +kernel) rfl) pa_nil))) (pe_and (pe_not (pe_callB call_isi (by rfl) T.b_isinstance (by decide +kernel) (pa_cons (pv 0) (pa_cons (pe_bltn (v := .ty "bool") (by rfl) T.b_bool (by decide +kernel) rfl) pa_nil)))) (pe_one (pe_chain op_le op_le (pv 1) (pv 0) (pv 2))))))), ?_⟩
    rcases k with ⟨n, rfl, k⟩ | ⟨b, rfl, k⟩
    · walk_at "my sts"
      refine i_ite (fun h1 => ?_) fun h1 => ?_
      · walk_at "my sts"
        rw [h1, Bool.true_and] at k
        exact k _ (Same.refl _)
      · rw [h1, Bool.false_and] at k
        exact k _ (Same.refl _)
    · walk_at "my sts"
      exact k _ (Same.refl _)
def sp_law_form (K : PySem.W.Frag) : Sp := fun vs H Q _ => ∃ (z : Str), vs = [.str z] ∧ z.length ≤ 1000 ∧ ∀ H', Same H H' → Q (.bl (nameB z)) H'
theorem az9_eq : (("abcdefghijklmnopqrstuvwxyz" : Str) ++ ("0123456789" : Str)).cps.toList = AZ9 := by decide +kernel
theorem ok_law_form {f : Addr} {fd : FuncData}
    (T : Txt K mg) (D : Dn K mg "_law_form" s_law_form p_law_form f fd) : FnOk P w K mg base CX0 1 f fd p_law_form (sp_law_form K) := by
  refine D.F.ok sc_law_form (fun vs H Q E h => ?_) (fun cdv A outer s' H vs Q E hr h => ?_)
  · obtain ⟨z, rfl, _⟩ := h
    rfl
  · obtain ⟨z, rfl, hz, k⟩ := h
    refine ⟨_, (pss_cons (ps_set (i := 1) sc_law_form.nd rfl (Or.inr rfl) pe_str)
  (pss_cons (ps_setLc (i := 2) (own := [("sign", 3)]) rfl sc_law_form.nd rfl rfl (sw_true rfl rfl rfl (by decide +kernel)) (pi_str (pv 0)) (blkOk_by (own := [("sign", 3)]) (N := n_law_form) (sc := defScope s_law_form) (by decide +kernel)) (fun _ _ _ _ _ => (pg_name (i := 3) sc_law_form.nd rfl (Or.inl rfl))) (fun _ _ _ _ _ => (pts_one (pt_cmpR n_inG (pv 3) (pe_op n_addZ (pv 1) pe_str) rfl))) (fun _ _ _ _ _ => (pv 3)))
  (pss_one (ps_ret (pe_and (pe_chain3 op_le op_eq op_le pe_int (pe_callB n_lenQ (by rfl) T.b_len (by decide +kernel) (pa_cons (pv 2) pa_nil)) (pe_callB n_lenZ (by rfl) T.b_len (by decide +kernel) (pa_cons (pv 0) pa_nil)) pe_int) (pe_one (pe_cmpR n_inG (pe_ix ix_str (pv 0) pe_int (fun _ _ => rfl)) (pv 1) rfl))))))), ?_⟩
    walk_at "my sts"
    refine cs (fun Dl i H' => Same H H' ∧ H' Dl = some (.lst (((z.cps.toList.take i).filter fun c => decide (c ∈ AZ9)).map fun c => V.str ⟨#[c]⟩))) (fun Dl hD => ⟨same_new hD, upd_same⟩) ?_ ?_
    · rintro Dl i c H' hD hc' ⟨sm, hd⟩
      refine ⟨rfl, ?_⟩
      walk_at "my sts"
      rw [az9_eq]
      refine i_ite (fun h1 => ?_) fun h1 => ?_
      · walk_at "my sts"
        refine ⟨_, hd, ?_, same_mut sm hD, ?_⟩
        · rw [List.length_map]
          refine Nat.lt_of_le_of_lt (m := 1000) (Nat.le_trans (List.length_filter_le _ _) ?_) (by decide)
          rw [List.length_take, Array.length_toList]
          exact Nat.le_trans (Nat.min_le_right _ _) hz
        · rw [upd_same, take_filter _ (of_arr hc'), if_pos h1, List.map_append]
          rfl
      · refine ⟨sm, ?_⟩
        rw [take_filter _ (of_arr hc'), if_neg (by rw [h1]; decide), List.append_nil]
        exact hd
    · rintro Dl H' hD ⟨sm, hd⟩
      rw [← Array.length_toList, take_all] at hd
      walk_at "my sts"
      have key := fit_len (fun c => decide (c ∈ AZ9)) z.cps.toList
      have hl : z.cps.toList.length = z.length := Array.length_toList
      rw [List.length_map]
      rw [hl] at key
      have fle := List.length_filter_le (fun c => decide (c ∈ AZ9)) z.cps.toList
      rw [hl] at fle
      generalize (List.filter (fun c => decide (c ∈ AZ9)) z.cps.toList).length = n at key fle
      refine i_ite (fun h1 => ?_) fun h1 => ?_
      · have h1 := of_decide_eq_true h1
        walk_at "my sts"
        refine i_ite (fun h2 => ?_) fun h2 => ?_
        · have h2 : n = z.length := by
            have := of_decide_eq_true h2
            injection this with this
            omega
          walk_at "my sts"
          refine i_ite (fun h3 => ?_) fun h3 => ?_
          · have h3 := of_decide_eq_true h3
            walk_at "my sts"
            obtain ⟨c, hc, hf⟩ := first_of (z := z) (by omega)
            refine i_ixS (Nat.le_trans hz (by decide)) (atI_nat (j := 0) hc) ?_
            walk_at "my sts"
            have e : nameB z = decide (c ∈ AZ) := by
              rw [← hf]
              cases e : firstB z.cps.toList with
              | true => rw [nameB_ok (by omega) (by omega) e, key.mp h2]
              | false => rw [nameB_f e]
            have k := k _ sm
            rw [e] at k
            exact k
          · have h3 := of_decide_eq_false h3
            rw [← nameB_9 (z := z) (by omega)]
            exact k _ sm
        · have h2 : ¬ n = z.length := fun e => by
            have := of_decide_eq_false h2
            exact this (by rw [e])
          walk_at "my sts"
          have e : nameB z = false := by
            unfold nameB
            have : (z.cps.toList.all fun c => decide (c ∈ AZ9)) = false := by
              cases e : (z.cps.toList.all fun c => decide (c ∈ AZ9)) with
              | false => rfl
              | true => exact absurd (key.mpr e) h2
            rw [this, Bool.and_false, Bool.and_false, Bool.and_false]
          rw [← e]
          exact k _ sm
      · have h1 := of_decide_eq_false h1
        walk_at "my sts"
        have e : nameB z = false := by
          by_cases h0 : n = z.length
          · exact nameB_0 (by omega)
          · unfold nameB
            have : (z.cps.toList.all fun c => decide (c ∈ AZ9)) = false := by
              cases e : (z.cps.toList.all fun c => decide (c ∈ AZ9)) with
              | false => rfl
              | true => exact absurd (key.mpr e) h0
            rw [this, Bool.and_false, Bool.and_false, Bool.and_false]
        rw [← e]
        exact k _ sm
end
end My

namespace My
open PySem PySem.Spec PyProof.Rows L2
local macro_rules | `(tactic| walk_at "my hyp") => `(tactic| first | assumption | exact upd_same | (rw [upd_ne (by assumption)]; assumption) | (rw [upd_ne (by assumption)]; exact upd_same) | (rw [upd_ne (by assumption), upd_ne (by assumption)]; assumption))
local macro_rules | `(tactic| walk_at "my c") => `(tactic| first | assumption | (show (0 : Int) < _; first | assumption | decide | omega) | exact .inr ⟨by decide, by decide⟩ | exact .inl ⟨by decide, by decide⟩ | exact .inl ⟨by omega, by omega⟩ | exact .inr ⟨by omega, by omega⟩ | exact ⟨by decide, by decide⟩ | exact ⟨by decide, by decide, by decide⟩)
local macro_rules | `(tactic| walk_at "my len") => `(tactic| first | omega | ((try simp only [len_app, len_one]); omega) | decide)
local macro_rules | `(tactic| walk_at "my ty") => `(tactic| first | exact .base (.int _) | exact .base (.bl _) | exact .base (.str _) | exact .base .non | exact .base (.lst (by walk_at "my hyp")) | exact .base (.tup (by walk_at "my hyp")))
local macro_rules | `(tactic| walk_at "my st") => `(tactic| first
  | (with_reducible refine i_seq ?_)
  | (with_reducible refine i_asg ?_)
  | (with_reducible refine i_gname ?_)
  | (with_reducible refine i_drop ?_)
  | (with_reducible refine i_ret ?_)
  | (with_reducible refine i_retN ?_)
  | (with_reducible refine i_if ?_)
  | (with_reducible refine i_next ?_)
  | (with_reducible refine i_break ?_)
  | (with_reducible refine i_cont ?_)
  | (with_reducible refine i_c ?_)
  | (with_reducible refine i_op ?_)
  | (with_reducible refine i_un ?_)
  | (with_reducible refine i_I0 ?_)
  | (with_reducible refine i_U ?_)
  | ((with_reducible refine' i_eq ?h ?_); (case h => exact rfl))
  | ((with_reducible refine' i_ne ?h ?_); (case h => exact rfl))
  | (with_reducible refine i_test ?_)
  | (with_reducible refine i_B ?_)
  | (with_reducible refine i_bl ?_)
  | (with_reducible refine i_and ?_)
  | (with_reducible refine i_or ?_)
  | (with_reducible refine i_not ?_)
  | (with_reducible refine i_andV ?_)
  | (with_reducible refine i_orV ?_)
  | (with_reducible refine i_notV ?_)
  | (with_reducible refine i_ifE ?_)
  | (with_reducible refine i_chain ?_)
  | (with_reducible refine i_chain3 ?_)
  | (with_reducible refine i_call ?_)
  | (with_reducible refine i_cons ?_)
  | (with_reducible refine i_nil ?_)
  | (with_reducible refine i_CB ?_)
  | (with_reducible refine i_lst ?_)
  | (with_reducible refine i_tup ?_)
  | (with_reducible refine i_gsub ?_)
  | (with_reducible refine i_sl ?_)
  | (with_reducible refine i_int ?_)
  | (with_reducible refine i_max ?_)
  | (with_reducible refine i_min ?_)
  | (with_reducible refine i_inG ?_)
  | (with_reducible refine i_isN_int ?_)
  | (with_reducible refine i_isN_str ?_)
  | (with_reducible refine i_isN_bl ?_)
  | (with_reducible refine i_isN_ref ?_)
  | (with_reducible refine i_isN_non ?_)
  | (with_reducible refine i_notN_int ?_)
  | (with_reducible refine i_notN_str ?_)
  | (with_reducible refine i_notN_bl ?_)
  | (with_reducible refine i_notN_ref ?_)
  | (with_reducible refine i_notN_non ?_)
  | (with_reducible refine i_BM0 ?_)
  | (with_reducible refine i_BM ?_)
  | (with_reducible refine i_noPart ?_)
  | (with_reducible refine i_part ?_)
  | (with_reducible refine i_exint ?_)
  | (with_reducible refine i_revL ?_)
  | (with_reducible refine i_yes ?_)
  | ((with_reducible refine' i_lenL ?h ?_); (case h => exact sqL (by walk_at "my hyp")))
  | ((with_reducible refine' i_lenT ?h ?_); (case h => exact sqT (by walk_at "my hyp")))
  | (with_reducible refine i_tyS ?_)
  | ((with_reducible refine' i_tyL ?h ?_); (case h => exact sqL (by walk_at "my hyp")))
  | ((with_reducible refine' i_lenVL ?h ?_); (case h => exact sqL (by walk_at "my hyp")))
  | ((with_reducible refine' i_lenVT ?h ?_); (case h => exact sqT (by walk_at "my hyp")))
  | ((with_reducible refine' i_lenVS ?h ?_); (case h => walk_at "my len"))
  | ((with_reducible refine' i_lenZ ?h ?_); (case h => walk_at "my len"))
  | ((with_reducible refine' i_addZ ?h ?_); (case h => walk_at "my len"))
  | ((with_reducible refine' i_up ?h ?_); (case h => walk_at "my len"))
  | ((with_reducible refine' i_slS ?h ?_); (case h => walk_at "my len"))
  | ((with_reducible refine' i_ixS ?h ?a ?_); (case h => exact Nat.le_trans (m := 100000) (by walk_at "my len") (by decide)); (case a => first | assumption | exact rfl))
  | (with_reducible refine iteT ?_)
  | (with_reducible refine iteF ?_)
  | (with_reducible refine i_nF ?_)
  | (with_reducible refine i_nT ?_)
  | ((with_reducible refine' i_isi1 (b := true) ?h ?a ?_); (case h => walk_at "my ty"); (case a => decide +kernel))
  | ((with_reducible refine' i_isi1 (b := false) ?h ?a ?_); (case h => walk_at "my ty"); (case a => decide +kernel))
  | ((with_reducible refine' i_isi2' true false true ?h ?t ?a ?b rfl ?_); (case h => walk_at "my hyp"); (case t => walk_at "my ty"); (case a => decide +kernel); (case b => decide +kernel))
  | ((with_reducible refine' i_isi2' false true true ?h ?t ?a ?b rfl ?_); (case h => walk_at "my hyp"); (case t => walk_at "my ty"); (case a => decide +kernel); (case b => decide +kernel))
  | ((with_reducible refine' i_isi2' false false false ?h ?t ?a ?b rfl ?_); (case h => walk_at "my hyp"); (case t => walk_at "my ty"); (case a => decide +kernel); (case b => decide +kernel))
  | (with_reducible refine i_forR ?_)
  | (with_reducible refine i_forL ?_)
  | (with_reducible refine i_lcR ?_)
  | (with_reducible refine i_lcL ?_)
  | (with_reducible refine i_lcS ?_)
  | ((with_reducible refine' i_var ?h ?_); (case h => exact rfl))
  | ((with_reducible refine' i_I ?h ?_); (case h => walk_at "my c"))
  | ((with_reducible refine' i_ixL ?h ?a ?_); (case h => exact sqL (by walk_at "my hyp")); (case a => exact rfl))
  | ((with_reducible refine' i_ixT ?h ?a ?_); (case h => exact sqT (by walk_at "my hyp")); (case a => exact rfl))
  | ((with_reducible refine' i_ixAL ?h ?a ?_); (case h => exact sqL (by walk_at "my hyp")); (case a => first | assumption | exact rfl))
  | ((with_reducible refine' i_ixAT ?h ?a ?_); (case h => exact sqT (by walk_at "my hyp")); (case a => first | assumption | exact rfl))
  | ((with_reducible refine' i_setL ?h ?a ?_); (case h => walk_at "my hyp"); (case a => exact rfl)))
local macro_rules | `(tactic| walk_at "my ab") => `(tactic| first
  | ((with_reducible refine' a_add ?h ?_); (case h => walk_at "my len"); intro w hw)
  | ((with_reducible refine' a_sl ?h ?_); (case h => walk_at "my len"); intro w hw)
  | ((with_reducible refine' a_up ?h ?_); (case h => walk_at "my len"); intro w hw)
  | walk_at "my st")
local macro_rules | `(tactic| walk_at "my abs") => `(tactic| repeat (walk_at "my ab"))
local macro_rules | `(tactic| walk_at "my sts") => `(tactic| repeat (walk_at "my st"))

/-- names among them -/
def okName : V → Bool
  | .str z => decide (1 ≤ z.length) && decide (z.length ≤ 8)
  | _ => false
theorem okName_of {v : V} (h : okName v = true) : ∃ z : Str, v = .str z ∧ 1 ≤ z.length ∧ z.length ≤ 8 := by
  cases v with
  | str z =>
    unfold okName at h
    rw [Bool.and_eq_true, decide_eq_true_eq, decide_eq_true_eq] at h
    exact ⟨z, rfl, h.1, h.2⟩
  | _ => cases h
section
variable {P : Program} {w : World} {K : PySem.W.Frag} {mg : Str → Option Value} {base : Heap}
def sp_law_near (K : PySem.W.Frag) : Sp := fun vs H Q _ => ∃ (z : Str), vs = [.str z] ∧ z.length ≤ 8 ∧ ∀ p xs H', H p = none → Same H H' → H' p = some (.lst xs) → xs.length = 10 → Short 1000 xs → Q (.ref p) H'
theorem ok_law_near {f : Addr} {fd : FuncData}
    (T : Txt K mg) (D : Dn K mg "_law_near" s_law_near p_law_near f fd) : FnOk P w K mg base CX0 1 f fd p_law_near (sp_law_near K) := by
  refine D.F.ok sc_law_near (fun vs H Q E h => ?_) (fun cdv A outer s' H vs Q E hr h => ?_)
  · obtain ⟨z, rfl, _⟩ := h
    rfl
  · obtain ⟨z, rfl, hz, k⟩ := h
    have e2 : ("a0zb1yc2" : Str).length = 8 := by decide +kernel
    have e3 : ("\n" : Str).length = 1 := by decide +kernel
    have e4 : (" " : Str).length = 1 := by decide +kernel
    have e5 : ("7" : Str).length = 1 := by decide +kernel
    refine ⟨_, (pss_cons (ps_set (i := 1) sc_law_near.nd rfl (Or.inl rfl) (pe_lst (pa_cons (pe_op n_addZ (pv 0) pe_str) (pa_cons (pe_op n_addZ pe_str (pv 0)) (pa_cons (pe_op n_addZ (pv 0) pe_str) (pa_cons (pe_op n_addZ pe_str (pv 0)) (pa_cons (pe_op n_addZ (pe_bm0 PySem.F.plainAttrs_str PySem.F.slot_str_upper PySem.F.type_str_upper n_upper (pe_slice sl_str (pv 0) po_none (po_some pe_int))) (pe_slice sl_str (pv 0) (po_some pe_int) po_none)) (pa_cons (pe_op n_addZ pe_str (pe_slice sl_str (pv 0) po_none (po_some pe_int))) pa_nil))))))))
  (pss_one (ps_ret (pe_op op_cat (pv 1) (pe_lst (pa_cons (pe_slice sl_str (pe_op n_addZ (pv 0) pe_str) po_none (po_some pe_int)) (pa_cons (pe_slice sl_str (pe_op n_addZ (pv 0) pe_str) po_none (po_some pe_int)) (pa_cons (pe_slice sl_str (pv 0) po_none (po_some pe_int)) (pa_cons (pe_op n_addZ (pv 0) (pv 0)) pa_nil))))))))), ?_⟩
    walk_at "my abs"
    refine lst_short (n := 1000) (m := 6) ?_ rfl (by decide) fun p xs H1 hp s1 h1 l1 sh1 => ?_
    · repeat (first | exact Short.nil | refine Short.cons (by omega) ?_)
    walk_at "my abs"
    refine lst_short (n := 1000) (m := 4) ?_ rfl (by decide) fun q ys H2 hq s2 h2 l2 sh2 => ?_
    · repeat (first | exact Short.nil | refine Short.cons (by omega) ?_)
    walk_at "my abs"
    refine cat_end (s2 _ _ h1) h2 (by omega) fun r H3 hr3 s3 h3 => ?_
    exact k r _ H3 (s1.free (s2.free hr3)) (s1.trans (s2.trans s3)) h3 (by rw [List.length_append]; omega) (sh1.app sh2)
def sp_law_cut (K : PySem.W.Frag) : Sp := fun vs H Q _ => ∃ (n : Int), vs = [.int n] ∧ ∀ m H', (-(10 ^ 60) < m ∧ m < 10 ^ 60) → Same H H' → Q (.int m) H'
theorem ok_law_cut {f : Addr} {fd : FuncData}
    (T : Txt K mg) (D : Dn K mg "_law_cut" s_law_cut p_law_cut f fd) : FnOk P w K mg base CX0 1 f fd p_law_cut (sp_law_cut K) := by
  refine D.F.ok sc_law_cut (fun vs H Q E h => ?_) (fun cdv A outer s' H vs Q E hr h => ?_)
  · obtain ⟨n, rfl, _⟩ := h
    rfl
  · obtain ⟨n, rfl, k⟩ := h
    have e60 : (10 : Int) ^ Int.toNat 60 = 10 ^ 60 := rfl
    refine ⟨_, (pss_one (ps_ret (pe_callB (n_max rfl) (by rfl) T.b_max (by decide +kernel) (pa_cons (pe_op op_sub pe_int (pe_op op_pow pe_int pe_int)) (pa_cons (pe_callB (n_min rfl) (by rfl) T.b_min (by decide +kernel) (pa_cons (pe_op op_sub (pe_op op_pow pe_int pe_int) pe_int) (pa_cons (pv 0) pa_nil))) pa_nil))))), ?_⟩
    walk_at "my sts"
    refine k _ _ ?_ (Same.refl _)
    rw [e60]
    split <;> split <;> omega
def sp_law_name (K : PySem.W.Frag) : Sp := fun vs H Q _ => ∃ (s : Addr), vs = [.ref s] ∧ StOk H s ∧ ∀ (z : Str) H', 1 ≤ z.length → z.length ≤ 8 → StOk H' s → Fr s H H' → Q (.str z) H'
theorem ok_law_name {f : Addr} {fd : FuncData}
    {f_law_take : Addr} {fd_law_take : FuncData} (D_law_take : Dn K mg "_law_take" s_law_take p_law_take f_law_take fd_law_take) (G_law_take : FnOk P w K mg base CX0 2 f_law_take fd_law_take p_law_take (sp_law_take K))
    {f_law_pick : Addr} {fd_law_pick : FuncData} (D_law_pick : Dn K mg "_law_pick" s_law_pick p_law_pick f_law_pick fd_law_pick) (G_law_pick : FnOk P w K mg base CX0 3 f_law_pick fd_law_pick p_law_pick (sp_law_pick K))
    {f_law_some : Addr} {fd_law_some : FuncData} (D_law_some : Dn K mg "_law_some" s_law_some p_law_some f_law_some fd_law_some) (G_law_some : FnOk P w K mg base CX0 3 f_law_some fd_law_some p_law_some (sp_law_some K))
    (T : Txt K mg) (D : Dn K mg "_law_name" s_law_name p_law_name f fd) : FnOk P w K mg base CX0 4 f fd p_law_name (sp_law_name K) := by
  refine D.F.ok sc_law_name (fun vs H Q E h => ?_) (fun cdv A outer s' H vs Q E hr h => ?_)
  · obtain ⟨s, rfl, _⟩ := h
    rfl
  · obtain ⟨s, rfl, hst, k⟩ := h
    refine ⟨_, (pss_cons (ps_set (i := 1) sc_law_name.nd rfl (Or.inl rfl) (pe_lst (pa_cons pe_str (pa_cons pe_str (pa_cons pe_str (pa_cons pe_str (pa_cons pe_str (pa_cons pe_str (pa_cons pe_str (pa_cons pe_str (pa_cons pe_str (pa_cons pe_str (pa_cons pe_str (pa_cons pe_str (pa_cons pe_str pa_nil)))))))))))))))
  (pss_cons (ps_set (i := 1) sc_law_name.nd rfl (Or.inl rfl) (pe_op op_cat (pv 1) (pe_lst (pa_cons pe_str (pa_cons pe_str (pa_cons pe_str (pa_cons pe_str (pa_cons pe_str (pa_cons pe_str (pa_cons pe_str (pa_cons pe_str (pa_cons pe_str (pa_cons pe_str (pa_cons pe_str pa_nil))))))))))))))
  (pss_cons (ps_set (i := 1) sc_law_name.nd rfl (Or.inl rfl) (pe_op op_cat (pv 1) (pe_lst (pa_cons pe_str (pa_cons pe_str (pa_cons pe_str (pa_cons pe_str (pa_cons pe_str (pa_cons pe_str (pa_cons pe_str (pa_cons pe_str (pa_cons pe_str (pa_cons pe_str (pa_cons pe_str (pa_cons pe_str pa_nil)))))))))))))))
  (pss_cons (ps_if (pt_cmpR op_eq (pe_call G_law_take (hr.mono (by decide)) (by rfl) D_law_take.m D_law_take.F.kp D_law_take.b .nil pass0 (pa_cons (pv 0) (pa_cons pe_int pa_nil))) pe_int (nomark _)) (pss_one (ps_ret (pe_call G_law_pick (hr.mono (by decide)) (by rfl) D_law_pick.m D_law_pick.F.kp D_law_pick.b .nil pass0 (pa_cons (pv 0) (pa_cons (pv 1) pa_nil))))) pss_nil)
  (pss_cons (ps_set (i := 2) sc_law_name.nd rfl (Or.inl rfl) pe_str)
  (pss_cons (ps_set (i := 3) sc_law_name.nd rfl (Or.inl rfl) (pe_ix ix_str (pv 2) (pe_call G_law_take (hr.mono (by decide)) (by rfl) D_law_take.m D_law_take.F.kp D_law_take.b .nil pass0 (pa_cons (pv 0) (pa_cons pe_int pa_nil))) (fun _ _ => rfl)))
  (pss_cons (ps_for PassesOwn.never rfl (pi_range1 (by rfl) T.b_range (pa_cons (pe_op op_sub (pe_call G_law_some (hr.mono (by decide)) (by rfl) D_law_some.m D_law_some.F.kp D_law_some.b .nil pass0 (pa_cons (pv 0) (pa_cons pe_int (pa_cons pe_int pa_nil)))) pe_int) pa_nil)) (pg_name (i := 4) sc_law_name.nd rfl (Or.inl rfl))
   (pss_one (ps_set (i := 3) sc_law_name.nd rfl (Or.inl rfl) (pe_op n_addZ (pv 3) (pe_ix ix_str (pv 2) (pe_call G_law_take (hr.mono (by decide)) (by rfl) D_law_take.m D_law_take.F.kp D_law_take.b .nil pass0 (pa_cons (pv 0) (pa_cons pe_int pa_nil))) (fun _ _ => rfl))))))
  (pss_one (ps_ret (pv 3)))))))))), ?_⟩
    walk_at "my sts"
    refine lst_p (fun ys => ys.all okName = true ∧ ys.length = 13) ⟨by decide +kernel, by decide⟩ (by decide) fun p1 y1 H1 hp1 s1 h1 r1 => ?_
    obtain ⟨r1, l1⟩ := r1
    walk_at "my sts"
    refine lst_p (fun ys => ys.all okName = true ∧ ys.length = 11) ⟨by decide +kernel, by decide⟩ (by decide) fun p2 y2 H2 hp2 s2 h2 r2 => ?_
    obtain ⟨r2, l2⟩ := r2
    walk_at "my sts"
    refine cat_end (s2 _ _ h1) h2 (by omega) fun p3 H3 hp3 s3 h3 => ?_
    walk_at "my sts"
    refine lst_p (fun ys => ys.all okName = true ∧ ys.length = 12) ⟨by decide +kernel, by decide⟩ (by decide) fun p4 y4 H4 hp4 s4 h4 r4 => ?_
    obtain ⟨r4, l4⟩ := r4
    walk_at "my sts"
    refine cat_end (s4 _ _ h3) h4 (by rw [List.length_append]; omega) fun p5 H5 hp5 s5 h5 => ?_
    have r5 : ∀ v ∈ (y1 ++ y2) ++ y4, ∃ z : Str, v = .str z ∧ 1 ≤ z.length ∧ z.length ≤ 8 := fun v hv => okName_of (by
      have all : ((y1 ++ y2) ++ y4).all okName = true := by rw [List.all_append, List.all_append, r1, r2, r4]; rfl
      exact List.all_eq_true.mp all v hv)
    have l5 : ((y1 ++ y2) ++ y4).length = 36 := by
      rw [List.length_append, List.length_append]
      omega
    have s05 : Same H H5 := s1.trans (s2.trans (s3.trans (s4.trans s5)))
    have hst5 := hst.same s05
    have f5 : Fr s H H5 := Fr.same s05
    have n5 : p5 ≠ s := by
      obtain ⟨o, e⟩ := (hst.same (s1.trans (s2.trans (s3.trans s4)))).some
      exact ne_none e hp5
    walk_at "my sts"
    refine ⟨s, _, rfl, hst5, by decide, fun n H6 n0 n1 hst6 f6 => ?_⟩
    walk_at "my sts"
    refine i_ite (fun _ => ?_) fun _ => ?_
    · walk_at "my sts"
      refine ⟨s, _, rfl, hst6, .inl ⟨p5, _, rfl, f6.1 _ _ h5 n5, n5, by omega, by omega, fun v H7 hv hst7 f7 => ?_⟩⟩
      obtain ⟨z, rfl, z1, z2⟩ := r5 v hv
      exact k z H7 z1 z2 hst7 (f5.trans (f6.trans f7))
    · have ls : ("abcdefghijklmnopqrstuvwxyz0123456789" : Str).length = 36 := by decide +kernel
      walk_at "my sts"
      refine ⟨s, _, rfl, hst6, by decide, fun n2 H7 m0 m1 hst7 f7 => ?_⟩
      obtain ⟨c, hc, _⟩ := at_str (z := "abcdefghijklmnopqrstuvwxyz0123456789") (i := n2) m0 (by omega)
      refine i_ixS (by rw [ls]; decide) hc ?_
      walk_at "my sts"
      refine ⟨s, 1, 8, rfl, hst7, by decide, fun n3 H8 b0 b1 hst8 f8 => ?_⟩
      walk_at "my sts"
      refine fr1 (by omega) (by omega) (fun i σ' H' => ∃ (z : Str) (v : Option V), σ' = [some (.ref s), some (.ref p5), some (.str "abcdefghijklmnopqrstuvwxyz0123456789"), some (.str z), v] ∧ z.length = i + 1 ∧ StOk H' s ∧ Fr s H H') ⟨_, none, rfl, rfl, hst8, f5.trans (f6.trans (f7.trans f8))⟩ ?_ ?_
      · rintro i σ' H' hi ⟨z, v, rfl, hz, hst9, f9⟩
        walk_at "my sts"
        refine ⟨s, _, rfl, hst9, by decide, fun n4 H10 c0 c1 hst10 f10 => ?_⟩
        obtain ⟨c, hc, _⟩ := at_str (z := "abcdefghijklmnopqrstuvwxyz0123456789") (i := n4) c0 (by omega)
        refine i_ixS (by rw [ls]; decide) hc ?_
        have := len_one c
        walk_at "my abs"
        exact ⟨_, _, rfl, by omega, hst10, f9.trans f10⟩
      · rintro σ' H' ⟨z, v, rfl, hz, hst9, f9⟩
        walk_at "my sts"
        exact k z H' (by omega) (by omega) hst9 f9
def sp_law_bad_name (K : PySem.W.Frag) : Sp := fun vs H Q _ => ∃ (s : Addr), vs = [.ref s] ∧ StOk H s ∧ ∀ (z : Str) H', z.length ≤ 1000 → StOk H' s → Fr s H H' → Q (.str z) H'
theorem ok_law_bad_name {f : Addr} {fd : FuncData}
    {f_law_name : Addr} {fd_law_name : FuncData} (D_law_name : Dn K mg "_law_name" s_law_name p_law_name f_law_name fd_law_name) (G_law_name : FnOk P w K mg base CX0 4 f_law_name fd_law_name p_law_name (sp_law_name K))
    {f_law_take : Addr} {fd_law_take : FuncData} (D_law_take : Dn K mg "_law_take" s_law_take p_law_take f_law_take fd_law_take) (G_law_take : FnOk P w K mg base CX0 2 f_law_take fd_law_take p_law_take (sp_law_take K))
    {f_law_some : Addr} {fd_law_some : FuncData} (D_law_some : Dn K mg "_law_some" s_law_some p_law_some f_law_some fd_law_some) (G_law_some : FnOk P w K mg base CX0 3 f_law_some fd_law_some p_law_some (sp_law_some K))
    (T : Txt K mg) (D : Dn K mg "_law_bad_name" s_law_bad_name p_law_bad_name f fd) : FnOk P w K mg base CX0 5 f fd p_law_bad_name (sp_law_bad_name K) := by
  refine D.F.ok sc_law_bad_name (fun vs H Q E h => ?_) (fun cdv A outer s' H vs Q E hr h => ?_)
  · obtain ⟨s, rfl, _⟩ := h
    rfl
  · obtain ⟨s, rfl, hst, k⟩ := h
    refine ⟨_, (pss_cons (ps_set (i := 1) sc_law_bad_name.nd rfl (Or.inl rfl) pe_str)
  (pss_cons (ps_set (i := 2) sc_law_bad_name.nd rfl (Or.inl rfl) (pe_call G_law_name (hr.mono (by decide)) (by rfl) D_law_name.m D_law_name.F.kp D_law_name.b .nil pass0 (pa_cons (pv 0) pa_nil)))
  (pss_cons (ps_set (i := 3) sc_law_bad_name.nd rfl (Or.inl rfl) (pe_call G_law_take (hr.mono (by decide)) (by rfl) D_law_take.m D_law_take.F.kp D_law_take.b .nil pass0 (pa_cons (pv 0) (pa_cons pe_int pa_nil))))
  (pss_cons (ps_if (pt_cmpR op_eq (pv 3) pe_int (nomark _)) (pss_one (ps_ret pe_str)) pss_nil)
  (pss_cons (ps_if (pt_cmpR op_eq (pv 3) pe_int (nomark _)) (pss_one (ps_ret (pe_op n_addZ (pe_ix ix_str pe_str (pe_call G_law_take (hr.mono (by decide)) (by rfl) D_law_take.m D_law_take.F.kp D_law_take.b .nil pass0 (pa_cons (pv 0) (pa_cons pe_int pa_nil))) (fun _ _ => rfl)) (pe_slice sl_str (pv 2) po_none (po_some pe_int))))) pss_nil)
  (pss_cons (ps_if (pt_cmpR op_eq (pv 3) pe_int (nomark _)) (pss_one (ps_ret (pe_slice sl_str (pe_op op_mul_str (pv 2) pe_int) po_none (po_some (pe_op op_add pe_int (pe_call G_law_some (hr.mono (by decide)) (by rfl) D_law_some.m D_law_some.F.kp D_law_some.b .nil pass0 (pa_cons (pv 0) (pa_cons pe_int (pa_cons pe_int pa_nil))))))))) pss_nil)
  (pss_cons (ps_if (pt_cmpR op_eq (pv 3) pe_int (nomark _)) (pss_one (ps_ret (pe_op n_addZ (pe_bm0 PySem.F.plainAttrs_str PySem.F.slot_str_upper PySem.F.type_str_upper n_upper (pe_slice sl_str (pv 2) po_none (po_some pe_int))) (pe_slice sl_str (pv 2) (po_some pe_int) po_none)))) pss_nil)
  (pss_cons (ps_set (i := 4) sc_law_bad_name.nd rfl (Or.inl rfl) (pe_call G_law_take (hr.mono (by decide)) (by rfl) D_law_take.m D_law_take.F.kp D_law_take.b .nil pass0 (pa_cons (pv 0) (pa_cons (pe_callB n_lenZ (by rfl) T.b_len (by decide +kernel) (pa_cons (pv 2) pa_nil)) pa_nil))))
  (pss_cons (ps_set (i := 5) sc_law_bad_name.nd rfl (Or.inl rfl) (pe_ix ix_str (pv 1) (pe_call G_law_take (hr.mono (by decide)) (by rfl) D_law_take.m D_law_take.F.kp D_law_take.b .nil pass0 (pa_cons (pv 0) (pa_cons (pe_callB n_lenZ (by rfl) T.b_len (by decide +kernel) (pa_cons (pv 1) pa_nil)) pa_nil))) (fun _ _ => rfl)))
  (pss_cons (ps_if (pt_cmpR op_eq (pv 3) pe_int (nomark _)) (pss_one (ps_ret (pe_op n_addZ (pe_op n_addZ (pe_slice sl_str (pv 2) po_none (po_some (pv 4))) (pv 5)) (pe_slice sl_str (pv 2) (po_some (pe_op op_add (pv 4) pe_int)) po_none)))) pss_nil)
  (pss_one (ps_ret (pe_op n_addZ (pe_op n_addZ (pe_slice sl_str (pv 2) po_none (po_some (pe_op op_add (pv 4) pe_int))) (pv 5)) (pe_slice sl_str (pv 2) (po_some (pe_op op_add (pv 4) pe_int)) po_none)))))))))))))), ?_⟩
    walk_at "my sts"
    refine ⟨s, rfl, hst, fun z H1 z0 z1 hst1 f1 => ?_⟩
    walk_at "my sts"
    refine ⟨s, _, rfl, hst1, by decide, fun n H2 n0 n1 hst2 f2 => ?_⟩
    have f2 := f1.trans f2
    walk_at "my sts"
    refine i_ite (fun _ => ?_) fun _ => ?_
    · walk_at "my sts"
      exact k _ _ (by decide) hst2 f2
    walk_at "my sts"
    refine i_ite (fun _ => ?_) fun _ => ?_
    · have ls : ("0123456789" : Str).length = 10 := by decide +kernel
      walk_at "my sts"
      refine ⟨s, _, rfl, hst2, by decide, fun n3 H3 c0 c1 hst3 f3 => ?_⟩
      obtain ⟨c, hc, _⟩ := at_str (z := "0123456789") (i := n3) c0 (by omega)
      refine i_ixS (by rw [ls]; decide) hc ?_
      have := len_one c
      walk_at "my abs"
      exact k _ _ (by omega) hst3 (f2.trans f3)
    walk_at "my sts"
    refine i_ite (fun _ => ?_) fun _ => ?_
    · walk_at "my sts"
      refine a_mul (by decide) (by omega) fun w hw => ?_
      have hw : w.length = 60 * z.length := hw
      walk_at "my sts"
      refine ⟨s, 0, 51, rfl, hst2, by decide, fun n3 H3 b0 b1 hst3 f3 => ?_⟩
      walk_at "my abs"
      exact k _ _ (by omega) hst3 (f2.trans f3)
    walk_at "my sts"
    refine i_ite (fun _ => ?_) fun _ => ?_
    · walk_at "my abs"
      exact k _ _ (by omega) hst2 f2
    have ls : (" !\"#$&'()*+,-./:;<=>?@ABCDEFGHIJKLMNOPQRSTUVWXYZ[\\]^_`{|}~" : Str).length = 58 := by decide +kernel
    walk_at "my sts"
    refine ⟨s, _, rfl, hst2, by omega, fun n3 H3 b0 b1 hst3 f3 => ?_⟩
    walk_at "my sts"
    refine ⟨s, _, rfl, hst3, by rw [ls]; decide, fun n4 H4 d0 d1 hst4 f4 => ?_⟩
    rw [ls] at d1
    obtain ⟨c, hc, _⟩ := at_str (z := " !\"#$&'()*+,-./:;<=>?@ABCDEFGHIJKLMNOPQRSTUVWXYZ[\\]^_`{|}~") (i := n4) d0 (by rw [ls]; omega)
    refine i_ixS (by rw [ls]; decide) hc ?_
    have := len_one c
    have f4 := f2.trans (f3.trans f4)
    walk_at "my sts"
    refine i_ite (fun _ => ?_) fun _ => ?_
    · walk_at "my abs"
      exact k _ _ (by omega) hst4 f4
    · walk_at "my abs"
      exact k _ _ (by omega) hst4 f4
end
end My

namespace My
open PySem PySem.Spec PyProof.Rows L2
local macro_rules | `(tactic| walk_at "my hyp") => `(tactic| first | assumption | exact upd_same | (rw [upd_ne (by assumption)]; assumption) | (rw [upd_ne (by assumption)]; exact upd_same) | (rw [upd_ne (by assumption), upd_ne (by assumption)]; assumption))
local macro_rules | `(tactic| walk_at "my c") => `(tactic| first | assumption | (show (0 : Int) < _; first | assumption | decide | omega) | exact .inr ⟨by decide, by decide⟩ | exact .inl ⟨by decide, by decide⟩ | exact .inl ⟨by omega, by omega⟩ | exact .inr ⟨by omega, by omega⟩ | exact ⟨by decide, by decide⟩ | exact ⟨by decide, by decide, by decide⟩)
local macro_rules | `(tactic| walk_at "my len") => `(tactic| first | omega | ((try simp only [len_app, len_one]); omega) | decide)
local macro_rules | `(tactic| walk_at "my ty") => `(tactic| first | exact .base (.int _) | exact .base (.bl _) | exact .base (.str _) | exact .base .non | exact .base (.lst (by walk_at "my hyp")) | exact .base (.tup (by walk_at "my hyp")))
local macro_rules | `(tactic| walk_at "my st") => `(tactic| first
  | (with_reducible refine i_seq ?_)
  | (with_reducible refine i_asg ?_)
  | (with_reducible refine i_gname ?_)
  | (with_reducible refine i_drop ?_)
  | (with_reducible refine i_ret ?_)
  | (with_reducible refine i_retN ?_)
  | (with_reducible refine i_if ?_)
  | (with_reducible refine i_next ?_)
  | (with_reducible refine i_break ?_)
  | (with_reducible refine i_cont ?_)
  | (with_reducible refine i_c ?_)
  | (with_reducible refine i_op ?_)
  | (with_reducible refine i_un ?_)
  | (with_reducible refine i_I0 ?_)
  | (with_reducible refine i_U ?_)
  | ((with_reducible refine' i_eq ?h ?_); (case h => exact rfl))
  | ((with_reducible refine' i_ne ?h ?_); (case h => exact rfl))
  | (with_reducible refine i_test ?_)
  | (with_reducible refine i_B ?_)
  | (with_reducible refine i_bl ?_)
  | (with_reducible refine i_and ?_)
  | (with_reducible refine i_or ?_)
  | (with_reducible refine i_not ?_)
  | (with_reducible refine i_andV ?_)
  | (with_reducible refine i_orV ?_)
  | (with_reducible refine i_notV ?_)
  | (with_reducible refine i_ifE ?_)
  | (with_reducible refine i_chain ?_)
  | (with_reducible refine i_chain3 ?_)
  | (with_reducible refine i_call ?_)
  | (with_reducible refine i_cons ?_)
  | (with_reducible refine i_nil ?_)
  | (with_reducible refine i_CB ?_)
  | (with_reducible refine i_lst ?_)
  | (with_reducible refine i_tup ?_)
  | (with_reducible refine i_gsub ?_)
  | (with_reducible refine i_sl ?_)
  | (with_reducible refine i_int ?_)
  | (with_reducible refine i_max ?_)
  | (with_reducible refine i_min ?_)
  | (with_reducible refine i_inG ?_)
  | (with_reducible refine i_isN_int ?_)
  | (with_reducible refine i_isN_str ?_)
  | (with_reducible refine i_isN_bl ?_)
  | (with_reducible refine i_isN_ref ?_)
  | (with_reducible refine i_isN_non ?_)
  | (with_reducible refine i_notN_int ?_)
  | (with_reducible refine i_notN_str ?_)
  | (with_reducible refine i_notN_bl ?_)
  | (with_reducible refine i_notN_ref ?_)
  | (with_reducible refine i_notN_non ?_)
  | (with_reducible refine i_BM0 ?_)
  | (with_reducible refine i_BM ?_)
  | (with_reducible refine i_noPart ?_)
  | (with_reducible refine i_part ?_)
  | (with_reducible refine i_exint ?_)
  | (with_reducible refine i_revL ?_)
  | (with_reducible refine i_yes ?_)
  | ((with_reducible refine' i_lenL ?h ?_); (case h => exact sqL (by walk_at "my hyp")))
  | ((with_reducible refine' i_lenT ?h ?_); (case h => exact sqT (by walk_at "my hyp")))
  | (with_reducible refine i_tyS ?_)
  | ((with_reducible refine' i_tyL ?h ?_); (case h => exact sqL (by walk_at "my hyp")))
  | ((with_reducible refine' i_lenVL ?h ?_); (case h => exact sqL (by walk_at "my hyp")))
  | ((with_reducible refine' i_lenVT ?h ?_); (case h => exact sqT (by walk_at "my hyp")))
  | ((with_reducible refine' i_lenVS ?h ?_); (case h => walk_at "my len"))
  | ((with_reducible refine' i_lenZ ?h ?_); (case h => walk_at "my len"))
  | ((with_reducible refine' i_addZ ?h ?_); (case h => walk_at "my len"))
  | ((with_reducible refine' i_up ?h ?_); (case h => walk_at "my len"))
  | ((with_reducible refine' i_slS ?h ?_); (case h => walk_at "my len"))
  | ((with_reducible refine' i_ixS ?h ?a ?_); (case h => exact Nat.le_trans (m := 100000) (by walk_at "my len") (by decide)); (case a => first | assumption | exact rfl))
  | (with_reducible refine iteT ?_)
  | (with_reducible refine iteF ?_)
  | (with_reducible refine i_nF ?_)
  | (with_reducible refine i_nT ?_)
  | ((with_reducible refine' i_isi1 (b := true) ?h ?a ?_); (case h => walk_at "my ty"); (case a => decide +kernel))
  | ((with_reducible refine' i_isi1 (b := false) ?h ?a ?_); (case h => walk_at "my ty"); (case a => decide +kernel))
  | ((with_reducible refine' i_isi2' true false true ?h ?t ?a ?b rfl ?_); (case h => walk_at "my hyp"); (case t => walk_at "my ty"); (case a => decide +kernel); (case b => decide +kernel))
  | ((with_reducible refine' i_isi2' false true true ?h ?t ?a ?b rfl ?_); (case h => walk_at "my hyp"); (case t => walk_at "my ty"); (case a => decide +kernel); (case b => decide +kernel))
  | ((with_reducible refine' i_isi2' false false false ?h ?t ?a ?b rfl ?_); (case h => walk_at "my hyp"); (case t => walk_at "my ty"); (case a => decide +kernel); (case b => decide +kernel))
  | (with_reducible refine i_forR ?_)
  | (with_reducible refine i_forL ?_)
  | (with_reducible refine i_lcR ?_)
  | (with_reducible refine i_lcL ?_)
  | (with_reducible refine i_lcS ?_)
  | ((with_reducible refine' i_var ?h ?_); (case h => exact rfl))
  | ((with_reducible refine' i_I ?h ?_); (case h => walk_at "my c"))
  | ((with_reducible refine' i_ixL ?h ?a ?_); (case h => exact sqL (by walk_at "my hyp")); (case a => exact rfl))
  | ((with_reducible refine' i_ixT ?h ?a ?_); (case h => exact sqT (by walk_at "my hyp")); (case a => exact rfl))
  | ((with_reducible refine' i_ixAL ?h ?a ?_); (case h => exact sqL (by walk_at "my hyp")); (case a => first | assumption | exact rfl))
  | ((with_reducible refine' i_ixAT ?h ?a ?_); (case h => exact sqT (by walk_at "my hyp")); (case a => first | assumption | exact rfl))
  | ((with_reducible refine' i_setL ?h ?a ?_); (case h => walk_at "my hyp"); (case a => exact rfl)))
local macro_rules | `(tactic| walk_at "my ab") => `(tactic| first
  | ((with_reducible refine' a_add ?h ?_); (case h => walk_at "my len"); intro w hw)
  | ((with_reducible refine' a_sl ?h ?_); (case h => walk_at "my len"); intro w hw)
  | ((with_reducible refine' a_up ?h ?_); (case h => walk_at "my len"); intro w hw)
  | walk_at "my st")
local macro_rules | `(tactic| walk_at "my abs") => `(tactic| repeat (walk_at "my ab"))
local macro_rules | `(tactic| walk_at "my sts") => `(tactic| repeat (walk_at "my st"))

section
variable {P : Program} {w : World} {K : PySem.W.Frag} {mg : Str → Option Value} {base : Heap}
def sWide : Str := " !\"#$&'()*+,-./0123456789:;<=>?@ABCDEFGHIJKLMNOPQRSTUVWXYZ[\\]^_`abcdefghijklmnopqrstuvwxyz{|}~\n"
def sPlain : Str := "abcdefghijklmnopqrstuvwxyz0123456789"
theorem lWide : sWide.length = 95 := by decide +kernel
theorem lPlain : sPlain.length = 36 := by decide +kernel
def sp_law_text (K : PySem.W.Frag) : Sp := fun vs H Q _ => ∃ (s : Addr), vs = [.ref s] ∧ StOk H s ∧ ∀ (z : Str) H', z.length ≤ 1000 → StOk H' s → Fr s H H' → Q (.str z) H'
theorem ok_law_text {f : Addr} {fd : FuncData}
    {f_law_take : Addr} {fd_law_take : FuncData} (D_law_take : Dn K mg "_law_take" s_law_take p_law_take f_law_take fd_law_take) (G_law_take : FnOk P w K mg base CX0 2 f_law_take fd_law_take p_law_take (sp_law_take K))
    {f_law_some : Addr} {fd_law_some : FuncData} (D_law_some : Dn K mg "_law_some" s_law_some p_law_some f_law_some fd_law_some) (G_law_some : FnOk P w K mg base CX0 3 f_law_some fd_law_some p_law_some (sp_law_some K))
    {f_law_name : Addr} {fd_law_name : FuncData} (D_law_name : Dn K mg "_law_name" s_law_name p_law_name f_law_name fd_law_name) (G_law_name : FnOk P w K mg base CX0 4 f_law_name fd_law_name p_law_name (sp_law_name K))
    {f_law_bad_name : Addr} {fd_law_bad_name : FuncData} (D_law_bad_name : Dn K mg "_law_bad_name" s_law_bad_name p_law_bad_name f_law_bad_name fd_law_bad_name) (G_law_bad_name : FnOk P w K mg base CX0 5 f_law_bad_name fd_law_bad_name p_law_bad_name (sp_law_bad_name K))
    {f_law_pick : Addr} {fd_law_pick : FuncData} (D_law_pick : Dn K mg "_law_pick" s_law_pick p_law_pick f_law_pick fd_law_pick) (G_law_pick : FnOk P w K mg base CX0 3 f_law_pick fd_law_pick p_law_pick (sp_law_pick K))
    (T : Txt K mg) (D : Dn K mg "_law_text" s_law_text p_law_text f fd) : FnOk P w K mg base CX0 6 f fd p_law_text (sp_law_text K) := by
  refine D.F.ok sc_law_text (fun vs H Q E h => ?_) (fun cdv A outer s' H vs Q E hr h => ?_)
  · obtain ⟨s, rfl, _⟩ := h
    rfl
  · obtain ⟨s, rfl, hst, k⟩ := h
    refine ⟨_, (pss_cons (ps_set (i := 1) sc_law_text.nd rfl (Or.inl rfl) pe_str)
  (pss_cons (ps_set (i := 2) sc_law_text.nd rfl (Or.inl rfl) pe_str)
  (pss_cons (ps_set (i := 3) sc_law_text.nd rfl (Or.inl rfl) (pe_call G_law_take (hr.mono (by decide)) (by rfl) D_law_take.m D_law_take.F.kp D_law_take.b .nil pass0 (pa_cons (pv 0) (pa_cons pe_int pa_nil))))
  (pss_cons (ps_if (pt_cmpR op_lt (pv 3) pe_int (nomark _)) (pss_one (ps_ret (pe_call G_law_name (hr.mono (by decide)) (by rfl) D_law_name.m D_law_name.F.kp D_law_name.b .nil pass0 (pa_cons (pv 0) pa_nil)))) pss_nil)
  (pss_cons (ps_if (pt_cmpR op_eq (pv 3) pe_int (nomark _)) (pss_one (ps_ret (pe_call G_law_bad_name (hr.mono (by decide)) (by rfl) D_law_bad_name.m D_law_bad_name.F.kp D_law_bad_name.b .nil pass0 (pa_cons (pv 0) pa_nil)))) pss_nil)
  (pss_cons (ps_if (pt_cmpR op_eq (pv 3) pe_int (nomark _)) (pss_cons (ps_set (i := 4) sc_law_text.nd rfl (Or.inl rfl) (pe_call G_law_name (hr.mono (by decide)) (by rfl) D_law_name.m D_law_name.F.kp D_law_name.b .nil pass0 (pa_cons (pv 0) pa_nil)))
  (pss_cons (ps_set (i := 5) sc_law_text.nd rfl (Or.inl rfl) (pe_call G_law_some (hr.mono (by decide)) (by rfl) D_law_some.m D_law_some.F.kp D_law_some.b .nil pass0 (pa_cons (pv 0) (pa_cons pe_int (pa_cons (pe_callB n_lenZ (by rfl) T.b_len (by decide +kernel) (pa_cons (pv 4) pa_nil)) pa_nil)))))
  (pss_one (ps_ret (pe_op n_addZ (pe_op n_addZ (pe_slice sl_str (pv 4) po_none (po_some (pv 5))) pe_str) (pe_slice sl_str (pv 4) (po_some (pv 5)) po_none)))))) pss_nil)
  (pss_cons (ps_set (i := 6) sc_law_text.nd rfl (Or.inl rfl) (pe_call G_law_some (hr.mono (by decide)) (by rfl) D_law_some.m D_law_some.F.kp D_law_some.b .nil pass0 (pa_cons (pv 0) (pa_cons pe_int (pa_cons pe_int pa_nil)))))
  (Evl.pss_cut (ps_if (pt_cmpR op_eq (pv 3) pe_int (nomark _)) (pss_one (ps_set (i := 6) sc_law_text.nd rfl (Or.inl rfl) (pe_op op_add pe_int (pe_call G_law_take (hr.mono (by decide)) (by rfl) D_law_take.m D_law_take.F.kp D_law_take.b .nil pass0 (pa_cons (pv 0) (pa_cons pe_int pa_nil)))))) pss_nil)
  (Evl.pss_cut (ps_if (pt_cmpR op_eq (pv 3) pe_int (nomark _)) (pss_one (ps_set (i := 6) sc_law_text.nd rfl (Or.inl rfl) (pe_call G_law_some (hr.mono (by decide)) (by rfl) D_law_some.m D_law_some.F.kp D_law_some.b .nil pass0 (pa_cons (pv 0) (pa_cons pe_int (pa_cons pe_int pa_nil)))))) pss_nil)
  (pss_cons (ps_set (i := 7) sc_law_text.nd rfl (Or.inl rfl) pe_str)
  (pss_cons (ps_for PassesOwn.never rfl (pi_range1 (by rfl) T.b_range (pa_cons (pv 6) pa_nil)) (pg_name (i := 8) sc_law_text.nd rfl (Or.inl rfl))
   (pss_one (ps_if (PW.pt (pw_and (pt_cmpR op_ne (pv 3) pe_int (nomark _)) (pw_and1 (pt_cmpR op_eq (pe_call G_law_take (hr.mono (by decide)) (by rfl) D_law_take.m D_law_take.F.kp D_law_take.b .nil pass0 (pa_cons (pv 0) (pa_cons pe_int pa_nil))) pe_int (nomark _))))) (pss_one (ps_set (i := 7) sc_law_text.nd rfl (Or.inl rfl) (pe_op n_addZ (pv 7) (pe_call G_law_pick (hr.mono (by decide)) (by rfl) D_law_pick.m D_law_pick.F.kp D_law_pick.b .nil pass0 (pa_cons (pv 0) (pa_cons (pv 1) pa_nil)))))) (pss_one (ps_set (i := 7) sc_law_text.nd rfl (Or.inl rfl) (pe_op n_addZ (pv 7) (pe_call G_law_pick (hr.mono (by decide)) (by rfl) D_law_pick.m D_law_pick.F.kp D_law_pick.b .nil pass0 (pa_cons (pv 0) (pa_cons (pv 2) pa_nil)))))))))
  (pss_one (ps_ret (pv 7)))))))))))))), ?_⟩
    walk_at "my sts"
    refine ⟨s, _, rfl, hst, by decide, fun pk H1 n0 n1 hst1 f1 => ?_⟩
    walk_at "my sts"
    refine i_ite (fun _ => ?_) fun _ => ?_
    · walk_at "my sts"
      refine ⟨s, rfl, hst1, fun z H2 z0 z1 hst2 f2 => ?_⟩
      exact k _ _ (by omega) hst2 (f1.trans f2)
    walk_at "my sts"
    refine i_ite (fun _ => ?_) fun _ => ?_
    · walk_at "my sts"
      refine ⟨s, rfl, hst1, fun z H2 z0 hst2 f2 => ?_⟩
      exact k _ _ (by omega) hst2 (f1.trans f2)
    walk_at "my sts"
    refine i_ite (fun _ => ?_) fun _ => ?_
    · walk_at "my sts"
      refine ⟨s, rfl, hst1, fun z H2 z0 z1 hst2 f2 => ?_⟩
      walk_at "my sts"
      refine ⟨s, 0, _, rfl, hst2, by omega, fun n3 H3 b0 b1 hst3 f3 => ?_⟩
      have ln : ("\n" : Str).length = 1 := by decide +kernel
      walk_at "my abs"
      exact k _ _ (by omega) hst3 (f1.trans (f2.trans f3))
    walk_at "my sts"
    refine ⟨s, 0, 10, rfl, hst1, by decide, fun n3 H3 b0 b1 hst3 f3 => ?_⟩
    walk_at "my sts"
    refine i_cut (fun σ' H' => ∃ n : Int, σ' = [some (.ref s), some (.str sWide), some (.str sPlain), some (.int pk), none, none, some (.int n), none, none] ∧ 0 ≤ n ∧ n ≤ 60 ∧ StOk H' s ∧ Fr s H H') ?_ ?_
    · walk_at "my sts"
      refine i_ite (fun _ => ?_) fun _ => ?_
      · walk_at "my sts"
        refine ⟨s, _, rfl, hst3, by decide, fun n4 H4 c0 c1 hst4 f4 => ?_⟩
        walk_at "my sts"
        exact ⟨_, rfl, by omega, by omega, hst4, f1.trans (f3.trans f4)⟩
      · walk_at "my sts"
        exact ⟨_, rfl, by omega, by omega, hst3, f1.trans f3⟩
    rintro σ4 H4 ⟨n4, rfl, c0, c1, hst4, f4⟩
    refine i_cut (fun σ' H' => ∃ n : Int, σ' = [some (.ref s), some (.str sWide), some (.str sPlain), some (.int pk), none, none, some (.int n), none, none] ∧ 0 ≤ n ∧ n ≤ 60 ∧ StOk H' s ∧ Fr s H H') ?_ ?_
    · walk_at "my sts"
      refine i_ite (fun _ => ?_) fun _ => ?_
      · walk_at "my sts"
        refine ⟨s, 0, 60, rfl, hst4, by decide, fun n5 H5 d0 d1 hst5 f5 => ?_⟩
        walk_at "my sts"
        exact ⟨_, rfl, by omega, by omega, hst5, f4.trans f5⟩
      · walk_at "my sts"
        exact ⟨_, rfl, by omega, by omega, hst4, f4⟩
    rintro σ5 H5 ⟨n5, rfl, d0, d1, hst5, f5⟩
    walk_at "my sts"
    refine fr1 (by omega) (by omega) (fun i σ' H' => ∃ (z : Str) (v : Option V), σ' = [some (.ref s), some (.str sWide), some (.str sPlain), some (.int pk), none, none, some (.int n5), some (.str z), v] ∧ z.length = i ∧ StOk H' s ∧ Fr s H H') ⟨_, none, rfl, rfl, hst5, f5⟩ ?_ ?_
    · rintro i σ' H' hi ⟨z, v, rfl, hz, hst6, f6⟩
      have pick : ∀ (x : Str) (H7 : Hp), 0 < x.length → x.length ≤ 1000 → StOk H7 s → Fr s H H7 → ∀ R : VK, (∀ c H8, StOk H8 s → Fr s H H8 → R (.str ⟨#[c]⟩) H8) → sp_law_pick K [.ref s, .str x] H7 R E0 := fun x H7 x0 x1 h7 f7 R g =>
        ⟨s, _, rfl, h7, .inr ⟨x, rfl, x0, x1, fun c H8 _ h8 f8 => g c H8 h8 (f7.trans f8)⟩⟩
      have wide : ∀ (H7 : Hp), StOk H7 s → Fr s H H7 → ∀ R : VK, (∀ c H8, StOk H8 s → Fr s H H8 → R (.str ⟨#[c]⟩) H8) → sp_law_pick K [.ref s, .str sWide] H7 R E0 := fun H7 => pick sWide H7 (by rw [lWide]; decide) (by rw [lWide]; decide)
      have plain : ∀ (H7 : Hp), StOk H7 s → Fr s H H7 → ∀ R : VK, (∀ c H8, StOk H8 s → Fr s H H8 → R (.str ⟨#[c]⟩) H8) → sp_law_pick K [.ref s, .str sPlain] H7 R E0 := fun H7 => pick sPlain H7 (by rw [lPlain]; decide) (by rw [lPlain]; decide)
      walk_at "my sts"
      refine i_ite (fun _ => ?_) fun _ => ?_
      · walk_at "my sts"
        refine ⟨s, _, rfl, hst6, by decide, fun n7 H7 e0 e1 hst7 f7 => ?_⟩
        walk_at "my sts"
        refine i_ite (fun _ => ?_) fun _ => ?_
        · walk_at "my sts"
          refine wide _ hst7 (f6.trans f7) _ fun c H8 hst8 f8 => ?_
          have := len_one c
          walk_at "my abs"
          exact ⟨_, _, rfl, by omega, hst8, f8⟩
        · walk_at "my sts"
          refine plain _ hst7 (f6.trans f7) _ fun c H8 hst8 f8 => ?_
          have := len_one c
          walk_at "my abs"
          exact ⟨_, _, rfl, by omega, hst8, f8⟩
      · walk_at "my sts"
        refine plain _ hst6 f6 _ fun c H8 hst8 f8 => ?_
        have := len_one c
        walk_at "my abs"
        exact ⟨_, _, rfl, by omega, hst8, f8⟩
    · rintro σ' H' ⟨z, v, rfl, hz, hst6, f6⟩
      walk_at "my sts"
      exact k z H' (by omega) hst6 f6
def sp_law_question (K : PySem.W.Frag) : Sp := fun vs H Q _ => ∃ (s : Addr), vs = [.ref s] ∧ StOk H s ∧ ∀ (p : Addr) (a b c : Int) H', H p = none → H' p = some (.tup [.int a, .int b, .int c]) → StOk H' s → Fr s H H' → Q (.ref p) H'
theorem ok_law_question {f : Addr} {fd : FuncData}
    {f_law_number : Addr} {fd_law_number : FuncData} (D_law_number : Dn K mg "_law_number" s_law_number p_law_number f_law_number fd_law_number) (G_law_number : FnOk P w K mg base CX0 3 f_law_number fd_law_number p_law_number (sp_law_number K))
    {f_law_take : Addr} {fd_law_take : FuncData} (D_law_take : Dn K mg "_law_take" s_law_take p_law_take f_law_take fd_law_take) (G_law_take : FnOk P w K mg base CX0 2 f_law_take fd_law_take p_law_take (sp_law_take K))
    {f_law_cut : Addr} {fd_law_cut : FuncData} (D_law_cut : Dn K mg "_law_cut" s_law_cut p_law_cut f_law_cut fd_law_cut) (G_law_cut : FnOk P w K mg base CX0 1 f_law_cut fd_law_cut p_law_cut (sp_law_cut K))
    {f_law_pick : Addr} {fd_law_pick : FuncData} (D_law_pick : Dn K mg "_law_pick" s_law_pick p_law_pick f_law_pick fd_law_pick) (G_law_pick : FnOk P w K mg base CX0 3 f_law_pick fd_law_pick p_law_pick (sp_law_pick K))
    (T : Txt K mg) (D : Dn K mg "_law_question" s_law_question p_law_question f fd) : FnOk P w K mg base CX0 4 f fd p_law_question (sp_law_question K) := by
  refine D.F.ok sc_law_question (fun vs H Q E h => ?_) (fun cdv A outer s' H vs Q E hr h => ?_)
  · obtain ⟨s, rfl, _⟩ := h
    rfl
  · obtain ⟨s, rfl, hst, k⟩ := h
    refine ⟨_, (pss_cons (ps_set (i := 1) sc_law_question.nd rfl (Or.inl rfl) (pe_call G_law_number (hr.mono (by decide)) (by rfl) D_law_number.m D_law_number.F.kp D_law_number.b .nil pass0 (pa_cons (pv 0) pa_nil)))
  (pss_cons (ps_set (i := 2) sc_law_question.nd rfl (Or.inl rfl) (pe_call G_law_number (hr.mono (by decide)) (by rfl) D_law_number.m D_law_number.F.kp D_law_number.b .nil pass0 (pa_cons (pv 0) pa_nil)))
  (pss_cons (ps_set (i := 3) sc_law_question.nd rfl (Or.inl rfl) (pe_call G_law_take (hr.mono (by decide)) (by rfl) D_law_take.m D_law_take.F.kp D_law_take.b .nil pass0 (pa_cons (pv 0) (pa_cons pe_int pa_nil))))
  (Evl.pss_cut (ps_if (pt_cmpR op_lt (pv 3) pe_int (nomark _)) (pss_one (ps_set (i := 2) sc_law_question.nd rfl (Or.inl rfl) (pe_call G_law_cut (hr.mono (by decide)) (by rfl) D_law_cut.m D_law_cut.F.kp D_law_cut.b .nil pass0 (pa_cons (pe_op op_sub (pe_op op_add (pv 1) (pe_call G_law_take (hr.mono (by decide)) (by rfl) D_law_take.m D_law_take.F.kp D_law_take.b .nil pass0 (pa_cons (pv 0) (pa_cons pe_int pa_nil)))) pe_int) pa_nil)))) pss_nil)
  (Evl.pss_cut (ps_if (pt_cmpR op_eq (pv 3) pe_int (nomark _)) (pss_one (ps_set (i := 1) sc_law_question.nd rfl (Or.inl rfl) (pe_op op_sub (pe_call G_law_take (hr.mono (by decide)) (by rfl) D_law_take.m D_law_take.F.kp D_law_take.b .nil pass0 (pa_cons (pv 0) (pa_cons pe_int pa_nil))) pe_int))) pss_nil)
  (pss_cons (ps_set (i := 4) sc_law_question.nd rfl (Or.inl rfl) (pe_lst (pa_cons (pe_op op_sub (pv 1) pe_int) (pa_cons (pv 1) (pa_cons (pe_op op_add (pv 1) pe_int) (pa_cons (pe_op op_sub (pv 2) pe_int) (pa_cons (pv 2) (pa_cons (pe_op op_add (pv 2) pe_int) (pa_cons pe_int (pa_cons pe_int (pa_cons (pe_call G_law_number (hr.mono (by decide)) (by rfl) D_law_number.m D_law_number.F.kp D_law_number.b .nil pass0 (pa_cons (pv 0) pa_nil)) (pa_cons (pe_op op_fdivW (pe_op op_add (pv 1) (pv 2)) pe_int) pa_nil))))))))))))
  (pss_cons (ps_set (i := 5) sc_law_question.nd rfl (Or.inl rfl) (pe_call G_law_cut (hr.mono (by decide)) (by rfl) D_law_cut.m D_law_cut.F.kp D_law_cut.b .nil pass0 (pa_cons (pe_call G_law_pick (hr.mono (by decide)) (by rfl) D_law_pick.m D_law_pick.F.kp D_law_pick.b .nil pass0 (pa_cons (pv 0) (pa_cons (pv 4) pa_nil))) pa_nil)))
  (Evl.pss_cut (ps_if (pt_cmpR op_eq (pe_call G_law_take (hr.mono (by decide)) (by rfl) D_law_take.m D_law_take.F.kp D_law_take.b .nil pass0 (pa_cons (pv 0) (pa_cons pe_int pa_nil))) pe_int (nomark _)) (pss_one (ps_set (i := 5) sc_law_question.nd rfl (Or.inl rfl) (pe_call G_law_take (hr.mono (by decide)) (by rfl) D_law_take.m D_law_take.F.kp D_law_take.b .nil pass0 (pa_cons (pv 0) (pa_cons pe_int pa_nil))))) pss_nil)
  (pss_one (ps_ret (pe_tup (pa_cons (pv 5) (pa_cons (pv 1) (pa_cons (pv 2) pa_nil)))))))))))))), ?_⟩
    walk_at "my sts"
    refine ⟨s, rfl, hst, fun lo H1 _ _ hst1 f1 => ?_⟩
    walk_at "my sts"
    refine ⟨s, rfl, hst1, fun hi H2 _ _ hst2 f2 => ?_⟩
    walk_at "my sts"
    refine ⟨s, _, rfl, hst2, by decide, fun pk H3 _ _ hst3 f3 => ?_⟩
    walk_at "my sts"
    have f3 := f1.trans (f2.trans f3)
    refine i_cut (fun σ' H' => ∃ hi : Int, σ' = [some (.ref s), some (.int lo), some (.int hi), some (.int pk), none, none] ∧ StOk H' s ∧ Fr s H H') ?_ ?_
    · walk_at "my sts"
      refine i_ite (fun _ => ?_) fun _ => ?_
      · walk_at "my sts"
        refine ⟨s, _, rfl, hst3, by decide, fun n4 H4 c0 c1 hst4 f4 => ?_⟩
        walk_at "my sts"
        refine ⟨_, rfl, fun m H5 _ s5 => ?_⟩
        walk_at "my sts"
        exact ⟨_, rfl, hst4.same s5, f3.trans (f4.trans (Fr.same s5))⟩
      · walk_at "my sts"
        exact ⟨_, rfl, hst3, f3⟩
    rintro σ4 H4 ⟨hi, rfl, hst4, f4⟩
    refine i_cut (fun σ' H' => ∃ lo : Int, σ' = [some (.ref s), some (.int lo), some (.int hi), some (.int pk), none, none] ∧ StOk H' s ∧ Fr s H H') ?_ ?_
    · walk_at "my sts"
      refine i_ite (fun _ => ?_) fun _ => ?_
      · walk_at "my sts"
        refine ⟨s, _, rfl, hst4, by decide, fun n5 H5 c0 c1 hst5 f5 => ?_⟩
        walk_at "my sts"
        exact ⟨_, rfl, hst5, f4.trans f5⟩
      · walk_at "my sts"
        exact ⟨_, rfl, hst4, f4⟩
    rintro σ5 H5 ⟨lo, rfl, hst5, f5⟩
    walk_at "my sts"
    refine ⟨s, rfl, hst5, fun nn H6 _ _ hst6 f6 => ?_⟩
    walk_at "my sts"
    refine lst_p (fun ys => ys.length = 10 ∧ ∀ v ∈ ys, ∃ z, v = V.int z) ⟨rfl, ?_⟩ (show 10 ≤ 100000 by decide) fun p ys H7 hp s7 h7 r7 => ?_
    · intro v hv
      simp only [List.mem_cons, List.not_mem_nil, or_false] at hv
      rcases hv with rfl | rfl | rfl | rfl | rfl | rfl | rfl | rfl | rfl | rfl <;> exact ⟨_, rfl⟩
    obtain ⟨l7, r7⟩ := r7
    have np : p ≠ s := hst6.ne hp
    walk_at "my sts"
    refine ⟨s, _, rfl, hst6.same s7, .inl ⟨p, ys, rfl, h7, np, by omega, by omega, fun v H8 hv hst8 f8 => ?_⟩⟩
    obtain ⟨z, rfl⟩ := r7 v hv
    walk_at "my sts"
    refine ⟨_, rfl, fun m H9 _ s9 => ?_⟩
    have hst9 := hst8.same s9
    have f9 := f5.trans (f6.trans ((Fr.same s7).trans (f8.trans (Fr.same s9))))
    walk_at "my sts"
    refine i_cut (fun σ' H' => ∃ m : Int, σ' = [some (.ref s), some (.int lo), some (.int hi), some (.int pk), some (.ref p), some (.int m)] ∧ StOk H' s ∧ Fr s H H') ?_ ?_
    · walk_at "my sts"
      refine ⟨s, _, rfl, hst9, by decide, fun n5 HA c0 c1 hstA fA => ?_⟩
      walk_at "my sts"
      refine i_ite (fun _ => ?_) fun _ => ?_
      · walk_at "my sts"
        refine ⟨s, _, rfl, hstA, by decide, fun n5 HB c0 c1 hstB fB => ?_⟩
        walk_at "my sts"
        exact ⟨_, rfl, hstB, f9.trans (fA.trans fB)⟩
      · walk_at "my sts"
        exact ⟨_, rfl, hstA, f9.trans fA⟩
    rintro σA HA ⟨m, rfl, hstA, fA⟩
    walk_at "my sts"
    refine tup_end (show 3 ≤ 100000 by decide) fun t HB ht sB hB => ?_
    exact k t m lo hi HB (fA.free ht (hstA.ne ht)) hB (hstA.same sB) (fA.trans (Fr.same sB))
end
end My

namespace My
open PySem PySem.Spec PyProof.Rows L2
local macro_rules | `(tactic| walk_at "my hyp") => `(tactic| first | assumption | exact upd_same | (rw [upd_ne (by assumption)]; assumption) | (rw [upd_ne (by assumption)]; exact upd_same) | (rw [upd_ne (by assumption), upd_ne (by assumption)]; assumption))
local macro_rules | `(tactic| walk_at "my c") => `(tactic| first | assumption | (show (0 : Int) < _; first | assumption | decide | omega) | exact .inr ⟨by decide, by decide⟩ | exact .inl ⟨by decide, by decide⟩ | exact .inl ⟨by omega, by omega⟩ | exact .inr ⟨by omega, by omega⟩ | exact ⟨by decide, by decide⟩ | exact ⟨by decide, by decide, by decide⟩)
local macro_rules | `(tactic| walk_at "my len") => `(tactic| first | omega | ((try simp only [len_app, len_one]); omega) | decide)
local macro_rules | `(tactic| walk_at "my ty") => `(tactic| first | exact .base (.int _) | exact .base (.bl _) | exact .base (.str _) | exact .base .non | exact .base (.lst (by walk_at "my hyp")) | exact .base (.tup (by walk_at "my hyp")))
local macro_rules | `(tactic| walk_at "my st") => `(tactic| first
  | (with_reducible refine i_seq ?_)
  | (with_reducible refine i_asg ?_)
  | (with_reducible refine i_gname ?_)
  | (with_reducible refine i_drop ?_)
  | (with_reducible refine i_ret ?_)
  | (with_reducible refine i_retN ?_)
  | (with_reducible refine i_if ?_)
  | (with_reducible refine i_next ?_)
  | (with_reducible refine i_break ?_)
  | (with_reducible refine i_cont ?_)
  | (with_reducible refine i_c ?_)
  | (with_reducible refine i_op ?_)
  | (with_reducible refine i_un ?_)
  | (with_reducible refine i_I0 ?_)
  | (with_reducible refine i_U ?_)
  | ((with_reducible refine' i_eq ?h ?_); (case h => exact rfl))
  | ((with_reducible refine' i_ne ?h ?_); (case h => exact rfl))
  | (with_reducible refine i_test ?_)
  | (with_reducible refine i_B ?_)
  | (with_reducible refine i_bl ?_)
  | (with_reducible refine i_and ?_)
  | (with_reducible refine i_or ?_)
  | (with_reducible refine i_not ?_)
  | (with_reducible refine i_andV ?_)
  | (with_reducible refine i_orV ?_)
  | (with_reducible refine i_notV ?_)
  | (with_reducible refine i_ifE ?_)
  | (with_reducible refine i_chain ?_)
  | (with_reducible refine i_chain3 ?_)
  | (with_reducible refine i_call ?_)
  | (with_reducible refine i_cons ?_)
  | (with_reducible refine i_nil ?_)
  | (with_reducible refine i_CB ?_)
  | (with_reducible refine i_lst ?_)
  | (with_reducible refine i_tup ?_)
  | (with_reducible refine i_gsub ?_)
  | (with_reducible refine i_sl ?_)
  | (with_reducible refine i_int ?_)
  | (with_reducible refine i_max ?_)
  | (with_reducible refine i_min ?_)
  | (with_reducible refine i_inG ?_)
  | (with_reducible refine i_isN_int ?_)
  | (with_reducible refine i_isN_str ?_)
  | (with_reducible refine i_isN_bl ?_)
  | (with_reducible refine i_isN_ref ?_)
  | (with_reducible refine i_isN_non ?_)
  | (with_reducible refine i_notN_int ?_)
  | (with_reducible refine i_notN_str ?_)
  | (with_reducible refine i_notN_bl ?_)
  | (with_reducible refine i_notN_ref ?_)
  | (with_reducible refine i_notN_non ?_)
  | (with_reducible refine i_BM0 ?_)
  | (with_reducible refine i_BM ?_)
  | (with_reducible refine i_noPart ?_)
  | (with_reducible refine i_part ?_)
  | (with_reducible refine i_exint ?_)
  | (with_reducible refine i_revL ?_)
  | (with_reducible refine i_yes ?_)
  | ((with_reducible refine' i_lenL ?h ?_); (case h => exact sqL (by walk_at "my hyp")))
  | ((with_reducible refine' i_lenT ?h ?_); (case h => exact sqT (by walk_at "my hyp")))
  | (with_reducible refine i_tyS ?_)
  | ((with_reducible refine' i_tyL ?h ?_); (case h => exact sqL (by walk_at "my hyp")))
  | ((with_reducible refine' i_lenVL ?h ?_); (case h => exact sqL (by walk_at "my hyp")))
  | ((with_reducible refine' i_lenVT ?h ?_); (case h => exact sqT (by walk_at "my hyp")))
  | ((with_reducible refine' i_lenVS ?h ?_); (case h => walk_at "my len"))
  | ((with_reducible refine' i_lenZ ?h ?_); (case h => walk_at "my len"))
  | ((with_reducible refine' i_addZ ?h ?_); (case h => walk_at "my len"))
  | ((with_reducible refine' i_up ?h ?_); (case h => walk_at "my len"))
  | ((with_reducible refine' i_slS ?h ?_); (case h => walk_at "my len"))
  | ((with_reducible refine' i_ixS ?h ?a ?_); (case h => exact Nat.le_trans (m := 100000) (by walk_at "my len") (by decide)); (case a => first | assumption | exact rfl))
  | (with_reducible refine iteT ?_)
  | (with_reducible refine iteF ?_)
  | (with_reducible refine i_nF ?_)
  | (with_reducible refine i_nT ?_)
  | ((with_reducible refine' i_isi1 (b := true) ?h ?a ?_); (case h => walk_at "my ty"); (case a => decide +kernel))
  | ((with_reducible refine' i_isi1 (b := false) ?h ?a ?_); (case h => walk_at "my ty"); (case a => decide +kernel))
  | ((with_reducible refine' i_isi2' true false true ?h ?t ?a ?b rfl ?_); (case h => walk_at "my hyp"); (case t => walk_at "my ty"); (case a => decide +kernel); (case b => decide +kernel))
  | ((with_reducible refine' i_isi2' false true true ?h ?t ?a ?b rfl ?_); (case h => walk_at "my hyp"); (case t => walk_at "my ty"); (case a => decide +kernel); (case b => decide +kernel))
  | ((with_reducible refine' i_isi2' false false false ?h ?t ?a ?b rfl ?_); (case h => walk_at "my hyp"); (case t => walk_at "my ty"); (case a => decide +kernel); (case b => decide +kernel))
  | (with_reducible refine i_forR ?_)
  | (with_reducible refine i_forL ?_)
  | (with_reducible refine i_lcR ?_)
  | (with_reducible refine i_lcL ?_)
  | (with_reducible refine i_lcS ?_)
  | ((with_reducible refine' i_var ?h ?_); (case h => exact rfl))
  | ((with_reducible refine' i_I ?h ?_); (case h => walk_at "my c"))
  | ((with_reducible refine' i_ixL ?h ?a ?_); (case h => exact sqL (by walk_at "my hyp")); (case a => exact rfl))
  | ((with_reducible refine' i_ixT ?h ?a ?_); (case h => exact sqT (by walk_at "my hyp")); (case a => exact rfl))
  | ((with_reducible refine' i_ixAL ?h ?a ?_); (case h => exact sqL (by walk_at "my hyp")); (case a => first | assumption | exact rfl))
  | ((with_reducible refine' i_ixAT ?h ?a ?_); (case h => exact sqT (by walk_at "my hyp")); (case a => first | assumption | exact rfl))
  | ((with_reducible refine' i_setL ?h ?a ?_); (case h => walk_at "my hyp"); (case a => exact rfl)))
local macro_rules | `(tactic| walk_at "my ab") => `(tactic| first
  | ((with_reducible refine' a_add ?h ?_); (case h => walk_at "my len"); intro w hw)
  | ((with_reducible refine' a_sl ?h ?_); (case h => walk_at "my len"); intro w hw)
  | ((with_reducible refine' a_up ?h ?_); (case h => walk_at "my len"); intro w hw)
  | walk_at "my st")
local macro_rules | `(tactic| walk_at "my abs") => `(tactic| repeat (walk_at "my ab"))
local macro_rules | `(tactic| walk_at "my sts") => `(tactic| repeat (walk_at "my st"))

/-- a list of triples of ints -/
def Trip (H : Hp) (xs : List V) : Prop := ∀ v ∈ xs, ∃ (p : Addr) (a b c : Int), v = .ref p ∧ H p = some (.tup [.int a, .int b, .int c])
theorem Trip.keep {H H' : Hp} {xs : List V} (t : Trip H xs) (k : ∀ p o, H p = some o → H' p = some o) : Trip H' xs := fun v hv => by
  obtain ⟨p, a, b, c, e, h⟩ := t v hv
  exact ⟨p, a, b, c, e, k _ _ h⟩
theorem Trip.rev {H : Hp} {xs : List V} (t : Trip H xs) : Trip H xs.reverse := fun v hv => t v (List.mem_reverse.mp hv)
theorem sm_ints {H : Hp} {a b : Addr} (ns : List Int) (ha : H a = some (.lst (ns.map V.int))) (hb : H b = some (.lst (ns.map V.int))) (hz : ns.length ≤ 100000) : Sm H 1 (.ref a) (.ref b) := by
  refine .lst ha hb rfl (by rw [List.length_map]; exact hz) fun i x y ex ey => ?_
  rw [ex] at ey
  cases ey
  rw [List.getElem?_map] at ex
  obtain ⟨z, _, rfl⟩ := Option.map_eq_some_iff.mp ex
  exact .int 0 z
section
variable {P : Program} {w : World} {K : PySem.W.Frag} {mg : Str → Option Value} {base : Heap}
def sp_law_texts_fine (K : PySem.W.Frag) : Sp := fun vs H Q _ => ∃ (p : Addr) (xs : List V), vs = [.ref p] ∧ H p = some (.lst xs) ∧ Short 1000 xs ∧ ∀ H', Same H H' → Q (.bl true) H'
theorem ok_law_texts_fine {f : Addr} {fd : FuncData}
    {f_law_same : Addr} {fd_law_same : FuncData} (D_law_same : Dn K mg "_law_same" s_law_same p_law_same f_law_same fd_law_same) (G_law_same : FnOk P w K mg base CX0 2 f_law_same fd_law_same p_law_same (sp_law_same K))
    {f_is_name : Addr} {fd_is_name : FuncData} (D_is_name : Dn K mg "is_name" s_is_name p_is_name f_is_name fd_is_name) (G_is_name : FnOk P w K mg base CX0 1 f_is_name fd_is_name p_is_name (sp_is_name K))
    {f_law_form : Addr} {fd_law_form : FuncData} (D_law_form : Dn K mg "_law_form" s_law_form p_law_form f_law_form fd_law_form) (G_law_form : FnOk P w K mg base CX0 1 f_law_form fd_law_form p_law_form (sp_law_form K))
    (T : Txt K mg) (D : Dn K mg "_law_texts_fine" s_law_texts_fine p_law_texts_fine f fd) : FnOk P w K mg base CX0 3 f fd p_law_texts_fine (sp_law_texts_fine K) := by
  refine D.F.ok sc_law_texts_fine (fun vs H Q E h => ?_) (fun cdv A outer s' H vs Q E hr h => ?_)
  · obtain ⟨p, xs, rfl, _⟩ := h
    rfl
  · obtain ⟨p, xs, rfl, hp, sh, k⟩ := h
    refine ⟨_, (pss_cons (ps_for PassesOwn.never rfl (pi_list (pv 0)) (pg_name (i := 1) sc_law_texts_fine.nd rfl (Or.inl rfl))
   (pss_one (ps_if (pt_not (pt_val (pe_call G_law_same (hr.mono (by decide)) (by rfl) D_law_same.m D_law_same.F.kp D_law_same.b .nil pass0 (pa_cons (pe_call G_is_name (hr.mono (by decide)) (by rfl) D_is_name.m D_is_name.F.kp D_is_name.b .nil pass0 (pa_cons (pv 1) pa_nil)) (pa_cons (pe_call G_law_form (hr.mono (by decide)) (by rfl) D_law_form.m D_law_form.F.kp D_law_form.b .nil pass0 (pa_cons (pv 1) pa_nil)) pa_nil))))) (pss_one (ps_ret pe_bl)) pss_nil)))
  (pss_one (ps_ret pe_bl))), ?_⟩
    walk_at "my sts"
    refine fl (sqL hp) (fun i σ' H' => Same H H' ∧ ∃ v, σ' = [some (.ref p), v]) ⟨Same.refl _, none, rfl⟩ (fun i σ' H' _ h => sqL (h.1 _ _ hp)) ?_ ?_
    · rintro i x σ' H' hx ⟨s1, v, rfl⟩
      obtain ⟨z, rfl, hz⟩ := sh x (List.mem_of_getElem? hx)
      walk_at "my sts"
      refine ⟨z, rfl, hz, fun H2 s2 => ?_⟩
      walk_at "my sts"
      refine ⟨z, rfl, hz, fun H3 s3 => ?_⟩
      walk_at "my sts"
      refine ⟨_, _, rfl, .bl _ _, fun H4 s4 => ?_⟩
      walk_at "my sts"
      exact ⟨s1.trans (s2.trans (s3.trans s4)), _, rfl⟩
    · rintro σ' H' ⟨s1, v, rfl⟩
      walk_at "my sts"
      exact k _ s1
def sp_law_numbers_fine (K : PySem.W.Frag) : Sp := fun vs H Q _ => ∃ (p : Addr) (xs : List V), vs = [.ref p] ∧ H p = some (.lst xs) ∧ Trip H xs ∧ ∀ H', Same H H' → Q (.bl true) H'
theorem ok_law_numbers_fine {f : Addr} {fd : FuncData}
    {f_law_same : Addr} {fd_law_same : FuncData} (D_law_same : Dn K mg "_law_same" s_law_same p_law_same f_law_same fd_law_same) (G_law_same : FnOk P w K mg base CX0 2 f_law_same fd_law_same p_law_same (sp_law_same K))
    {f_is_number : Addr} {fd_is_number : FuncData} (D_is_number : Dn K mg "is_number" s_is_number p_is_number f_is_number fd_is_number) (G_is_number : FnOk P w K mg base CX0 1 f_is_number fd_is_number p_is_number (sp_is_number K))
    (T : Txt K mg) (D : Dn K mg "_law_numbers_fine" s_law_numbers_fine p_law_numbers_fine f fd) : FnOk P w K mg base CX0 3 f fd p_law_numbers_fine (sp_law_numbers_fine K) := by
  refine D.F.ok sc_law_numbers_fine (fun vs H Q E h => ?_) (fun cdv A outer s' H vs Q E hr h => ?_)
  · obtain ⟨p, xs, rfl, _⟩ := h
    rfl
  · obtain ⟨p, xs, rfl, hp, tr, k⟩ := h
    refine ⟨_, (pss_cons (ps_for PassesOwn.never rfl (pi_list (pv 0)) (pg_tup rfl (pgs_cons (pg_name (i := 1) sc_law_numbers_fine.nd rfl (Or.inl rfl)) (pgs_cons (pg_name (i := 2) sc_law_numbers_fine.nd rfl (Or.inl rfl)) (pgs_cons (pg_name (i := 3) sc_law_numbers_fine.nd rfl (Or.inl rfl)) pgs_nil))))
   (pss_cons (ps_if (pt_not (pt_val (pe_call G_law_same (hr.mono (by decide)) (by rfl) D_law_same.m D_law_same.F.kp D_law_same.b .nil pass0 (pa_cons (pe_call G_is_number (hr.mono (by decide)) (by rfl) D_is_number.m D_is_number.F.kp D_is_number.b .nil pass0 (pa_cons (pv 1) (pa_cons (pv 2) (pa_cons (pv 3) pa_nil)))) (pa_cons (pe_and (pe_cmpR op_le (pv 2) (pv 1) (nomark _)) (pe_one (pe_cmpR op_le (pv 1) (pv 3) (nomark _)))) pa_nil))))) (pss_one (ps_ret pe_bl)) pss_nil)
  (pss_one (ps_if (PW.pt (pw_or (pt_cmpR op_eq (pv 1) pe_int (nomark _)) (pw_or1 (pt_cmpR op_eq (pv 1) pe_int (nomark _))))) (pss_cons (ps_if (pt_not (pt_val (pe_call G_law_same (hr.mono (by decide)) (by rfl) D_law_same.m D_law_same.F.kp D_law_same.b .nil pass0 (pa_cons (pe_call G_is_number (hr.mono (by decide)) (by rfl) D_is_number.m D_is_number.F.kp D_is_number.b .nil pass0 (pa_cons (pe_cmpR op_eq (pv 1) pe_int (nomark _)) (pa_cons (pv 2) (pa_cons (pv 3) pa_nil)))) (pa_cons pe_bl pa_nil))))) (pss_one (ps_ret pe_bl)) pss_nil)
  (pss_one (ps_if (pt_not (pt_val (pe_call G_law_same (hr.mono (by decide)) (by rfl) D_law_same.m D_law_same.F.kp D_law_same.b .nil pass0 (pa_cons (pe_call G_is_number (hr.mono (by decide)) (by rfl) D_is_number.m D_is_number.F.kp D_is_number.b .nil pass0 (pa_cons (pv 1) (pa_cons (pv 2) (pa_cons (pv 3) pa_nil)))) (pa_cons (pe_and (pe_cmpR op_le (pv 2) (pv 1) (nomark _)) (pe_one (pe_cmpR op_le (pv 1) (pv 3) (nomark _)))) pa_nil))))) (pss_one (ps_ret pe_bl)) pss_nil))) pss_nil))))
  (pss_one (ps_ret pe_bl))), ?_⟩
    walk_at "my sts"
    refine fl (sqL hp) (fun i σ' H' => Same H H' ∧ ∃ v1 v2 v3, σ' = [some (.ref p), v1, v2, v3]) ⟨Same.refl _, none, none, none, rfl⟩ (fun i σ' H' _ h => sqL (h.1 _ _ hp)) ?_ ?_
    · rintro i x σ' H' hx ⟨s1, v1, v2, v3, rfl⟩
      obtain ⟨t, a, b, c, rfl, ht⟩ := tr x (List.mem_of_getElem? hx)
      refine ⟨_, _, rfl, sqT (s1 _ _ ht), rfl, _, _, rfl, _, _, rfl, _, _, rfl, rfl, ?_⟩
      have num : ∀ (H2 : Hp) (R : VK), (∀ H3, Same H2 H3 → R (.bl (decide (b ≤ a) && decide (a ≤ c))) H3) → sp_is_number K [.int a, .int b, .int c] H2 R E0 := fun H2 R g => ⟨_, b, c, rfl, .inl ⟨a, rfl, g⟩⟩
      have numB : ∀ (u : Bool) (H2 : Hp) (R : VK), (∀ H3, Same H2 H3 → R (.bl false) H3) → sp_is_number K [.bl u, .int b, .int c] H2 R E0 := fun u H2 R g => ⟨_, b, c, rfl, .inr ⟨u, rfl, g⟩⟩
      have same : ∀ (u v : Bool) (H2 : Hp) (R : VK), u = v → (∀ H3, Same H2 H3 → R (.bl true) H3) → sp_law_same K [.bl u, .bl v] H2 R E0 := fun u v H2 R e g => ⟨_, _, rfl, by rw [e]; exact .bl _ _, g⟩
      walk_at "my sts"
      refine num _ _ fun H2 s2 => ?_
      walk_at "my sts"
      refine i_ite (fun h1 => ?_) fun h1 => ?_
      all_goals walk_at "my sts"
      all_goals refine same _ _ _ _ (by rw [h1]; first | rw [Bool.true_and] | rw [Bool.false_and]) fun H3 s3 => ?_
      all_goals walk_at "my sts"
      all_goals (refine i_ite (fun _ => ?_) fun _ => ?_)
      all_goals walk_at "my sts"
      all_goals (first | (refine i_ite (fun _ => ?_) fun _ => ?_) | skip)
      all_goals walk_at "my sts"
      all_goals (first | exact ⟨s1.trans (s2.trans s3), _, _, _, rfl⟩ | skip)
      all_goals refine numB _ _ _ fun H4 s4 => ?_
      all_goals walk_at "my sts"
      all_goals refine same _ _ _ _ rfl fun H5 s5 => ?_
      all_goals walk_at "my sts"
      all_goals refine num _ _ fun H6 s6 => ?_
      all_goals walk_at "my sts"
      all_goals (refine i_ite (fun h7 => ?_) fun h7 => ?_)
      all_goals walk_at "my sts"
      all_goals refine same _ _ _ _ (by rw [h7]; first | rw [Bool.true_and] | rw [Bool.false_and]) fun H7 s7 => ?_
      all_goals walk_at "my sts"
      all_goals exact ⟨s1.trans (s2.trans (s3.trans (s4.trans (s5.trans (s6.trans s7))))), _, _, _, rfl⟩
    · rintro σ' H' ⟨s1, v1, v2, v3, rfl⟩
      walk_at "my sts"
      exact k _ s1
def sp_law_constants_fine (K : PySem.W.Frag) : Sp := fun vs H Q _ => vs = [] ∧ ∀ H', Same H H' → Q (.bl true) H'
theorem ok_law_constants_fine {f : Addr} {fd : FuncData}
    {f_law_same : Addr} {fd_law_same : FuncData} (D_law_same : Dn K mg "_law_same" s_law_same p_law_same f_law_same fd_law_same) (G_law_same : FnOk P w K mg base CX0 2 f_law_same fd_law_same p_law_same (sp_law_same K))
    (T : Txt K mg) (D : Dn K mg "_law_constants_fine" s_law_constants_fine p_law_constants_fine f fd) : FnOk P w K mg base CX0 3 f fd p_law_constants_fine (sp_law_constants_fine K) := by
  refine D.F.ok sc_law_constants_fine (fun vs H Q E h => ?_) (fun cdv A outer s' H vs Q E hr h => ?_)
  · obtain ⟨rfl, _⟩ := h
    rfl
  · obtain ⟨rfl, k⟩ := h
    refine ⟨_, (pss_cons (ps_set (i := 0) sc_law_constants_fine.nd rfl (Or.inl rfl) (pe_lst (pa_cons (pe_globE (by rfl) T.c_MOST_FOLK) (pa_cons (pe_globE (by rfl) T.c_MOST_WATCHES) (pa_cons (pe_globE (by rfl) T.c_MOST_NUMBER) (pa_cons (pe_globE (by rfl) T.c_MOST_DEEDS) (pa_cons (pe_globE (by rfl) T.c_CLASS_LIMIT) (pa_cons (pe_globE (by rfl) T.c_SMALL_CLASS) (pa_cons (pe_globE (by rfl) T.c_SUBSET_LIMIT) pa_nil)))))))))
  (pss_cons (ps_set (i := 1) sc_law_constants_fine.nd rfl (Or.inl rfl) (pe_lst (pa_cons pe_int (pa_cons pe_int (pa_cons pe_int (pa_cons pe_int (pa_cons pe_int (pa_cons pe_int (pa_cons pe_int pa_nil)))))))))
  (pss_cons (ps_set (i := 0) sc_law_constants_fine.nd rfl (Or.inl rfl) (pe_op op_cat (pv 0) (pe_lst (pa_cons (pe_globE (by rfl) T.c_RENAME_LIMIT) (pa_cons (pe_globE (by rfl) T.c_KEEPER_LIMIT) (pa_cons (pe_globE (by rfl) T.c_LIGHT_LIMIT) (pa_cons (pe_globE (by rfl) T.c_MOST_BORDER) (pa_cons (pe_globE (by rfl) T.c_MOST_OUTER) (pa_cons (pe_globE (by rfl) T.c_PIECE_FOLK) (pa_cons (pe_globE (by rfl) T.c_PIECE_WATCHES) pa_nil))))))))))
  (pss_cons (ps_set (i := 1) sc_law_constants_fine.nd rfl (Or.inl rfl) (pe_op op_cat (pv 1) (pe_lst (pa_cons pe_int (pa_cons pe_int (pa_cons pe_int (pa_cons pe_int (pa_cons pe_int (pa_cons pe_int (pa_cons pe_int pa_nil))))))))))
  (pss_cons (ps_set (i := 0) sc_law_constants_fine.nd rfl (Or.inl rfl) (pe_op op_cat (pv 0) (pe_lst (pa_cons (pe_globE (by rfl) T.c_MOST_SIGHTINGS) (pa_cons (pe_globE (by rfl) T.c_MOST_GAP) (pa_cons (pe_globE (by rfl) T.c_MOST_LINES) (pa_cons (pe_globE (by rfl) T.c_MOST_DEPTH) (pa_cons (pe_globE (by rfl) T.c_MOST_TICKS) (pa_cons (pe_globE (by rfl) T.c_MOST_ROWS) pa_nil)))))))))
  (pss_cons (ps_set (i := 1) sc_law_constants_fine.nd rfl (Or.inl rfl) (pe_op op_cat (pv 1) (pe_lst (pa_cons pe_int (pa_cons pe_int (pa_cons pe_int (pa_cons pe_int (pa_cons pe_int (pa_cons pe_int pa_nil)))))))))
  (pss_one (ps_ret (pe_call G_law_same (hr.mono (by decide)) (by rfl) D_law_same.m D_law_same.F.kp D_law_same.b .nil pass0 (pa_cons (pv 0) (pa_cons (pv 1) pa_nil))))))))))), ?_⟩
    walk_at "my sts"
    refine lst_end (by decide) fun p1 H1 _ s1 h1 => ?_
    walk_at "my sts"
    refine lst_end (by decide) fun p2 H2 _ s2 h2 => ?_
    walk_at "my sts"
    refine lst_end (by decide) fun p3 H3 _ s3 h3 => ?_
    walk_at "my sts"
    refine cat_end (s3 _ _ (s2 _ _ h1)) h3 (by decide) fun p4 H4 _ s4 h4 => ?_
    walk_at "my sts"
    refine lst_end (by decide) fun p5 H5 _ s5 h5 => ?_
    walk_at "my sts"
    refine cat_end (s5 _ _ (s4 _ _ (s3 _ _ h2))) h5 (by decide) fun p6 H6 _ s6 h6 => ?_
    walk_at "my sts"
    refine lst_end (by decide) fun p7 H7 _ s7 h7 => ?_
    walk_at "my sts"
    refine cat_end (s7 _ _ (s6 _ _ (s5 _ _ h4))) h7 (by decide) fun p8 H8 _ s8 h8 => ?_
    walk_at "my sts"
    refine lst_end (by decide) fun p9 H9 _ s9 h9 => ?_
    walk_at "my sts"
    refine cat_end (s9 _ _ (s8 _ _ (s7 _ _ h6))) h9 (by decide) fun pA HA _ sA hA => ?_
    walk_at "my sts"
    refine ⟨_, _, rfl, sm_ints [10, 24, 9999, 200, 400, 64, 8, 5, 6, 4, 3, 7, 9, 21, 8, 6, 40, 4, 90, 60] (sA _ _ (s9 _ _ h8)) hA (by decide), fun HB sB => ?_⟩
    exact k _ (s1.trans (s2.trans (s3.trans (s4.trans (s5.trans (s6.trans (s7.trans (s8.trans (s9.trans (sA.trans sB))))))))))
end
end My

namespace My
open PySem PySem.Spec PyProof.Rows L2
local macro_rules | `(tactic| walk_at "my hyp") => `(tactic| first | assumption | exact upd_same | (rw [upd_ne (by assumption)]; assumption) | (rw [upd_ne (by assumption)]; exact upd_same) | (rw [upd_ne (by assumption), upd_ne (by assumption)]; assumption))
local macro_rules | `(tactic| walk_at "my c") => `(tactic| first | assumption | (show (0 : Int) < _; first | assumption | decide | omega) | exact .inr ⟨by decide, by decide⟩ | exact .inl ⟨by decide, by decide⟩ | exact .inl ⟨by omega, by omega⟩ | exact .inr ⟨by omega, by omega⟩ | exact ⟨by decide, by decide⟩ | exact ⟨by decide, by decide, by decide⟩)
local macro_rules | `(tactic| walk_at "my len") => `(tactic| first | omega | ((try simp only [len_app, len_one]); omega) | decide)
local macro_rules | `(tactic| walk_at "my ty") => `(tactic| first | exact .base (.int _) | exact .base (.bl _) | exact .base (.str _) | exact .base .non | exact .base (.lst (by walk_at "my hyp")) | exact .base (.tup (by walk_at "my hyp")))
local macro_rules | `(tactic| walk_at "my st") => `(tactic| first
  | (with_reducible refine i_seq ?_)
  | (with_reducible refine i_asg ?_)
  | (with_reducible refine i_gname ?_)
  | (with_reducible refine i_drop ?_)
  | (with_reducible refine i_ret ?_)
  | (with_reducible refine i_retN ?_)
  | (with_reducible refine i_if ?_)
  | (with_reducible refine i_next ?_)
  | (with_reducible refine i_break ?_)
  | (with_reducible refine i_cont ?_)
  | (with_reducible refine i_c ?_)
  | (with_reducible refine i_op ?_)
  | (with_reducible refine i_un ?_)
  | (with_reducible refine i_I0 ?_)
  | (with_reducible refine i_U ?_)
  | ((with_reducible refine' i_eq ?h ?_); (case h => exact rfl))
  | ((with_reducible refine' i_ne ?h ?_); (case h => exact rfl))
  | (with_reducible refine i_test ?_)
  | (with_reducible refine i_B ?_)
  | (with_reducible refine i_bl ?_)
  | (with_reducible refine i_and ?_)
  | (with_reducible refine i_or ?_)
  | (with_reducible refine i_not ?_)
  | (with_reducible refine i_andV ?_)
  | (with_reducible refine i_orV ?_)
  | (with_reducible refine i_notV ?_)
  | (with_reducible refine i_ifE ?_)
  | (with_reducible refine i_chain ?_)
  | (with_reducible refine i_chain3 ?_)
  | (with_reducible refine i_call ?_)
  | (with_reducible refine i_cons ?_)
  | (with_reducible refine i_nil ?_)
  | (with_reducible refine i_CB ?_)
  | (with_reducible refine i_lst ?_)
  | (with_reducible refine i_tup ?_)
  | (with_reducible refine i_gsub ?_)
  | (with_reducible refine i_sl ?_)
  | (with_reducible refine i_int ?_)
  | (with_reducible refine i_max ?_)
  | (with_reducible refine i_min ?_)
  | (with_reducible refine i_inG ?_)
  | (with_reducible refine i_isN_int ?_)
  | (with_reducible refine i_isN_str ?_)
  | (with_reducible refine i_isN_bl ?_)
  | (with_reducible refine i_isN_ref ?_)
  | (with_reducible refine i_isN_non ?_)
  | (with_reducible refine i_notN_int ?_)
  | (with_reducible refine i_notN_str ?_)
  | (with_reducible refine i_notN_bl ?_)
  | (with_reducible refine i_notN_ref ?_)
  | (with_reducible refine i_notN_non ?_)
  | (with_reducible refine i_BM0 ?_)
  | (with_reducible refine i_BM ?_)
  | (with_reducible refine i_noPart ?_)
  | (with_reducible refine i_part ?_)
  | (with_reducible refine i_exint ?_)
  | (with_reducible refine i_revL ?_)
  | (with_reducible refine i_yes ?_)
  | ((with_reducible refine' i_lenL ?h ?_); (case h => exact sqL (by walk_at "my hyp")))
  | ((with_reducible refine' i_lenT ?h ?_); (case h => exact sqT (by walk_at "my hyp")))
  | (with_reducible refine i_tyS ?_)
  | ((with_reducible refine' i_tyL ?h ?_); (case h => exact sqL (by walk_at "my hyp")))
  | ((with_reducible refine' i_lenVL ?h ?_); (case h => exact sqL (by walk_at "my hyp")))
  | ((with_reducible refine' i_lenVT ?h ?_); (case h => exact sqT (by walk_at "my hyp")))
  | ((with_reducible refine' i_lenVS ?h ?_); (case h => walk_at "my len"))
  | ((with_reducible refine' i_lenZ ?h ?_); (case h => walk_at "my len"))
  | ((with_reducible refine' i_addZ ?h ?_); (case h => walk_at "my len"))
  | ((with_reducible refine' i_up ?h ?_); (case h => walk_at "my len"))
  | ((with_reducible refine' i_slS ?h ?_); (case h => walk_at "my len"))
  | ((with_reducible refine' i_ixS ?h ?a ?_); (case h => exact Nat.le_trans (m := 100000) (by walk_at "my len") (by decide)); (case a => first | assumption | exact rfl))
  | (with_reducible refine iteT ?_)
  | (with_reducible refine iteF ?_)
  | (with_reducible refine i_nF ?_)
  | (with_reducible refine i_nT ?_)
  | ((with_reducible refine' i_isi1 (b := true) ?h ?a ?_); (case h => walk_at "my ty"); (case a => decide +kernel))
  | ((with_reducible refine' i_isi1 (b := false) ?h ?a ?_); (case h => walk_at "my ty"); (case a => decide +kernel))
  | ((with_reducible refine' i_isi2' true false true ?h ?t ?a ?b rfl ?_); (case h => walk_at "my hyp"); (case t => walk_at "my ty"); (case a => decide +kernel); (case b => decide +kernel))
  | ((with_reducible refine' i_isi2' false true true ?h ?t ?a ?b rfl ?_); (case h => walk_at "my hyp"); (case t => walk_at "my ty"); (case a => decide +kernel); (case b => decide +kernel))
  | ((with_reducible refine' i_isi2' false false false ?h ?t ?a ?b rfl ?_); (case h => walk_at "my hyp"); (case t => walk_at "my ty"); (case a => decide +kernel); (case b => decide +kernel))
  | (with_reducible refine i_forR ?_)
  | (with_reducible refine i_forL ?_)
  | (with_reducible refine i_lcR ?_)
  | (with_reducible refine i_lcL ?_)
  | (with_reducible refine i_lcS ?_)
  | ((with_reducible refine' i_var ?h ?_); (case h => exact rfl))
  | ((with_reducible refine' i_I ?h ?_); (case h => walk_at "my c"))
  | ((with_reducible refine' i_ixL ?h ?a ?_); (case h => exact sqL (by walk_at "my hyp")); (case a => exact rfl))
  | ((with_reducible refine' i_ixT ?h ?a ?_); (case h => exact sqT (by walk_at "my hyp")); (case a => exact rfl))
  | ((with_reducible refine' i_ixAL ?h ?a ?_); (case h => exact sqL (by walk_at "my hyp")); (case a => first | assumption | exact rfl))
  | ((with_reducible refine' i_ixAT ?h ?a ?_); (case h => exact sqT (by walk_at "my hyp")); (case a => first | assumption | exact rfl))
  | ((with_reducible refine' i_setL ?h ?a ?_); (case h => walk_at "my hyp"); (case a => exact rfl)))
local macro_rules | `(tactic| walk_at "my ab") => `(tactic| first
  | ((with_reducible refine' a_add ?h ?_); (case h => walk_at "my len"); intro w hw)
  | ((with_reducible refine' a_sl ?h ?_); (case h => walk_at "my len"); intro w hw)
  | ((with_reducible refine' a_up ?h ?_); (case h => walk_at "my len"); intro w hw)
  | walk_at "my st")
local macro_rules | `(tactic| walk_at "my abs") => `(tactic| repeat (walk_at "my ab"))
local macro_rules | `(tactic| walk_at "my sts") => `(tactic| repeat (walk_at "my st"))

section
variable {P : Program} {w : World} {K : PySem.W.Frag} {mg : Str → Option Value} {base : Heap}
def sp_law (K : PySem.W.Frag) : Sp := fun vs H Q _ => ∃ (a : Addr) (ns : List Int), vs = [.ref a] ∧ SqL K H a (ns.map V.int) ∧ ns.length ≤ 63 ∧ ∀ H', Q (.bl true) H'
theorem ok_law {f : Addr} {fd : FuncData}
    {f_law_store : Addr} {fd_law_store : FuncData} (D_law_store : Dn K mg "_law_store" s_law_store p_law_store f_law_store fd_law_store) (G_law_store : FnOk P w K mg base CX0 1 f_law_store fd_law_store p_law_store (sp_law_store K))
    {f_law_text : Addr} {fd_law_text : FuncData} (D_law_text : Dn K mg "_law_text" s_law_text p_law_text f_law_text fd_law_text) (G_law_text : FnOk P w K mg base CX0 6 f_law_text fd_law_text p_law_text (sp_law_text K))
    {f_law_form : Addr} {fd_law_form : FuncData} (D_law_form : Dn K mg "_law_form" s_law_form p_law_form f_law_form fd_law_form) (G_law_form : FnOk P w K mg base CX0 1 f_law_form fd_law_form p_law_form (sp_law_form K))
    {f_law_question : Addr} {fd_law_question : FuncData} (D_law_question : Dn K mg "_law_question" s_law_question p_law_question f_law_question fd_law_question) (G_law_question : FnOk P w K mg base CX0 4 f_law_question fd_law_question p_law_question (sp_law_question K))
    {f_law_texts_fine : Addr} {fd_law_texts_fine : FuncData} (D_law_texts_fine : Dn K mg "_law_texts_fine" s_law_texts_fine p_law_texts_fine f_law_texts_fine fd_law_texts_fine) (G_law_texts_fine : FnOk P w K mg base CX0 3 f_law_texts_fine fd_law_texts_fine p_law_texts_fine (sp_law_texts_fine K))
    {f_law_numbers_fine : Addr} {fd_law_numbers_fine : FuncData} (D_law_numbers_fine : Dn K mg "_law_numbers_fine" s_law_numbers_fine p_law_numbers_fine f_law_numbers_fine fd_law_numbers_fine) (G_law_numbers_fine : FnOk P w K mg base CX0 3 f_law_numbers_fine fd_law_numbers_fine p_law_numbers_fine (sp_law_numbers_fine K))
    {f_law_constants_fine : Addr} {fd_law_constants_fine : FuncData} (D_law_constants_fine : Dn K mg "_law_constants_fine" s_law_constants_fine p_law_constants_fine f_law_constants_fine fd_law_constants_fine) (G_law_constants_fine : FnOk P w K mg base CX0 3 f_law_constants_fine fd_law_constants_fine p_law_constants_fine (sp_law_constants_fine K))
    {f_law_near : Addr} {fd_law_near : FuncData} (D_law_near : Dn K mg "_law_near" s_law_near p_law_near f_law_near fd_law_near) (G_law_near : FnOk P w K mg base CX0 1 f_law_near fd_law_near p_law_near (sp_law_near K))
    (T : Txt K mg) (D : Dn K mg "law" s_law p_law f fd) : FnOk P w K mg base CX0 7 f fd p_law (sp_law K) := by
  refine D.F.ok sc_law (fun vs H Q E h => ?_) (fun cdv A outer s' H vs Q E hr h => ?_)
  · obtain ⟨a, ns, rfl, _⟩ := h
    rfl
  · obtain ⟨a, ns, rfl, hS, hl, k⟩ := h
    refine ⟨_, (pss_cons (ps_set (i := 1) sc_law.nd rfl (Or.inr rfl) (pe_call G_law_store (hr.mono (by decide)) (by rfl) D_law_store.m D_law_store.F.kp D_law_store.b .nil pass0 (pa_cons (pv 0) pa_nil)))
  (pss_cons (ps_setLc (i := 2) (own := [("k", 6)]) rfl sc_law.nd rfl rfl (sw_true rfl rfl rfl (by decide +kernel)) (pi_range1 (by rfl) T.b_range (pa_cons pe_int pa_nil)) (blkOk_by (own := [("k", 6)]) (N := n_law) (sc := defScope s_law) (by decide +kernel)) (fun _ _ _ _ _ => (pg_name (i := 6) sc_law.nd rfl (Or.inl rfl))) (fun _ _ _ _ _ => pts_nil) (fun _ _ _ _ _ => (pe_call G_law_text (hr.mono (by decide)) (by rfl) D_law_text.m D_law_text.F.kp D_law_text.b .nil pass0 (pa_cons (pv 1) pa_nil))))
  (pss_cons (ps_set (i := 3) sc_law.nd rfl (Or.inl rfl) (pe_lst pa_nil))
  (pss_cons (ps_for PassesOwn.never rfl (pi_list (pv 2)) (pg_name (i := 4) sc_law.nd rfl (Or.inl rfl))
   (pss_cons (ps_expr (pe_bm PySem.F.plainAttrs_list PySem.F.slot_list_append PySem.F.type_list_append mt_append (pv 3) (pa_cons (pv 4) pa_nil)))
  (pss_one (ps_if (pt_val (pe_call G_law_form (hr.mono (by decide)) (by rfl) D_law_form.m D_law_form.F.kp D_law_form.b .nil pass0 (pa_cons (pv 4) pa_nil))) (pss_one (ps_set (i := 3) sc_law.nd rfl (Or.inl rfl) (pe_op op_cat (pv 3) (pe_call G_law_near (hr.mono (by decide)) (by rfl) D_law_near.m D_law_near.F.kp D_law_near.b .nil pass0 (pa_cons (pv 4) pa_nil))))) pss_nil))))
  (pss_cons (ps_setLc (i := 5) (own := [("k", 6)]) rfl sc_law.nd rfl rfl (sw_true rfl rfl rfl (by decide +kernel)) (pi_range1 (by rfl) T.b_range (pa_cons pe_int pa_nil)) (blkOk_by (own := [("k", 6)]) (N := n_law) (sc := defScope s_law) (by decide +kernel)) (fun _ _ _ _ _ => (pg_name (i := 6) sc_law.nd rfl (Or.inl rfl))) (fun _ _ _ _ _ => pts_nil) (fun _ _ _ _ _ => (pe_call G_law_question (hr.mono (by decide)) (by rfl) D_law_question.m D_law_question.F.kp D_law_question.b .nil pass0 (pa_cons (pv 1) pa_nil))))
  (pss_cons (ps_if (PW.pt (pw_or (pt_not (pt_val (pe_call0 G_law_constants_fine (hr.mono (by decide)) (by rfl) D_law_constants_fine.m D_law_constants_fine.F.kp D_law_constants_fine.b .nil pass0))) (pw_or (pt_not (pt_val (pe_call G_law_texts_fine (hr.mono (by decide)) (by rfl) D_law_texts_fine.m D_law_texts_fine.F.kp D_law_texts_fine.b .nil pass0 (pa_cons (pv 3) pa_nil)))) (pw_or1 (pt_not (pt_val (pe_call G_law_numbers_fine (hr.mono (by decide)) (by rfl) D_law_numbers_fine.m D_law_numbers_fine.F.kp D_law_numbers_fine.b .nil pass0 (pa_cons (pv 5) pa_nil)))))))) (pss_one (ps_ret pe_bl)) pss_nil)
  (pss_one (ps_ret (pe_and (pe_call G_law_texts_fine (hr.mono (by decide)) (by rfl) D_law_texts_fine.m D_law_texts_fine.F.kp D_law_texts_fine.b .nil pass0 (pa_cons (pe_revL (pv 3)) pa_nil)) (pe_one (pe_call G_law_numbers_fine (hr.mono (by decide)) (by rfl) D_law_numbers_fine.m D_law_numbers_fine.F.kp D_law_numbers_fine.b .nil pass0 (pa_cons (pe_revL (pv 5)) pa_nil)))))))))))), ?_⟩
    walk_at "my sts"
    refine ⟨a, ns, rfl, hS, by omega, fun s H1 hs hst1 s1 => ?_⟩
    walk_at "my sts"
    refine cr1 (by decide) (by decide) (fun D i H' => StOk H' s ∧ Fr s H1 H' ∧ ∃ acc, H' D = some (.lst acc) ∧ acc.length = i ∧ Short 1000 acc) (fun D hD => ⟨hst1.new hD, Fr.new Fr.refl hD, [], upd_same, rfl, Short.nil⟩) ?_ ?_
    · rintro D i H' hD hi ⟨hst, f, acc, hd, ha, sh⟩
      have nD : D ≠ s := hst1.ne hD
      refine ⟨rfl, ?_⟩
      walk_at "my sts"
      refine ⟨s, rfl, hst, fun z H2 hz hst2 f2 => ?_⟩
      refine ⟨acc, f2.1 _ _ hd nD, Nat.lt_of_lt_of_le (show acc.length < 1000 by rw [ha]; exact Nat.lt_of_lt_of_le hi (by decide)) (by decide), hst1.mut (f.trans f2) hst2 hD, (f.trans f2).mut hD, _, upd_same, by rw [List.length_append, ha]; rfl, sh.app (Short.cons hz Short.nil)⟩
    · rintro D H2 hD ⟨hst2, f2, acc, hd, ha, sh⟩
      have ha : acc.length = 6 := ha
      have nD : D ≠ s := hst1.ne hD
      walk_at "my sts"
      refine lst_end (by decide) fun t H3 ht s3 h3 => ?_
      walk_at "my sts"
      have nt2 : t ≠ D := ne_none hd ht
      have ht1 : H1 t = none := f2.free ht (hst2.ne ht)
      refine fl (sqL (s3 _ _ hd)) (fun i σ' H' => ∃ (tp : Addr) (ts : List V) (v : Option V), σ' = [some (.ref a), some (.ref s), some (.ref D), some (.ref tp), v, none, none] ∧ H' tp = some (.lst ts) ∧ Short 1000 ts ∧ ts.length ≤ 11 * i ∧ StOk H' s ∧ H' D = some (.lst acc) ∧ H1 tp = none ∧ tp ≠ D ∧ Fr s H1 H')
        ⟨t, [], none, rfl, h3, Short.nil, Nat.le_refl _, hst2.same s3, s3 _ _ hd, ht1, nt2, f2.trans (Fr.same s3)⟩ (fun i σ' H' _ h => by
          obtain ⟨_, _, _, _, _, _, _, _, h, _⟩ := h
          exact sqL h) ?_ ?_
      · rintro i x σ' H' hx ⟨tp, ts, v, rfl, hts, shs, ls, hst4, hd4, htp, ntd, f4⟩
        have hi : i < 6 := by
          have := (List.getElem?_eq_some_iff.mp hx).1
          omega
        obtain ⟨z, rfl, hz⟩ := sh x (List.mem_of_getElem? hx)
        have ns4 : tp ≠ s := hst1.ne htp
        walk_at "my sts"
        refine i_append hts (by omega) ?_
        have g1 : (upd H' tp (.lst (ts ++ [V.str z]))) tp = some (.lst (ts ++ [V.str z])) := upd_same
        have g2 : StOk (upd H' tp (.lst (ts ++ [V.str z]))) s := hst1.mut f4 hst4 htp
        have g3 : (upd H' tp (.lst (ts ++ [V.str z]))) D = some (.lst acc) := by
          rw [upd_ne ntd.symm]
          exact hd4
        have g4 : Fr s H1 (upd H' tp (.lst (ts ++ [V.str z]))) := f4.mut htp
        generalize upd H' tp (.lst (ts ++ [V.str z])) = H5 at g1 g2 g3 g4 ⊢
        have sh5 : Short 1000 (ts ++ [V.str z]) := shs.app (Short.cons hz Short.nil)
        have l5 : (ts ++ [V.str z]).length ≤ 11 * i + 1 := by
          rw [List.length_append]
          exact Nat.add_le_add_right ls 1
        walk_at "my sts"
        refine ⟨z, rfl, hz, fun H6 s6 => ?_⟩
        walk_at "my sts"
        refine i_ite (fun hn => ?_) fun hn => ?_
        · have l8 : z.length ≤ 8 := by
            by_cases h : z.length ≤ 8
            · exact h
            · rw [nameB_9 h] at hn
              cases hn
          walk_at "my sts"
          refine ⟨z, rfl, l8, fun np xs H7 hnp s7 h7 l7 sh7 => ?_⟩
          refine cat_end (s7 _ _ (s6 _ _ g1)) h7 (by omega) fun r H8 hr s8 h8 => ?_
          walk_at "my sts"
          have s58 := s6.trans (s7.trans s8)
          have hr5 : H5 r = none := s6.free (s7.free hr)
          exact ⟨r, _, _, rfl, h8, sh5.app sh7, by rw [List.length_append]; omega, g2.same s58, s58 _ _ g3, g4.free hr5 (g2.ne hr5), ne_none g3 hr5, g4.trans (Fr.same s58)⟩
        · walk_at "my sts"
          exact ⟨tp, _, _, rfl, s6 _ _ g1, sh5, by omega, g2.same s6, s6 _ _ g3, htp, ntd, g4.trans (Fr.same s6)⟩
      · rintro σ' H4 ⟨tp, ts, v, rfl, hts, shs, ls, hst4, hd4, htp, ntd, f4⟩
        have ns4 : tp ≠ s := hst1.ne htp
        walk_at "my sts"
        refine cr1 (by decide) (by decide) (fun D i H' => StOk H' s ∧ Fr s H4 H' ∧ ∃ acc, H' D = some (.lst acc) ∧ acc.length = i ∧ Trip H' acc ∧ ∀ v ∈ acc, v ≠ .ref D) (fun D hD => ⟨hst4.new hD, Fr.new Fr.refl hD, [], upd_same, rfl, (by intro v h; cases h), (by intro v h; cases h)⟩) ?_ ?_
        · rintro D2 i H' hD2 hi ⟨hst, f, acc2, hd2, ha2, tr2, no2⟩
          have nD : D2 ≠ s := hst4.ne hD2
          refine ⟨rfl, ?_⟩
          walk_at "my sts"
          refine ⟨s, rfl, hst, fun qp qa qb qc H5 hq hq5 hst5 f5 => ?_⟩
          have nq : qp ≠ D2 := ne_none hd2 hq
          refine ⟨acc2, f5.1 _ _ hd2 nD, Nat.lt_of_lt_of_le (show acc2.length < 1000 by rw [ha2]; exact Nat.lt_of_lt_of_le hi (by decide)) (by decide), hst4.mut (f.trans f5) hst5 hD2, (f.trans f5).mut hD2, _, upd_same, by rw [List.length_append, ha2]; rfl, ?_, ?_⟩
          · intro v hv
            rcases List.mem_append.mp hv with hv | hv
            · obtain ⟨p, a1, b1, c1, e, hp⟩ := tr2 v hv
              have np : p ≠ D2 := fun e2 => no2 v hv (by rw [e, e2])
              have nps : p ≠ s := fun e2 => by
                obtain ⟨q, ns, i1, n2, i3, i4, i5, i6, h1, _⟩ := hst
                rw [e2, h1] at hp
                cases hp
              exact ⟨p, a1, b1, c1, e, by rw [upd_ne np]; exact f5.1 _ _ hp nps⟩
            · rw [List.mem_singleton.mp hv]
              exact ⟨qp, qa, qb, qc, rfl, by rw [upd_ne nq]; exact hq5⟩
          · intro v hv
            rcases List.mem_append.mp hv with hv | hv
            · exact no2 v hv
            · rw [List.mem_singleton.mp hv]
              intro e
              cases e
              exact nq rfl
        · rintro D2 H5 hD2 ⟨hst5, f5, acc2, hd5, ha5, tr5, _⟩
          have h5 : H5 tp = some (.lst ts) := f5.1 _ _ hts ns4
          walk_at "my sts"
          refine ⟨rfl, fun H6 s6 => ?_⟩
          walk_at "my sts"
          refine ⟨tp, ts, rfl, s6 _ _ h5, shs, fun H7 s7 => ?_⟩
          walk_at "my sts"
          refine ⟨D2, acc2, rfl, s7 _ _ (s6 _ _ hd5), tr5.keep (s6.trans s7), fun H8 s8 => ?_⟩
          walk_at "my sts"
          have s58 := s6.trans (s7.trans s8)
          refine rev_end (sqL (s58 _ _ h5)) fun r H9 hr s9 h9 => ?_
          walk_at "my sts"
          refine ⟨r, _, rfl, h9, shs.rev, fun HA sA => ?_⟩
          walk_at "my sts"
          have s5A := s58.trans (s9.trans sA)
          refine rev_end (sqL (s5A _ _ hd5)) fun r2 HB hr2 sB hB => ?_
          walk_at "my sts"
          exact ⟨r2, _, rfl, hB, (tr5.keep (s5A.trans sB)).rev, fun HC _ => k HC⟩
theorem all_mk {l : PySem.W.OpenLaw} {w : World} {K : PySem.W.Frag} {h : Heap} {mg : Str → Option Value} {fa : Addr} (X : K.In h) (G : h.Ns mainGlobals mg) (hfa : mg "law" = some (.ref fa))
    {f0 : Addr} {od0 an0 : Option Addr} {sl0 : Array (Option Value)} {oc0 kV0 dc0 pm0 cd0 ct0 : Value}
    (a0 : PySem.W.nsIn K mainGlobals "is_name" = some (some (.ref f0))) (l0 : K.lookup f0 = some ⟨oc0, od0, .func (PySem.W.fnOf "is_name" "is_name" (defArgs s_is_name) (defBody s_is_name) (defScope s_is_name) .none kV0 dc0 pm0 an0 cd0 ct0), sl0⟩) (c0 : PySem.W.codeIn K cd0 "is_name" = true) (k0 : PySem.W.keepIn K (.ref f0) = true)
    {f1 : Addr} {od1 an1 : Option Addr} {sl1 : Array (Option Value)} {oc1 kV1 dc1 pm1 cd1 ct1 : Value}
    (a1 : PySem.W.nsIn K mainGlobals "is_number" = some (some (.ref f1))) (l1 : K.lookup f1 = some ⟨oc1, od1, .func (PySem.W.fnOf "is_number" "is_number" (defArgs s_is_number) (defBody s_is_number) (defScope s_is_number) .none kV1 dc1 pm1 an1 cd1 ct1), sl1⟩) (c1 : PySem.W.codeIn K cd1 "is_number" = true) (k1 : PySem.W.keepIn K (.ref f1) = true)
    {f2 : Addr} {od2 an2 : Option Addr} {sl2 : Array (Option Value)} {oc2 kV2 dc2 pm2 cd2 ct2 : Value}
    (a2 : PySem.W.nsIn K mainGlobals "_law_store" = some (some (.ref f2))) (l2 : K.lookup f2 = some ⟨oc2, od2, .func (PySem.W.fnOf "_law_store" "_law_store" (defArgs s_law_store) (defBody s_law_store) (defScope s_law_store) .none kV2 dc2 pm2 an2 cd2 ct2), sl2⟩) (c2 : PySem.W.codeIn K cd2 "_law_store" = true) (k2 : PySem.W.keepIn K (.ref f2) = true)
    {f3 : Addr} {od3 an3 : Option Addr} {sl3 : Array (Option Value)} {oc3 kV3 dc3 pm3 cd3 ct3 : Value}
    (a3 : PySem.W.nsIn K mainGlobals "_law_next" = some (some (.ref f3))) (l3 : K.lookup f3 = some ⟨oc3, od3, .func (PySem.W.fnOf "_law_next" "_law_next" (defArgs s_law_next) (defBody s_law_next) (defScope s_law_next) .none kV3 dc3 pm3 an3 cd3 ct3), sl3⟩) (c3 : PySem.W.codeIn K cd3 "_law_next" = true) (k3 : PySem.W.keepIn K (.ref f3) = true)
    {f4 : Addr} {od4 an4 : Option Addr} {sl4 : Array (Option Value)} {oc4 kV4 dc4 pm4 cd4 ct4 : Value}
    (a4 : PySem.W.nsIn K mainGlobals "_law_raw" = some (some (.ref f4))) (l4 : K.lookup f4 = some ⟨oc4, od4, .func (PySem.W.fnOf "_law_raw" "_law_raw" (defArgs s_law_raw) (defBody s_law_raw) (defScope s_law_raw) .none kV4 dc4 pm4 an4 cd4 ct4), sl4⟩) (c4 : PySem.W.codeIn K cd4 "_law_raw" = true) (k4 : PySem.W.keepIn K (.ref f4) = true)
    {f5 : Addr} {od5 an5 : Option Addr} {sl5 : Array (Option Value)} {oc5 kV5 dc5 pm5 cd5 ct5 : Value}
    (a5 : PySem.W.nsIn K mainGlobals "_law_take" = some (some (.ref f5))) (l5 : K.lookup f5 = some ⟨oc5, od5, .func (PySem.W.fnOf "_law_take" "_law_take" (defArgs s_law_take) (defBody s_law_take) (defScope s_law_take) .none kV5 dc5 pm5 an5 cd5 ct5), sl5⟩) (c5 : PySem.W.codeIn K cd5 "_law_take" = true) (k5 : PySem.W.keepIn K (.ref f5) = true)
    {f6 : Addr} {od6 an6 : Option Addr} {sl6 : Array (Option Value)} {oc6 kV6 dc6 pm6 cd6 ct6 : Value}
    (a6 : PySem.W.nsIn K mainGlobals "_law_some" = some (some (.ref f6))) (l6 : K.lookup f6 = some ⟨oc6, od6, .func (PySem.W.fnOf "_law_some" "_law_some" (defArgs s_law_some) (defBody s_law_some) (defScope s_law_some) .none kV6 dc6 pm6 an6 cd6 ct6), sl6⟩) (c6 : PySem.W.codeIn K cd6 "_law_some" = true) (k6 : PySem.W.keepIn K (.ref f6) = true)
    {f7 : Addr} {od7 an7 : Option Addr} {sl7 : Array (Option Value)} {oc7 kV7 dc7 pm7 cd7 ct7 : Value}
    (a7 : PySem.W.nsIn K mainGlobals "_law_number" = some (some (.ref f7))) (l7 : K.lookup f7 = some ⟨oc7, od7, .func (PySem.W.fnOf "_law_number" "_law_number" (defArgs s_law_number) (defBody s_law_number) (defScope s_law_number) .none kV7 dc7 pm7 an7 cd7 ct7), sl7⟩) (c7 : PySem.W.codeIn K cd7 "_law_number" = true) (k7 : PySem.W.keepIn K (.ref f7) = true)
    {f8 : Addr} {od8 an8 : Option Addr} {sl8 : Array (Option Value)} {oc8 kV8 dc8 pm8 cd8 ct8 : Value}
    (a8 : PySem.W.nsIn K mainGlobals "_law_pick" = some (some (.ref f8))) (l8 : K.lookup f8 = some ⟨oc8, od8, .func (PySem.W.fnOf "_law_pick" "_law_pick" (defArgs s_law_pick) (defBody s_law_pick) (defScope s_law_pick) .none kV8 dc8 pm8 an8 cd8 ct8), sl8⟩) (c8 : PySem.W.codeIn K cd8 "_law_pick" = true) (k8 : PySem.W.keepIn K (.ref f8) = true)
    {f9 : Addr} {od9 an9 : Option Addr} {sl9 : Array (Option Value)} {oc9 kV9 dc9 pm9 cd9 ct9 : Value}
    (a9 : PySem.W.nsIn K mainGlobals "_law_same" = some (some (.ref f9))) (l9 : K.lookup f9 = some ⟨oc9, od9, .func (PySem.W.fnOf "_law_same" "_law_same" (defArgs s_law_same) (defBody s_law_same) (defScope s_law_same) .none kV9 dc9 pm9 an9 cd9 ct9), sl9⟩) (c9 : PySem.W.codeIn K cd9 "_law_same" = true) (k9 : PySem.W.keepIn K (.ref f9) = true)
    {f10 : Addr} {od10 an10 : Option Addr} {sl10 : Array (Option Value)} {oc10 kV10 dc10 pm10 cd10 ct10 : Value}
    (a10 : PySem.W.nsIn K mainGlobals "_law_name" = some (some (.ref f10))) (l10 : K.lookup f10 = some ⟨oc10, od10, .func (PySem.W.fnOf "_law_name" "_law_name" (defArgs s_law_name) (defBody s_law_name) (defScope s_law_name) .none kV10 dc10 pm10 an10 cd10 ct10), sl10⟩) (c10 : PySem.W.codeIn K cd10 "_law_name" = true) (k10 : PySem.W.keepIn K (.ref f10) = true)
    {f11 : Addr} {od11 an11 : Option Addr} {sl11 : Array (Option Value)} {oc11 kV11 dc11 pm11 cd11 ct11 : Value}
    (a11 : PySem.W.nsIn K mainGlobals "_law_bad_name" = some (some (.ref f11))) (l11 : K.lookup f11 = some ⟨oc11, od11, .func (PySem.W.fnOf "_law_bad_name" "_law_bad_name" (defArgs s_law_bad_name) (defBody s_law_bad_name) (defScope s_law_bad_name) .none kV11 dc11 pm11 an11 cd11 ct11), sl11⟩) (c11 : PySem.W.codeIn K cd11 "_law_bad_name" = true) (k11 : PySem.W.keepIn K (.ref f11) = true)
    {f12 : Addr} {od12 an12 : Option Addr} {sl12 : Array (Option Value)} {oc12 kV12 dc12 pm12 cd12 ct12 : Value}
    (a12 : PySem.W.nsIn K mainGlobals "_law_text" = some (some (.ref f12))) (l12 : K.lookup f12 = some ⟨oc12, od12, .func (PySem.W.fnOf "_law_text" "_law_text" (defArgs s_law_text) (defBody s_law_text) (defScope s_law_text) .none kV12 dc12 pm12 an12 cd12 ct12), sl12⟩) (c12 : PySem.W.codeIn K cd12 "_law_text" = true) (k12 : PySem.W.keepIn K (.ref f12) = true)
    {f13 : Addr} {od13 an13 : Option Addr} {sl13 : Array (Option Value)} {oc13 kV13 dc13 pm13 cd13 ct13 : Value}
    (a13 : PySem.W.nsIn K mainGlobals "_law_near" = some (some (.ref f13))) (l13 : K.lookup f13 = some ⟨oc13, od13, .func (PySem.W.fnOf "_law_near" "_law_near" (defArgs s_law_near) (defBody s_law_near) (defScope s_law_near) .none kV13 dc13 pm13 an13 cd13 ct13), sl13⟩) (c13 : PySem.W.codeIn K cd13 "_law_near" = true) (k13 : PySem.W.keepIn K (.ref f13) = true)
    {f14 : Addr} {od14 an14 : Option Addr} {sl14 : Array (Option Value)} {oc14 kV14 dc14 pm14 cd14 ct14 : Value}
    (a14 : PySem.W.nsIn K mainGlobals "_law_form" = some (some (.ref f14))) (l14 : K.lookup f14 = some ⟨oc14, od14, .func (PySem.W.fnOf "_law_form" "_law_form" (defArgs s_law_form) (defBody s_law_form) (defScope s_law_form) .none kV14 dc14 pm14 an14 cd14 ct14), sl14⟩) (c14 : PySem.W.codeIn K cd14 "_law_form" = true) (k14 : PySem.W.keepIn K (.ref f14) = true)
    {f15 : Addr} {od15 an15 : Option Addr} {sl15 : Array (Option Value)} {oc15 kV15 dc15 pm15 cd15 ct15 : Value}
    (a15 : PySem.W.nsIn K mainGlobals "_law_cut" = some (some (.ref f15))) (l15 : K.lookup f15 = some ⟨oc15, od15, .func (PySem.W.fnOf "_law_cut" "_law_cut" (defArgs s_law_cut) (defBody s_law_cut) (defScope s_law_cut) .none kV15 dc15 pm15 an15 cd15 ct15), sl15⟩) (c15 : PySem.W.codeIn K cd15 "_law_cut" = true) (k15 : PySem.W.keepIn K (.ref f15) = true)
    {f16 : Addr} {od16 an16 : Option Addr} {sl16 : Array (Option Value)} {oc16 kV16 dc16 pm16 cd16 ct16 : Value}
    (a16 : PySem.W.nsIn K mainGlobals "_law_question" = some (some (.ref f16))) (l16 : K.lookup f16 = some ⟨oc16, od16, .func (PySem.W.fnOf "_law_question" "_law_question" (defArgs s_law_question) (defBody s_law_question) (defScope s_law_question) .none kV16 dc16 pm16 an16 cd16 ct16), sl16⟩) (c16 : PySem.W.codeIn K cd16 "_law_question" = true) (k16 : PySem.W.keepIn K (.ref f16) = true)
    {f17 : Addr} {od17 an17 : Option Addr} {sl17 : Array (Option Value)} {oc17 kV17 dc17 pm17 cd17 ct17 : Value}
    (a17 : PySem.W.nsIn K mainGlobals "_law_texts_fine" = some (some (.ref f17))) (l17 : K.lookup f17 = some ⟨oc17, od17, .func (PySem.W.fnOf "_law_texts_fine" "_law_texts_fine" (defArgs s_law_texts_fine) (defBody s_law_texts_fine) (defScope s_law_texts_fine) .none kV17 dc17 pm17 an17 cd17 ct17), sl17⟩) (c17 : PySem.W.codeIn K cd17 "_law_texts_fine" = true) (k17 : PySem.W.keepIn K (.ref f17) = true)
    {f18 : Addr} {od18 an18 : Option Addr} {sl18 : Array (Option Value)} {oc18 kV18 dc18 pm18 cd18 ct18 : Value}
    (a18 : PySem.W.nsIn K mainGlobals "_law_numbers_fine" = some (some (.ref f18))) (l18 : K.lookup f18 = some ⟨oc18, od18, .func (PySem.W.fnOf "_law_numbers_fine" "_law_numbers_fine" (defArgs s_law_numbers_fine) (defBody s_law_numbers_fine) (defScope s_law_numbers_fine) .none kV18 dc18 pm18 an18 cd18 ct18), sl18⟩) (c18 : PySem.W.codeIn K cd18 "_law_numbers_fine" = true) (k18 : PySem.W.keepIn K (.ref f18) = true)
    {f19 : Addr} {od19 an19 : Option Addr} {sl19 : Array (Option Value)} {oc19 kV19 dc19 pm19 cd19 ct19 : Value}
    (a19 : PySem.W.nsIn K mainGlobals "_law_constants_fine" = some (some (.ref f19))) (l19 : K.lookup f19 = some ⟨oc19, od19, .func (PySem.W.fnOf "_law_constants_fine" "_law_constants_fine" (defArgs s_law_constants_fine) (defBody s_law_constants_fine) (defScope s_law_constants_fine) .none kV19 dc19 pm19 an19 cd19 ct19), sl19⟩) (c19 : PySem.W.codeIn K cd19 "_law_constants_fine" = true) (k19 : PySem.W.keepIn K (.ref f19) = true)
    {f20 : Addr} {od20 an20 : Option Addr} {sl20 : Array (Option Value)} {oc20 kV20 dc20 pm20 cd20 ct20 : Value}
    (a20 : PySem.W.nsIn K mainGlobals "law" = some (some (.ref f20))) (l20 : K.lookup f20 = some ⟨oc20, od20, .func (PySem.W.fnOf "law" "law" (defArgs s_law) (defBody s_law) (defScope s_law) .none kV20 dc20 pm20 an20 cd20 ct20), sl20⟩) (c20 : PySem.W.codeIn K cd20 "law" = true) (k20 : PySem.W.keepIn K (.ref f20) = true)
    (z_all : PySem.W.nsIn K mainGlobals "all" = some none)
    (z_bool : PySem.W.nsIn K mainGlobals "bool" = some none)
    (z_int : PySem.W.nsIn K mainGlobals "int" = some none)
    (z_isinstance : PySem.W.nsIn K mainGlobals "isinstance" = some none)
    (z_len : PySem.W.nsIn K mainGlobals "len" = some none)
    (z_list : PySem.W.nsIn K mainGlobals "list" = some none)
    (z_max : PySem.W.nsIn K mainGlobals "max" = some none)
    (z_min : PySem.W.nsIn K mainGlobals "min" = some none)
    (z_range : PySem.W.nsIn K mainGlobals "range" = some none)
    (z_str : PySem.W.nsIn K mainGlobals "str" = some none)
    (z_tuple : PySem.W.nsIn K mainGlobals "tuple" = some none)
    {t_CLASS_LIMIT : Tok} (y_CLASS_LIMIT : PySem.W.nsIn K mainGlobals "CLASS_LIMIT" = some (some (Value.int 400 t_CLASS_LIMIT)))
    {t_KEEPER_LIMIT : Tok} (y_KEEPER_LIMIT : PySem.W.nsIn K mainGlobals "KEEPER_LIMIT" = some (some (Value.int 6 t_KEEPER_LIMIT)))
    {t_LIGHT_LIMIT : Tok} (y_LIGHT_LIMIT : PySem.W.nsIn K mainGlobals "LIGHT_LIMIT" = some (some (Value.int 4 t_LIGHT_LIMIT)))
    {t_MOST_BORDER : Tok} (y_MOST_BORDER : PySem.W.nsIn K mainGlobals "MOST_BORDER" = some (some (Value.int 3 t_MOST_BORDER)))
    {t_MOST_DEEDS : Tok} (y_MOST_DEEDS : PySem.W.nsIn K mainGlobals "MOST_DEEDS" = some (some (Value.int 200 t_MOST_DEEDS)))
    {t_MOST_DEPTH : Tok} (y_MOST_DEPTH : PySem.W.nsIn K mainGlobals "MOST_DEPTH" = some (some (Value.int 4 t_MOST_DEPTH)))
    {t_MOST_FOLK : Tok} (y_MOST_FOLK : PySem.W.nsIn K mainGlobals "MOST_FOLK" = some (some (Value.int 10 t_MOST_FOLK)))
    {t_MOST_GAP : Tok} (y_MOST_GAP : PySem.W.nsIn K mainGlobals "MOST_GAP" = some (some (Value.int 6 t_MOST_GAP)))
    {t_MOST_LINES : Tok} (y_MOST_LINES : PySem.W.nsIn K mainGlobals "MOST_LINES" = some (some (Value.int 40 t_MOST_LINES)))
    {t_MOST_NUMBER : Tok} (y_MOST_NUMBER : PySem.W.nsIn K mainGlobals "MOST_NUMBER" = some (some (Value.int 9999 t_MOST_NUMBER)))
    {t_MOST_OUTER : Tok} (y_MOST_OUTER : PySem.W.nsIn K mainGlobals "MOST_OUTER" = some (some (Value.int 7 t_MOST_OUTER)))
    {t_MOST_ROWS : Tok} (y_MOST_ROWS : PySem.W.nsIn K mainGlobals "MOST_ROWS" = some (some (Value.int 60 t_MOST_ROWS)))
    {t_MOST_SIGHTINGS : Tok} (y_MOST_SIGHTINGS : PySem.W.nsIn K mainGlobals "MOST_SIGHTINGS" = some (some (Value.int 8 t_MOST_SIGHTINGS)))
    {t_MOST_TICKS : Tok} (y_MOST_TICKS : PySem.W.nsIn K mainGlobals "MOST_TICKS" = some (some (Value.int 90 t_MOST_TICKS)))
    {t_MOST_WATCHES : Tok} (y_MOST_WATCHES : PySem.W.nsIn K mainGlobals "MOST_WATCHES" = some (some (Value.int 24 t_MOST_WATCHES)))
    {t_PIECE_FOLK : Tok} (y_PIECE_FOLK : PySem.W.nsIn K mainGlobals "PIECE_FOLK" = some (some (Value.int 9 t_PIECE_FOLK)))
    {t_PIECE_WATCHES : Tok} (y_PIECE_WATCHES : PySem.W.nsIn K mainGlobals "PIECE_WATCHES" = some (some (Value.int 21 t_PIECE_WATCHES)))
    {t_RENAME_LIMIT : Tok} (y_RENAME_LIMIT : PySem.W.nsIn K mainGlobals "RENAME_LIMIT" = some (some (Value.int 5 t_RENAME_LIMIT)))
    {t_SMALL_CLASS : Tok} (y_SMALL_CLASS : PySem.W.nsIn K mainGlobals "SMALL_CLASS" = some (some (Value.int 64 t_SMALL_CLASS)))
    {t_SUBSET_LIMIT : Tok} (y_SUBSET_LIMIT : PySem.W.nsIn K mainGlobals "SUBSET_LIMIT" = some (some (Value.int 8 t_SUBSET_LIMIT)))
    {t_LETTERS : Tok} (y_LETTERS : PySem.W.nsIn K mainGlobals "_LETTERS" = some (some (Value.str "abcdefghijklmnopqrstuvwxyz" t_LETTERS)))
    {t_LETTERS_AND_DIGITS : Tok} (y_LETTERS_AND_DIGITS : PySem.W.nsIn K mainGlobals "_LETTERS_AND_DIGITS" = some (some (Value.str "abcdefghijklmnopqrstuvwxyz0123456789" t_LETTERS_AND_DIGITS)))
    {t_LONGEST_NAME : Tok} (y_LONGEST_NAME : PySem.W.nsIn K mainGlobals "_LONGEST_NAME" = some (some (Value.int 8 t_LONGEST_NAME)))
    : ∃ fd : FuncData, (∀ (s : Shared) (v : Value), BindsTo s fd ⟨[v], []⟩ [("script", v)]) ∧ ∀ base : Heap, K.In base → base.Ns mainGlobals mg → FnOk l.prog w K mg base CX0 7 fa fd ["script"] (sp_law K) := by
  have e := hfa.symm.trans (PySem.W.mg_of X G a20)
  cases e
  have T : Txt K mg := ⟨PySem.W.mg_none_of X G z_all, PySem.W.mg_none_of X G z_bool, PySem.W.mg_none_of X G z_int, PySem.W.mg_none_of X G z_isinstance, PySem.W.mg_none_of X G z_len, PySem.W.mg_none_of X G z_list, PySem.W.mg_none_of X G z_max, PySem.W.mg_none_of X G z_min, PySem.W.mg_none_of X G z_range, PySem.W.mg_none_of X G z_str, PySem.W.mg_none_of X G z_tuple, ⟨_, PySem.W.mg_of X G y_CLASS_LIMIT, ⟨_, rfl⟩⟩, ⟨_, PySem.W.mg_of X G y_KEEPER_LIMIT, ⟨_, rfl⟩⟩, ⟨_, PySem.W.mg_of X G y_LIGHT_LIMIT, ⟨_, rfl⟩⟩, ⟨_, PySem.W.mg_of X G y_MOST_BORDER, ⟨_, rfl⟩⟩, ⟨_, PySem.W.mg_of X G y_MOST_DEEDS, ⟨_, rfl⟩⟩, ⟨_, PySem.W.mg_of X G y_MOST_DEPTH, ⟨_, rfl⟩⟩, ⟨_, PySem.W.mg_of X G y_MOST_FOLK, ⟨_, rfl⟩⟩, ⟨_, PySem.W.mg_of X G y_MOST_GAP, ⟨_, rfl⟩⟩, ⟨_, PySem.W.mg_of X G y_MOST_LINES, ⟨_, rfl⟩⟩, ⟨_, PySem.W.mg_of X G y_MOST_NUMBER, ⟨_, rfl⟩⟩, ⟨_, PySem.W.mg_of X G y_MOST_OUTER, ⟨_, rfl⟩⟩, ⟨_, PySem.W.mg_of X G y_MOST_ROWS, ⟨_, rfl⟩⟩, ⟨_, PySem.W.mg_of X G y_MOST_SIGHTINGS, ⟨_, rfl⟩⟩, ⟨_, PySem.W.mg_of X G y_MOST_TICKS, ⟨_, rfl⟩⟩, ⟨_, PySem.W.mg_of X G y_MOST_WATCHES, ⟨_, rfl⟩⟩, ⟨_, PySem.W.mg_of X G y_PIECE_FOLK, ⟨_, rfl⟩⟩, ⟨_, PySem.W.mg_of X G y_PIECE_WATCHES, ⟨_, rfl⟩⟩, ⟨_, PySem.W.mg_of X G y_RENAME_LIMIT, ⟨_, rfl⟩⟩, ⟨_, PySem.W.mg_of X G y_SMALL_CLASS, ⟨_, rfl⟩⟩, ⟨_, PySem.W.mg_of X G y_SUBSET_LIMIT, ⟨_, rfl⟩⟩, ⟨_, PySem.W.mg_of X G y_LETTERS, ⟨_, rfl⟩⟩, ⟨_, PySem.W.mg_of X G y_LETTERS_AND_DIGITS, ⟨_, rfl⟩⟩, ⟨_, PySem.W.mg_of X G y_LONGEST_NAME, ⟨_, rfl⟩⟩⟩
  have F0 := fun_mk (st := s_is_name) l0 c0 k0
  have b0 := F0.binds (ps := p_is_name) fun _ _ _ _ _ _ us hl => match us, hl with | [_], _ => rfl
  have D_is_name : Dn K mg "is_name" s_is_name p_is_name _ _ := ⟨F0, b0, PySem.W.mg_of X G a0⟩
  have F1 := fun_mk (st := s_is_number) l1 c1 k1
  have b1 := F1.binds (ps := p_is_number) fun _ _ _ _ _ _ us hl => match us, hl with | [_, _, _], _ => rfl
  have D_is_number : Dn K mg "is_number" s_is_number p_is_number _ _ := ⟨F1, b1, PySem.W.mg_of X G a1⟩
  have F2 := fun_mk (st := s_law_store) l2 c2 k2
  have b2 := F2.binds (ps := p_law_store) fun _ _ _ _ _ _ us hl => match us, hl with | [_], _ => rfl
  have D_law_store : Dn K mg "_law_store" s_law_store p_law_store _ _ := ⟨F2, b2, PySem.W.mg_of X G a2⟩
  have F3 := fun_mk (st := s_law_next) l3 c3 k3
  have b3 := F3.binds (ps := p_law_next) fun _ _ _ _ _ _ us hl => match us, hl with | [_], _ => rfl
  have D_law_next : Dn K mg "_law_next" s_law_next p_law_next _ _ := ⟨F3, b3, PySem.W.mg_of X G a3⟩
  have F4 := fun_mk (st := s_law_raw) l4 c4 k4
  have b4 := F4.binds (ps := p_law_raw) fun _ _ _ _ _ _ us hl => match us, hl with | [_], _ => rfl
  have D_law_raw : Dn K mg "_law_raw" s_law_raw p_law_raw _ _ := ⟨F4, b4, PySem.W.mg_of X G a4⟩
  have F5 := fun_mk (st := s_law_take) l5 c5 k5
  have b5 := F5.binds (ps := p_law_take) fun _ _ _ _ _ _ us hl => match us, hl with | [_, _], _ => rfl
  have D_law_take : Dn K mg "_law_take" s_law_take p_law_take _ _ := ⟨F5, b5, PySem.W.mg_of X G a5⟩
  have F6 := fun_mk (st := s_law_some) l6 c6 k6
  have b6 := F6.binds (ps := p_law_some) fun _ _ _ _ _ _ us hl => match us, hl with | [_, _, _], _ => rfl
  have D_law_some : Dn K mg "_law_some" s_law_some p_law_some _ _ := ⟨F6, b6, PySem.W.mg_of X G a6⟩
  have F7 := fun_mk (st := s_law_number) l7 c7 k7
  have b7 := F7.binds (ps := p_law_number) fun _ _ _ _ _ _ us hl => match us, hl with | [_], _ => rfl
  have D_law_number : Dn K mg "_law_number" s_law_number p_law_number _ _ := ⟨F7, b7, PySem.W.mg_of X G a7⟩
  have F8 := fun_mk (st := s_law_pick) l8 c8 k8
  have b8 := F8.binds (ps := p_law_pick) fun _ _ _ _ _ _ us hl => match us, hl with | [_, _], _ => rfl
  have D_law_pick : Dn K mg "_law_pick" s_law_pick p_law_pick _ _ := ⟨F8, b8, PySem.W.mg_of X G a8⟩
  have F9 := fun_mk (st := s_law_same) l9 c9 k9
  have b9 := F9.binds (ps := p_law_same) fun _ _ _ _ _ _ us hl => match us, hl with | [_, _], _ => rfl
  have D_law_same : Dn K mg "_law_same" s_law_same p_law_same _ _ := ⟨F9, b9, PySem.W.mg_of X G a9⟩
  have F10 := fun_mk (st := s_law_name) l10 c10 k10
  have b10 := F10.binds (ps := p_law_name) fun _ _ _ _ _ _ us hl => match us, hl with | [_], _ => rfl
  have D_law_name : Dn K mg "_law_name" s_law_name p_law_name _ _ := ⟨F10, b10, PySem.W.mg_of X G a10⟩
  have F11 := fun_mk (st := s_law_bad_name) l11 c11 k11
  have b11 := F11.binds (ps := p_law_bad_name) fun _ _ _ _ _ _ us hl => match us, hl with | [_], _ => rfl
  have D_law_bad_name : Dn K mg "_law_bad_name" s_law_bad_name p_law_bad_name _ _ := ⟨F11, b11, PySem.W.mg_of X G a11⟩
  have F12 := fun_mk (st := s_law_text) l12 c12 k12
  have b12 := F12.binds (ps := p_law_text) fun _ _ _ _ _ _ us hl => match us, hl with | [_], _ => rfl
  have D_law_text : Dn K mg "_law_text" s_law_text p_law_text _ _ := ⟨F12, b12, PySem.W.mg_of X G a12⟩
  have F13 := fun_mk (st := s_law_near) l13 c13 k13
  have b13 := F13.binds (ps := p_law_near) fun _ _ _ _ _ _ us hl => match us, hl with | [_], _ => rfl
  have D_law_near : Dn K mg "_law_near" s_law_near p_law_near _ _ := ⟨F13, b13, PySem.W.mg_of X G a13⟩
  have F14 := fun_mk (st := s_law_form) l14 c14 k14
  have b14 := F14.binds (ps := p_law_form) fun _ _ _ _ _ _ us hl => match us, hl with | [_], _ => rfl
  have D_law_form : Dn K mg "_law_form" s_law_form p_law_form _ _ := ⟨F14, b14, PySem.W.mg_of X G a14⟩
  have F15 := fun_mk (st := s_law_cut) l15 c15 k15
  have b15 := F15.binds (ps := p_law_cut) fun _ _ _ _ _ _ us hl => match us, hl with | [_], _ => rfl
  have D_law_cut : Dn K mg "_law_cut" s_law_cut p_law_cut _ _ := ⟨F15, b15, PySem.W.mg_of X G a15⟩
  have F16 := fun_mk (st := s_law_question) l16 c16 k16
  have b16 := F16.binds (ps := p_law_question) fun _ _ _ _ _ _ us hl => match us, hl with | [_], _ => rfl
  have D_law_question : Dn K mg "_law_question" s_law_question p_law_question _ _ := ⟨F16, b16, PySem.W.mg_of X G a16⟩
  have F17 := fun_mk (st := s_law_texts_fine) l17 c17 k17
  have b17 := F17.binds (ps := p_law_texts_fine) fun _ _ _ _ _ _ us hl => match us, hl with | [_], _ => rfl
  have D_law_texts_fine : Dn K mg "_law_texts_fine" s_law_texts_fine p_law_texts_fine _ _ := ⟨F17, b17, PySem.W.mg_of X G a17⟩
  have F18 := fun_mk (st := s_law_numbers_fine) l18 c18 k18
  have b18 := F18.binds (ps := p_law_numbers_fine) fun _ _ _ _ _ _ us hl => match us, hl with | [_], _ => rfl
  have D_law_numbers_fine : Dn K mg "_law_numbers_fine" s_law_numbers_fine p_law_numbers_fine _ _ := ⟨F18, b18, PySem.W.mg_of X G a18⟩
  have F19 := fun_mk (st := s_law_constants_fine) l19 c19 k19
  have b19 := F19.binds (ps := p_law_constants_fine) fun _ _ _ _ _ _ us hl => match us, hl with | [], _ => rfl
  have D_law_constants_fine : Dn K mg "_law_constants_fine" s_law_constants_fine p_law_constants_fine _ _ := ⟨F19, b19, PySem.W.mg_of X G a19⟩
  have F20 := fun_mk (st := s_law) l20 c20 k20
  have b20 := F20.binds (ps := p_law) fun _ _ _ _ _ _ us hl => match us, hl with | [_], _ => rfl
  have D_law : Dn K mg "law" s_law p_law _ _ := ⟨F20, b20, PySem.W.mg_of X G a20⟩
  refine ⟨PySem.W.fnOf "law" "law" (defArgs s_law) (defBody s_law) (defScope s_law) .none kV20 dc20 pm20 an20 cd20 ct20, fun s v => .of_eq rfl, fun base _ _ => ?_⟩
  have G_law_store := ok_law_store (P := l.prog) (w := w) (base := base) T D_law_store
  have G_law_next := ok_law_next (P := l.prog) (w := w) (base := base) T D_law_next
  have G_law_raw := ok_law_raw (P := l.prog) (w := w) (base := base) T D_law_raw
  have G_law_take := ok_law_take (P := l.prog) (w := w) (base := base) D_law_next G_law_next D_law_raw G_law_raw T D_law_take
  have G_law_some := ok_law_some (P := l.prog) (w := w) (base := base) D_law_take G_law_take T D_law_some
  have G_law_pick := ok_law_pick (P := l.prog) (w := w) (base := base) D_law_take G_law_take T D_law_pick
  have G_law_name := ok_law_name (P := l.prog) (w := w) (base := base) D_law_take G_law_take D_law_pick G_law_pick D_law_some G_law_some T D_law_name
  have G_law_bad_name := ok_law_bad_name (P := l.prog) (w := w) (base := base) D_law_name G_law_name D_law_take G_law_take D_law_some G_law_some T D_law_bad_name
  have G_law_text := ok_law_text (P := l.prog) (w := w) (base := base) D_law_take G_law_take D_law_some G_law_some D_law_name G_law_name D_law_bad_name G_law_bad_name D_law_pick G_law_pick T D_law_text
  have G_law_form := ok_law_form (P := l.prog) (w := w) (base := base) T D_law_form
  have G_law_number := ok_law_number (P := l.prog) (w := w) (base := base) D_law_take G_law_take T D_law_number
  have G_law_cut := ok_law_cut (P := l.prog) (w := w) (base := base) T D_law_cut
  have G_law_question := ok_law_question (P := l.prog) (w := w) (base := base) D_law_number G_law_number D_law_take G_law_take D_law_cut G_law_cut D_law_pick G_law_pick T D_law_question
  have G_law_same := ok_law_same (P := l.prog) (w := w) (base := base) T D_law_same
  have G_is_name := ok_is_name (P := l.prog) (w := w) (base := base) T D_is_name
  have G_law_texts_fine := ok_law_texts_fine (P := l.prog) (w := w) (base := base) D_law_same G_law_same D_is_name G_is_name D_law_form G_law_form T D_law_texts_fine
  have G_is_number := ok_is_number (P := l.prog) (w := w) (base := base) T D_is_number
  have G_law_numbers_fine := ok_law_numbers_fine (P := l.prog) (w := w) (base := base) D_law_same G_law_same D_is_number G_is_number T D_law_numbers_fine
  have G_law_constants_fine := ok_law_constants_fine (P := l.prog) (w := w) (base := base) D_law_same G_law_same T D_law_constants_fine
  have G_law_near := ok_law_near (P := l.prog) (w := w) (base := base) T D_law_near
  exact ok_law D_law_store G_law_store D_law_text G_law_text D_law_form G_law_form D_law_question G_law_question D_law_texts_fine G_law_texts_fine D_law_numbers_fine G_law_numbers_fine D_law_constants_fine G_law_constants_fine D_law_near G_law_near T D_law
theorem walk {l : PySem.W.OpenLaw} {q : Program} {loose : List Str} {XP : (Str → Option Value) → Heap → Prop} {YP : World → Heap → Prop} {d : DefRec} {K : Params → PySem.W.Frag} (hn : l.most = some 63) (hdf : d.params.defaults = [])
    (hY : ∀ (w : World) (h : Heap), YP w h → (K w.params).In h)
    (F : ∀ (w : World) (mg : Str → Option Value) (fa : Addr) (h : Heap), (K w.params).In h → h.Ns mainGlobals mg → mg d.name = some (.ref fa) →
      ∃ fd : FuncData, (∀ (s : Shared) (u : Value), BindsTo s fd ⟨[u], []⟩ [("script", u)]) ∧ ∀ base : Heap, (K w.params).In base → base.Ns mainGlobals mg → FnOk l.prog w (K w.params) mg base CX0 7 fa fd ["script"] (sp_law (K w.params))) :
    PySem.W.WalkO q loose XP YP l.row.toRowW d [] (fun f vs => PySem.call f vs) :=
  L2.walk_of (n := 63) (k := 7) (x := "script") (CX := fun _ => CX0) (sp := fun w => sp_law (K w.params)) hn (by decide) hdf ⟨rfl, by decide, by decide⟩ hY F (fun _ _ a ns hl _ hS => ⟨a, ns, rfl, hS, hl, fun _ => rfl⟩) fun _ _ _ _ _ z => z
end
end My
open PySem PySem.W PyProof.Rows
set_option maxRecDepth 100000 in
set_option maxHeartbeats 0 in
theorem PySem.Challenge.cw_drowsefolk_k00_names_and_numbers_holds : PySem.Challenge.rw_drowsefolk_k00_names_and_numbers.Holds := by
  w_on; o_law; k_head; (case hw => w_witness2)
  k_fill
  refine My.walk (l := PySem.Challenge.rw_drowsefolk_k00_names_and_numbers) rfl rfl (fun w h Y => PySem.W.kIn_of Y) ?F
  case F =>
    intro w mg fa h KX G hmg
    refine' My.all_mk KX G hmg ?a0 ?l0 ?c0 ?k0 ?a1 ?l1 ?c1 ?k1 ?a2 ?l2 ?c2 ?k2 ?a3 ?l3 ?c3 ?k3 ?a4 ?l4 ?c4 ?k4 ?a5 ?l5 ?c5 ?k5 ?a6 ?l6 ?c6 ?k6 ?a7 ?l7 ?c7 ?k7 ?a8 ?l8 ?c8 ?k8 ?a9 ?l9 ?c9 ?k9 ?a10 ?l10 ?c10 ?k10 ?a11 ?l11 ?c11 ?k11 ?a12 ?l12 ?c12 ?k12 ?a13 ?l13 ?c13 ?k13 ?a14 ?l14 ?c14 ?k14 ?a15 ?l15 ?c15 ?k15 ?a16 ?l16 ?c16 ?k16 ?a17 ?l17 ?c17 ?k17 ?a18 ?l18 ?c18 ?k18 ?a19 ?l19 ?c19 ?k19 ?a20 ?l20 ?c20 ?k20 ?z_all ?z_bool ?z_int ?z_isinstance ?z_len ?z_list ?z_max ?z_min ?z_range ?z_str ?z_tuple ?y_CLASS_LIMIT ?y_KEEPER_LIMIT ?y_LIGHT_LIMIT ?y_MOST_BORDER ?y_MOST_DEEDS ?y_MOST_DEPTH ?y_MOST_FOLK ?y_MOST_GAP ?y_MOST_LINES ?y_MOST_NUMBER ?y_MOST_OUTER ?y_MOST_ROWS ?y_MOST_SIGHTINGS ?y_MOST_TICKS ?y_MOST_WATCHES ?y_PIECE_FOLK ?y_PIECE_WATCHES ?y_RENAME_LIMIT ?y_SMALL_CLASS ?y_SUBSET_LIMIT ?y_LETTERS ?y_LETTERS_AND_DIGITS ?y_LONGEST_NAME
    (case a0 => k_is); (case l0 => k_is); (case c0 => k_is); (case k0 => k_is); (case a1 => k_is); (case l1 => k_is)
    (case c1 => k_is); (case k1 => k_is); (case a2 => k_is); (case l2 => k_is); (case c2 => k_is); (case k2 => k_is)
    (case a3 => k_is); (case l3 => k_is); (case c3 => k_is); (case k3 => k_is); (case a4 => k_is); (case l4 => k_is)
    (case c4 => k_is); (case k4 => k_is); (case a5 => k_is); (case l5 => k_is); (case c5 => k_is); (case k5 => k_is)
    (case a6 => k_is); (case l6 => k_is); (case c6 => k_is); (case k6 => k_is); (case a7 => k_is); (case l7 => k_is)
    (case c7 => k_is); (case k7 => k_is); (case a8 => k_is); (case l8 => k_is); (case c8 => k_is); (case k8 => k_is)
    (case a9 => k_is); (case l9 => k_is); (case c9 => k_is); (case k9 => k_is); (case a10 => k_is); (case l10 => k_is)
    (case c10 => k_is); (case k10 => k_is); (case a11 => k_is); (case l11 => k_is); (case c11 => k_is); (case k11 => k_is)
    (case a12 => k_is); (case l12 => k_is); (case c12 => k_is); (case k12 => k_is); (case a13 => k_is); (case l13 => k_is)
    (case c13 => k_is); (case k13 => k_is); (case a14 => k_is); (case l14 => k_is); (case c14 => k_is); (case k14 => k_is)
    (case a15 => k_is); (case l15 => k_is); (case c15 => k_is); (case k15 => k_is); (case a16 => k_is); (case l16 => k_is)
    (case c16 => k_is); (case k16 => k_is); (case a17 => k_is); (case l17 => k_is); (case c17 => k_is); (case k17 => k_is)
    (case a18 => k_is); (case l18 => k_is); (case c18 => k_is); (case k18 => k_is); (case a19 => k_is); (case l19 => k_is)
    (case c19 => k_is); (case k19 => k_is); (case a20 => k_is); (case l20 => k_is); (case c20 => k_is); (case k20 => k_is)
    (case z_all => k_is); (case z_bool => k_is); (case z_int => k_is); (case z_isinstance => k_is); (case z_len => k_is); (case z_list => k_is)
    (case z_max => k_is); (case z_min => k_is); (case z_range => k_is); (case z_str => k_is); (case z_tuple => k_is); (case y_CLASS_LIMIT => k_is)
    (case y_KEEPER_LIMIT => k_is); (case y_LIGHT_LIMIT => k_is); (case y_MOST_BORDER => k_is); (case y_MOST_DEEDS => k_is); (case y_MOST_DEPTH => k_is); (case y_MOST_FOLK => k_is)
    (case y_MOST_GAP => k_is); (case y_MOST_LINES => k_is); (case y_MOST_NUMBER => k_is); (case y_MOST_OUTER => k_is); (case y_MOST_ROWS => k_is); (case y_MOST_SIGHTINGS => k_is)
    (case y_MOST_TICKS => k_is); (case y_MOST_WATCHES => k_is); (case y_PIECE_FOLK => k_is); (case y_PIECE_WATCHES => k_is); (case y_RENAME_LIMIT => k_is); (case y_SMALL_CLASS => k_is)
    (case y_SUBSET_LIMIT => k_is); (case y_LETTERS => k_is); (case y_LETTERS_AND_DIGITS => k_is); (case y_LONGEST_NAME => k_is)
