import PyProof.Rows.All
import Wide.All
import OpenK.AllK
import Wide.FinOn
import HandS.ForMost
import HandS.Wide
import HandS.IsInst
import HandS.Codes
import HandS.SortInts
import HandS.Defaults
import HandS.Style
import PyProof.EnumMake
import HandS.Zip
import HandS.Conv
import HandS.TupAny
import HandS.Walk
import PySem.Challenge.RW_drawnlayers_k37_balanced_and_worth
set_option Elab.async false
set_option linter.all false
set_option maxRecDepth 100000
set_option maxHeartbeats 4000000
--! ROW drawnlayers_k37_balanced_and_worth
--! NS K37
--! is_balanced eqD:_net_forces(count,pulls,pull_forces)==_net_forces(count,bounds,bound_forces) yes
--! is_balanced iter:bound_forces tup
--! _law_even iter:loads[1] list
--! _law_ring_added cut1 yes
--! _law_loaded iter:system[1][:30] tup
--! _law_loaded iter:system[2][:30] tup
--! _law_loaded sl:system[1][:30] tup
--! _law_loaded sl:system[2][:30] tup
--! _law_any_system cut1 yes
--! _law_any_system cut3 yes
--! law cut1 yes
--! law iter:system[1] tup
--! law iter:system[2] tup
--! NS K37
namespace D0
open PySem PySem.Spec PyProof.Rows L2
/-! ### operators by the shape of the values -/
def rAddD (K : PySem.W.Frag) : R2 := fun x y H Q => rI0 (fun i j => .int (i + j)) x y H Q ∨ (∃ i j, x = .str i ∧ y = .str j ∧ i.length + j.length ≤ sizeLine ∧ Q (.str (i ++ j)) H) ∨ rCat x y H Q ∨ rCatT K x y H Q
def rMulD : R2 := fun x y H Q => rI CMul (fun i j => .int (i * j)) x y H Q ∨ rRep x y H Q
def rLtD : R2 := rI0 fun i j => .bl (decide (i < j))
def rLeD : R2 := rI0 fun i j => .bl (decide (i ≤ j))
def rGtD : R2 := rI0 fun i j => .bl (decide (j < i))
def rGeD : R2 := rI0 fun i j => .bl (decide (j ≤ i))
def rSubD : R2 := rI0 fun i j => .int (i - j)
def rModD : R2 := rI (fun _ j => j ≠ 0) fun i j => .int (i.fmod j)
def rDivD : R2 := rI CDivW fun i j => .int (i / j)
def rPowD : R2 := rI CPow fun i j => .int (i ^ j.toNat)
def rStrIn (neg : Bool) : R2 := fun x y H Q => ∃ (c : Nat) (z : Str), x = .str ⟨#[c]⟩ ∧ y = .str z ∧ Q (.bl (if neg then !decide (c ∈ z.cps.toList) else decide (c ∈ z.cps.toList))) H
def rInD (K : PySem.W.Frag) (neg : Bool) : R2 := fun x y H Q => rIn K neg x y H Q ∨ rStrIn neg x y H Q
def rIxD (K : PySem.W.Frag) : R2 := fun x y H Q => rIxL K x y H Q ∨ rIxT K x y H Q ∨ rIxS x y H Q
def rIntD : List V → Hp → VK → Prop := fun xs H Q => (∃ i, xs = [.int i] ∧ Q (.int i) H) ∨ ∃ k, xs = [.bl k] ∧ Q (.int (if k then 1 else 0)) H
def rLenD (K : PySem.W.Frag) : List V → Hp → VK → Prop := fun xs H Q => ∃ x n, xs = [x] ∧ LenV K x H n ∧ Q (.int n) H
def rAbsD : List V → Hp → VK → Prop := fun xs H Q => ∃ i, xs = [.int i] ∧ Q (.int (if i < 0 then -i else i)) H
def rMax2D : List V → Hp → VK → Prop := fun xs H Q => ∃ i j, xs = [.int i, .int j] ∧ Q (.int (if j > i then j else i)) H
def rMin2D : List V → Hp → VK → Prop := fun xs H Q => ∃ i j, xs = [.int i, .int j] ∧ Q (.int (if j < i then j else i)) H
def rOrdD : List V → Hp → VK → Prop := fun xs H Q => ∃ x, xs = [.str x] ∧ x.length = 1 ∧ Q (.int (x.cps.getD 0 0 : Nat)) H
section
variable {X : Cx} (K : PySem.W.Frag)
theorem dAdd (hK : X.K = K := by rfl) : OpR X (binaryOp .Add) (rAddD K) := by subst hK; exact op_add.or (op_add_str.or (op_cat.or op_catT))
theorem dSub : OpR X (binaryOp .Sub) rSubD := op_sub
theorem dMul : OpR X (binaryOp .Mult) rMulD := op_mul.or op_rep
theorem dMod : OpR X (binaryOp .Mod) rModD := op_modN
theorem dDiv : OpR X (binaryOp .FloorDiv) rDivD := op_fdivW
theorem dPow : OpR X (binaryOp .Pow) rPowD := op_pow
theorem dLt : OpR X (compareOp .Lt) rLtD := op_lt
theorem dLe : OpR X (compareOp .LtE) rLeD := op_le
theorem dGt : OpR X (compareOp .Gt) rGtD := op_gt
theorem dGe : OpR X (compareOp .GtE) rGeD := op_ge
theorem dEq : OpR X (compareOp .Eq) rEq := op_eq
theorem dNe : OpR X (compareOp .NotEq) rNe := op_ne
theorem dIn (hK : X.K = K := by rfl) : OpR X (compareOp .In) (rInD K false) := by subst hK; exact op_in_seq.or op_in_sign
theorem dNin (hK : X.K = K := by rfl) : OpR X (compareOp .NotIn) (rInD K true) := by subst hK; exact op_notIn_seq.or op_notIn_sign
theorem dIx (hK : X.K = K := by rfl) : IxR X (rIxD K) := by subst hK; exact ix_list.or (ix_tup.or ix_str)
theorem dInt : CallR X (.type "int") rIntD := call_int1
theorem dLen (hK : X.K = K := by rfl) : CallR X (.builtin "len") (rLenD K) := by subst hK; exact call_len
theorem dAbs : CallR X (.builtin "abs") rAbsD := call_abs
theorem dMax2 (hc : X.calm = true) : CallR X (.builtin "max") rMax2D := call_max2 hc
theorem dMin2 (hc : X.calm = true) : CallR X (.builtin "min") rMin2D := call_min2 hc
theorem dOrd : CallR X (.builtin "ord") rOrdD := call_ord
theorem dSum (hc : X.calm = true) (hK : X.K = K := by rfl) : CallR X (.builtin "sum") (rSum K) := by subst hK; exact cr_sum hc
theorem dAll (hc : X.calm = true) (hK : X.K = K := by rfl) : CallR X (.builtin "all") (rAll K) := by subst hK; exact cr_all hc
theorem dAny (hc : X.calm = true) (hK : X.K = K := by rfl) : CallR X (.builtin "any") (rAny K) := by subst hK; exact cr_any hc
theorem dMax1 (hc : X.calm = true) (hK : X.K = K := by rfl) : CallR X (.builtin "max") (rMax K) := by subst hK; exact cr_max hc
theorem dMin1 (hc : X.calm = true) (hK : X.K = K := by rfl) : CallR X (.builtin "min") (rMin K) := by subst hK; exact cr_min hc
theorem dIsi (hK : X.K = K := by rfl) : CallR X (.builtin "isinstance") (rIsi K) := by subst hK; exact call_isi
theorem dpi_list {tg l : Expr} {tl : TE} (hl : PE X l tl) (hK : X.K = K := by rfl) : PI X tg l (iList K tl) := by subst hK; exact pi_list hl
theorem dpi_tup {tg l : Expr} {tl : TE} (hl : PE X l tl) (hK : X.K = K := by rfl) : PI X tg l (iTup K tl) := by subst hK; exact pi_tup hl
theorem dpg_tup {es : List Expr} {k : Nat} {t : TGs} {n : Nat} {pos : Pos} (hc : X.calm = true) (h : PGs X es t) (hK : X.K = K := by rfl)
    (hn : (assignEach es X.env).length = n := by rfl) (hst : (assignEach es X.env).findIdx? (·.1) = none := by rfl) : PG X (.Tuple es k pos) (gTup K n t) := by subst hK; exact pg_tup hc h hn hst
def rSlD : V → Option Int → Option Int → Hp → VK → Prop := fun x lo hi H Q => rSlL K x lo hi H Q ∨ rSlS x lo hi H Q
theorem SlRor {r r' : V → Option Int → Option Int → Hp → VK → Prop} (h : SlR X r) (h' : SlR X r') : SlR X (fun x lo hi H Q => r x lo hi H Q ∨ r' x lo hi H Q) := by
  intro pins s σ H x v vl vu lo hi sl Q I rx hs pl pu q
  rcases q with q | q
  · exact h pins s σ H x v vl vu lo hi sl Q I rx hs pl pu q
  · exact h' pins s σ H x v vl vu lo hi sl Q I rx hs pl pu q
theorem dSl (hK : X.K = K := by rfl) : SlR X (rSlD K) := by subst hK; exact SlRor sl_list sl_str
end
/-! ### the reading, head by head -/
section
variable {K : PySem.W.Frag} {σ : L2.St} {H : Hp} {Q : VK} {D : Ends} {ta tb tc te : TE} {t u : TT} {tr : TA} {v x y : V} {g : TG}
theorem rd_var {i : Nat} (h : σ[i]? = some (some v)) (q : Q v H) : tVar i σ H Q := ⟨v, h, q⟩
theorem rd_c (q : Q v H) : tC v σ H Q := q
theorem rd_op {r : R2} (q : ta σ H fun x H1 => tb σ H1 fun y H2 => r x y H2 Q) : tOp r ta tb σ H Q := q
theorem rd_un {r : V → Hp → VK → Prop} (q : ta σ H fun x H1 => r x H1 Q) : tUn r ta σ H Q := q
theorem rd_cb {r : List V → Hp → VK → Prop} (q : tr σ H fun vs H1 => r vs H1 Q) : tCB r tr σ H Q := q
theorem rd_cons {Q : List V → Hp → Prop} (q : ta σ H fun x H1 => tr σ H1 fun xs H2 => Q (x :: xs) H2) : tCons ta tr σ H Q := q
theorem rd_nil {Q : List V → Hp → Prop} (q : Q [] H) : tNil σ H Q := q
theorem rd_test {Q : Bool → Hp → Prop} (q : te σ H fun x H' => ∃ k, x = .bl k ∧ Q k H') : tTest te σ H Q := q
theorem rd_B {Q : Bool → Hp → Prop} (q : te σ H fun x H' => ∃ k, x = .bl k ∧ Q k H') : tB te σ H Q := q
theorem rd_bl {c : Bool} {P : Bool → Prop} (q : P c) : ∃ k, V.bl c = V.bl k ∧ P k := ⟨c, rfl, q⟩
theorem rd_and {Q : Bool → Hp → Prop} (q : t σ H fun c H1 => if c = true then u σ H1 Q else Q false H1) : tAnd t u σ H Q := q
theorem rd_or {Q : Bool → Hp → Prop} (q : t σ H fun c H1 => if c = true then Q true H1 else u σ H1 Q) : tOr t u σ H Q := q
theorem rd_not {Q : Bool → Hp → Prop} (q : t σ H fun c H1 => Q (!c) H1) : tNot t σ H Q := q
theorem rd_andV (q : ta σ H fun x H1 => ∃ c, x = .bl c ∧ if c = true then tb σ H1 Q else Q (.bl false) H1) : tAndV ta tb σ H Q := q
theorem rd_orV (q : ta σ H fun x H1 => ∃ c, x = .bl c ∧ if c = true then Q (.bl true) H1 else tb σ H1 Q) : tOrV ta tb σ H Q := q
theorem rd_notV (q : ta σ H fun x H1 => ∃ c, x = .bl c ∧ Q (.bl (!c)) H1) : tNotV ta σ H Q := q
theorem rd_ifE (q : t σ H fun c H1 => if c = true then ta σ H1 Q else tb σ H1 Q) : tIf t ta tb σ H Q := q
theorem rd_chain {r r' : R2} (q : ta σ H fun x H1 => tb σ H1 fun y H2 => r x y H2 fun z H3 => ∃ k, z = .bl k ∧ if k = true then (tc σ H3 fun a H4 => r' y a H4 Q) else Q (.bl false) H3) : tChain r r' ta tb tc σ H Q := q
theorem rd_seq {s1 s2 : TS} (q : s1 { D with nx := s2 D } σ H) : tSeq s1 s2 D σ H := q
theorem rd_next (q : D.nx σ H) : tNext D σ H := q
theorem rd_if {s1 s2 : TS} (q : t σ H fun b H1 => if b = true then s1 D σ H1 else s2 D σ H1) : tIfS t s1 s2 D σ H := q
theorem rd_asg (q : te σ H fun x H1 => g x σ H1 D.nx) : tAsg te g D σ H := q
theorem rd_gname {i : Nat} {Q : L2.St → Hp → Prop} (q : Q (σ.set i (some v)) H) : gName i v σ H Q := q
theorem rd_gsub {ti to : TE} {ts : TSet} {Q : L2.St → Hp → Prop} (q : to σ H fun o H1 => ti σ H1 fun i H2 => ts o i v H2 fun H3 => Q σ H3) : gSub to ti ts v σ H Q := q
theorem rd_drop (q : te σ H fun _ H1 => D.nx σ H1) : tDrop te D σ H := q
theorem rd_ret (q : te σ H D.rt) : tRet te D σ H := q
theorem rd_retN (q : D.rt .non H) : tRetN D σ H := q
theorem rd_brk (q : D.bk σ H) : tBreak D σ H := q
theorem rd_cnt (q : D.ct σ H) : tCont D σ H := q
theorem rd_tup {tr : TA} (q : tr σ H fun xs H1 => xs.length ≤ sizeLine ∧ ∀ p, H1 p = none → Q (.ref p) (upd H1 p (.tup xs))) : tTup tr σ H Q := q
theorem rd_lst {tr : TA} (q : tr σ H fun xs H1 => xs.length ≤ sizeLine ∧ ∀ p, H1 p = none → Q (.ref p) (upd H1 p (.lst xs))) : tLst tr σ H Q := q
theorem rd_BM {T : String} {r : V → List V → Hp → VK → Prop} (q : te σ H fun x H1 => tyV K T x H1 ∧ tr σ H1 fun vs H2 => r x vs H2 Q) : tBM K T r te tr σ H Q := q
theorem rd_M1 {r : V → List V → Hp → VK → Prop} (q : ta σ H fun x H1 => (∃ a, x = .str a) ∧ tb σ H1 fun y H2 => r x [y] H2 Q) : tM1 r ta tb σ H Q := q
theorem rd_M0 {r : V → List V → Hp → VK → Prop} (q : ta σ H fun x H1 => (∃ a, x = .str a) ∧ r x [] H1 Q) : tM0 r ta σ H Q := q
theorem rd_isS {a : Str} {P : Prop} (q : P) : (∃ b, V.str a = V.str b) ∧ P := ⟨⟨a, rfl⟩, q⟩
theorem rd_call {sp : Sp} {dvs : List V} {E : XK} (q : tr σ H fun vs H1 => sp (vs ++ dvs) H1 Q E) : tCall sp dvs E tr σ H Q := q
theorem rd_andB {b b' : Bool} (hb : ∀ Qe : VK, Qe (.bl b') H → tb σ H Qe) (q : Q (.bl (b && b')) H) : ∃ c, V.bl b = .bl c ∧ if c = true then tb σ H Q else Q (.bl false) H := by
  refine ⟨b, rfl, ?_⟩
  cases b
  · exact iteF q
  · exact iteT (hb _ q)
theorem rd_orB {b b' : Bool} (hb : ∀ Qe : VK, Qe (.bl b') H → tb σ H Qe) (q : Q (.bl (b || b')) H) : ∃ c, V.bl b = .bl c ∧ if c = true then Q (.bl true) H else tb σ H Q := by
  refine ⟨b, rfl, ?_⟩
  cases b
  · exact iteF (hb _ q)
  · exact iteT q
theorem rd_tyL {a : Addr} {xs : List V} {P : Prop} (h : SqL K H a xs) (q : P) : tyV K "list" (.ref a) H ∧ P := ⟨.inl ⟨rfl, _, h⟩, q⟩
theorem rd_tyS {z : Str} {P : Prop} (q : P) : tyV K "str" (.str z) H ∧ P := ⟨rfl, q⟩
theorem rd_gtup {n : Nat} {ts : TGs} {a : Addr} {xs : List V} {Q : L2.St → Hp → Prop} (h : SqT K H a xs) (hn : xs.length = n) (q : ts xs σ H Q) : gTup K n ts (.ref a) σ H Q := ⟨a, xs, rfl, h, hn, q⟩
theorem rd_gcons {ts : TGs} {vs : List V} {Q : L2.St → Hp → Prop} (q : g v σ H fun σ' H' => ts vs σ' H' Q) : gCons g ts (v :: vs) σ H Q := ⟨v, vs, rfl, q⟩
theorem rd_gnil {Q : L2.St → Hp → Prop} (q : Q σ H) : gNil [] σ H Q := ⟨rfl, q⟩
theorem rd_sl {r : V → Option Int → Option Int → Hp → VK → Prop} {tl th : TO} (q : te σ H fun x H1 => tl σ H1 fun l H2 => th σ H2 fun u H3 => r x l u H3 Q) : tSl r te tl th σ H Q := q
theorem rd_nopart {Q : Option Int → Hp → Prop} (q : Q none H) : tNoPart σ H Q := q
theorem rd_part {Q : Option Int → Hp → Prop} (q : te σ H fun x H1 => ∃ i, x = .int i ∧ Q (some i) H1) : tPart te σ H Q := q
theorem rd_ii {i : Int} {P : Int → Prop} (q : P i) : ∃ k, V.int i = V.int k ∧ P k := ⟨i, rfl, q⟩
-- values
theorem rv_addI {i j : Int} (q : Q (.int (i + j)) H) : rAddD K (.int i) (.int j) H Q := .inl ⟨i, j, rfl, rfl, q⟩
theorem rv_addS {i j : Str} (h : i.length + j.length ≤ sizeLine) (q : Q (.str (i ++ j)) H) : rAddD K (.str i) (.str j) H Q := .inr (.inl ⟨i, j, rfl, rfl, h, q⟩)
theorem rv_addL {a b : Addr} {xs ys : List V} (ha : H a = some (.lst xs)) (hb : H b = some (.lst ys)) (h : xs.length + ys.length ≤ sizeLine) (q : ∀ p, H p = none → Q (.ref p) (upd H p (.lst (xs ++ ys)))) : rAddD K (.ref a) (.ref b) H Q := .inr (.inr (.inl ⟨a, b, xs, ys, rfl, rfl, ha, hb, h, q⟩))
theorem rv_sub {i j : Int} (q : Q (.int (i - j)) H) : rSubD (.int i) (.int j) H Q := ⟨i, j, rfl, rfl, q⟩
theorem rv_mulI {i j : Int} (c : CMul i j) (q : Q (.int (i * j)) H) : rMulD (.int i) (.int j) H Q := .inl ⟨i, j, rfl, rfl, c, q⟩
theorem rv_rep {l : Addr} {k : Int} {xs : List V} (h : H l = some (.lst xs)) (c : -(2 ^ 63) ≤ k ∧ k < 2 ^ 63 ∧ xs.length * k.toNat ≤ sizeLine) (q : ∀ p, H p = none → Q (.ref p) (upd H p (.lst (List.replicate k.toNat xs).flatten))) : rMulD (.ref l) (.int k) H Q := .inr ⟨l, k, xs, rfl, rfl, h, c.1, c.2.1, c.2.2, q⟩
theorem rv_mod {i j : Int} (c : j ≠ 0) (q : Q (.int (i.fmod j)) H) : rModD (.int i) (.int j) H Q := ⟨i, j, rfl, rfl, c, q⟩
theorem rv_div {i j : Int} (c : CDivW i j) (q : Q (.int (i / j)) H) : rDivD (.int i) (.int j) H Q := ⟨i, j, rfl, rfl, c, q⟩
theorem rv_pow {i j : Int} (c : CPow i j) (q : Q (.int (i ^ j.toNat)) H) : rPowD (.int i) (.int j) H Q := ⟨i, j, rfl, rfl, c, q⟩
theorem rv_lt {i j : Int} (q : Q (.bl (decide (i < j))) H) : rLtD (.int i) (.int j) H Q := ⟨i, j, rfl, rfl, q⟩
theorem rv_le {i j : Int} (q : Q (.bl (decide (i ≤ j))) H) : rLeD (.int i) (.int j) H Q := ⟨i, j, rfl, rfl, q⟩
theorem rv_gt {i j : Int} (q : Q (.bl (decide (j < i))) H) : rGtD (.int i) (.int j) H Q := ⟨i, j, rfl, rfl, q⟩
theorem rv_ge {i j : Int} (q : Q (.bl (decide (j ≤ i))) H) : rGeD (.int i) (.int j) H Q := ⟨i, j, rfl, rfl, q⟩
theorem dec_int (i j : Int) : decide (V.int i = V.int j) = decide (i = j) := decide_eq_decide.mpr ⟨V.int.inj, fun e => by rw [e]⟩
theorem dec_str (i j : Str) : decide (V.str i = V.str j) = decide (i = j) := decide_eq_decide.mpr ⟨V.str.inj, fun e => by rw [e]⟩
theorem dec_bl (i j : Bool) : decide (V.bl i = V.bl j) = decide (i = j) := decide_eq_decide.mpr ⟨V.bl.inj, fun e => by rw [e]⟩
theorem rv_eqI {i j : Int} (q : Q (.bl (decide (i = j))) H) : rEq (.int i) (.int j) H Q := ⟨rfl, by rw [dec_int]; exact q⟩
theorem rv_eqS {i j : Str} (q : Q (.bl (decide (i = j))) H) : rEq (.str i) (.str j) H Q := ⟨rfl, by rw [dec_str]; exact q⟩
theorem rv_eqB {i j : Bool} (q : Q (.bl (decide (i = j))) H) : rEq (.bl i) (.bl j) H Q := ⟨rfl, by rw [dec_bl]; exact q⟩
theorem rv_neI {i j : Int} (q : Q (.bl (!decide (i = j))) H) : rNe (.int i) (.int j) H Q := ⟨rfl, by rw [dec_int]; exact q⟩
theorem rv_neS {i j : Str} (q : Q (.bl (!decide (i = j))) H) : rNe (.str i) (.str j) H Q := ⟨rfl, by rw [dec_str]; exact q⟩
theorem rv_neB {i j : Bool} (q : Q (.bl (!decide (i = j))) H) : rNe (.bl i) (.bl j) H Q := ⟨rfl, by rw [dec_bl]; exact q⟩
theorem rv_ixL {p : Addr} {xs : List V} {i : Int} (h : SqL K H p xs) (c : atI xs i = some v) (q : Q v H) : rIxD K (.ref p) (.int i) H Q := .inl ⟨p, xs, i, v, rfl, rfl, h, c, q⟩
theorem rv_ixT {p : Addr} {xs : List V} {i : Int} (h : SqT K H p xs) (c : atI xs i = some v) (q : Q v H) : rIxD K (.ref p) (.int i) H Q := .inr (.inl ⟨p, xs, i, v, rfl, rfl, h, c, q⟩)
theorem rv_ixS {z : Str} {i : Int} {c : Nat} (h : z.length ≤ sizeLine) (e : atI z.cps.toList i = some c) (q : Q (.str ⟨#[c]⟩) H) : rIxD K (.str z) (.int i) H Q := .inr (.inr ⟨z, i, c, rfl, rfl, h, e, q⟩)
theorem rv_inS {c : Nat} {z : Str} (q : Q (.bl (decide (c ∈ z.cps.toList))) H) : rInD K false (.str ⟨#[c]⟩) (.str z) H Q := .inr ⟨c, z, rfl, rfl, q⟩
theorem rv_ninS {c : Nat} {z : Str} (q : Q (.bl (!decide (c ∈ z.cps.toList))) H) : rInD K true (.str ⟨#[c]⟩) (.str z) H Q := .inr ⟨c, z, rfl, rfl, q⟩
theorem rv_inL {p : Addr} {xs : List V} (h : SqL K H p xs) (hx : flatV x = true) (hf : xs.all flatV = true) (q : Q (.bl (inV x xs)) H) : rInD K false x (.ref p) H Q := .inl ⟨p, xs, rfl, .inl h, hx, hf, q⟩
theorem rv_ninL {p : Addr} {xs : List V} (h : SqL K H p xs) (hx : flatV x = true) (hf : xs.all flatV = true) (q : Q (.bl (!inV x xs)) H) : rInD K true x (.ref p) H Q := .inl ⟨p, xs, rfl, .inl h, hx, hf, q⟩
theorem rv_all {p : Addr} {bs : List Bool} (h : SqL K H p (bs.map V.bl)) (q : Q (.bl (bs.all id)) H) : rAll K [.ref p] H Q := ⟨p, bs, rfl, h, q⟩
theorem rv_int {i : Int} (q : Q (.int i) H) : rIntD [.int i] H Q := .inl ⟨i, rfl, q⟩
theorem rv_lenL {p : Addr} {xs : List V} (h : SqL K H p xs) (q : Q (.int xs.length) H) : rLenD K [.ref p] H Q := ⟨_, _, rfl, .inl ⟨xs, h, rfl⟩, q⟩
theorem rv_lenT {p : Addr} {xs : List V} (h : SqT K H p xs) (q : Q (.int xs.length) H) : rLenD K [.ref p] H Q := ⟨_, _, rfl, .inr ⟨xs, h, rfl⟩, q⟩
theorem rv_lenS {z : Str} (h : z.length ≤ sizeLine) (q : Q (.int z.length) H) : rLenD K [.str z] H Q := ⟨_, _, rfl, ⟨h, rfl⟩, q⟩
theorem rv_abs {i : Int} (q : Q (.int (if i < 0 then -i else i)) H) : rAbsD [.int i] H Q := ⟨i, rfl, q⟩
theorem rv_max2 {i j : Int} (q : Q (.int (if j > i then j else i)) H) : rMax2D [.int i, .int j] H Q := ⟨i, j, rfl, q⟩
theorem rv_min2 {i j : Int} (q : Q (.int (if j < i then j else i)) H) : rMin2D [.int i, .int j] H Q := ⟨i, j, rfl, q⟩
theorem rv_ord {c : Nat} (q : Q (.int (c : Int)) H) : rOrdD [.str ⟨#[c]⟩] H Q := ⟨_, rfl, rfl, q⟩
theorem rv_setL {p : Addr} {xs : List V} {k : Int} {j : Nat} {Q : Hp → Prop} (h : H p = some (.lst xs)) (c : ixN xs.length k = some j) (q : Q (upd H p (.lst (xs.set j v)))) : rSetL (.ref p) (.int k) v H Q := ⟨p, xs, k, j, rfl, rfl, h, c, q⟩
theorem rv_app {l : Addr} {xs : List V} (h : H l = some (.lst xs)) (c : xs.length < sizeLine) (q : Q .non (upd H l (.lst (xs ++ [y])))) : rAppend (.ref l) [y] H Q := ⟨l, xs, y, rfl, rfl, h, c, q⟩
theorem rv_ext {l b : Addr} {xs zs : List V} (h : H l = some (.lst xs)) (h2 : H b = some (.lst zs)) (c : xs.length + zs.length ≤ sizeLine) (q : Q .non (upd H l (.lst (xs ++ zs)))) : rExtend (.ref l) [.ref b] H Q := ⟨l, b, xs, zs, rfl, rfl, h, h2, c, q⟩
theorem rv_slL {p : Addr} {xs : List V} {lo hi : Option Int} (h : SqL K H p xs) (q : ∀ a, H a = none → Q (.ref a) (upd H a (.lst (cutV xs lo hi)))) : rSlD K (.ref p) lo hi H Q := .inl ⟨p, xs, rfl, h, q⟩
theorem rv_slS {z : Str} {lo hi : Option Int} (h : z.length ≤ sizeLine) (q : Q (.str (cutS z lo hi)) H) : rSlD K (.str z) lo hi H Q := .inr ⟨z, rfl, h, q⟩
theorem rv_neg {i : Int} (q : Q (.int (-i)) H) : rU (fun i => .int (-i)) (.int i) H Q := ⟨i, rfl, q⟩
end
/-! ### heaps -/
theorem same_upd {H : Hp} {p : Addr} {o : HO} (h : H p = none) : Same H (upd H p o) := fun b x e => by
  rw [upd_ne (ne_of_none e h)]
  exact e
/-- all that stands elsewhere than at b is kept -/
def Off (b : Addr) (H H' : Hp) : Prop := ∀ a o, a ≠ b → H a = some o → H' a = some o
theorem Off.get {b : Addr} {H H' : Hp} {a : Addr} {o : HO} (h : Off b H H') (n : a ≠ b) (e : H a = some o) : H' a = some o := h a o n e
theorem Off.refl (b : Addr) (H : Hp) : Off b H H := fun _ _ _ e => e
theorem Off.trans {b : Addr} {H H1 H2 : Hp} (x : Off b H H1) (y : Off b H1 H2) : Off b H H2 := fun a o n e => y a o n (x a o n e)
theorem Off.new {b : Addr} {H H1 : Hp} {p : Addr} {o : HO} (x : Off b H H1) (h : H1 p = none) : Off b H (upd H1 p o) := fun a u n e => by
  have z := x a u n e
  rw [upd_ne (ne_of_none z h)]
  exact z
theorem Off.set {b : Addr} {H H1 : Hp} {o : HO} (x : Off b H H1) : Off b H (upd H1 b o) := fun a u n e => by
  rw [upd_ne n]
  exact x a u n e
theorem Off.mut {b : Addr} {H H1 : Hp} {p : Addr} {o : HO} (x : Off b H H1) (h : H p = none) : Off b H (upd H1 p o) := fun a u n e => by
  rw [upd_ne (ne_of_none e h)]
  exact x a u n e
theorem Off.of_same {b : Addr} {H H1 : Hp} (x : Same H H1) : Off b H H1 := fun a o _ e => x a o e
theorem Off.fresh {b : Addr} {H H1 : Hp} {p : Addr} (x : Off b H H1) (n : p ≠ b) (h : H1 p = none) : H p = none := by
  cases e : H p with
  | none => rfl
  | some o => rw [x p o n e] at h; cases h
theorem Off.seq {K : PySem.W.Frag} {b : Addr} {H H' : Hp} {a : Addr} {xs : List V} (h : Off b H H') (n : a ≠ b) (e : SqL K H a xs) : SqL K H' a xs := by
  rcases e with e | e
  · rcases e with e | ⟨o, e⟩
    · exact .inl (.inl (h a _ n e))
    · exact .inl (.inr ⟨o, h a _ n e⟩)
  · exact .inr e
theorem Off.seqT {K : PySem.W.Frag} {b : Addr} {H H' : Hp} {a : Addr} {xs : List V} (h : Off b H H') (n : a ≠ b) (e : SqT K H a xs) : SqT K H' a xs := by
  rcases e with e | e
  · rcases e with e | ⟨o, e⟩
    · exact .inl (.inl (h a _ n e))
    · exact .inl (.inr ⟨o, h a _ n e⟩)
  · exact .inr e
theorem sq_set {K : PySem.W.Frag} {H : Hp} {b c : Addr} {o : HO} {xs : List V} (n : c ≠ b) (e : SqL K H c xs) : SqL K (upd H b o) c xs := (Off.refl b H).set.seq n e
theorem sq_new {K : PySem.W.Frag} {H : Hp} {p c : Addr} {o : HO} {xs : List V} (n : H p = none) (e : SqL K H c xs) : SqL K (upd H p o) c xs := (same_upd n).seq e
theorem hp_set {H : Hp} {b a : Addr} {o : HO} {u : Option HO} (n : a ≠ b) (e : H a = u) : upd H b o a = u := (upd_ne n).trans e
theorem hp_new {H : Hp} {p a : Addr} {o u : HO} (n : H p = none) (e : H a = some u) : upd H p o a = some u := same_upd n _ _ e
/-! ### tests -/
theorem iteD {p A B : Prop} [Decidable p] (h1 : p → A) (h2 : ¬ p → B) : if decide p = true then A else B := by
  by_cases h : p
  · rw [if_pos (decide_eq_true h)]; exact h1 h
  · rw [if_neg (by simpa using h)]; exact h2 h
theorem iteND {p A B : Prop} [Decidable p] (h1 : ¬ p → A) (h2 : p → B) : if (!decide p) = true then A else B := by
  by_cases h : p
  · rw [if_neg (by simpa using h)]; exact h2 h
  · rw [if_pos (by simpa using h)]; exact h1 h
theorem iteB {b : Bool} {A B : Prop} (h1 : b = true → A) (h2 : b = false → B) : if b = true then A else B := by
  cases b
  · rw [if_neg Bool.false_ne_true]; exact h2 rfl
  · rw [if_pos rfl]; exact h1 rfl
/-! ### numbers -/
theorem sz4 {n : Nat} (h : n ≤ 100000) : n ≤ sizeLine := Nat.le_trans h (by decide)
theorem sz4' {n : Nat} (h : n ≤ 100000) : n < sizeLine := Nat.lt_of_le_of_lt h (by decide)
theorem at_ints {cs : List Int} {i : Int} (h0 : 0 ≤ i) (h1 : i < ((cs.map V.int).length : Int)) : atI (cs.map V.int) i = some (.int (cs.getD i.toNat 0)) := by
  obtain ⟨j, rfl⟩ := Int.eq_ofNat_of_zero_le h0
  have hl : j < cs.length := by rw [List.length_map] at h1; omega
  refine atI_nat ?_
  rw [List.getElem?_map, List.getElem?_eq_getElem hl]
  simp [List.getD_eq_getElem?_getD, hl]
theorem fm0 {x m : Int} (h : 0 < m) : 0 ≤ x.fmod m := by rw [Int.fmod_eq_emod_of_nonneg _ (by omega)]; exact Int.emod_nonneg _ (by omega)
theorem fm1 {x m : Int} (h : 0 < m) : x.fmod m < m := by rw [Int.fmod_eq_emod_of_nonneg _ (by omega)]; exact Int.emod_lt_of_pos _ h
theorem mul_fm {x c j : Int} (h : 0 < c) (h2 : c ≤ 2 ^ 64) : CMul (x.fmod c) j := .inl ⟨by have := fm0 (x := x) h; omega, by have := fm1 (x := x) h; omega⟩
theorem div_m {z m : Int} (h : 0 < m) (h2 : m < 2 ^ 1000) : CDivW z m := wide_div (b := 1000) h (by omega) (by decide) (by decide)
theorem div97 {z : Int} : CDivW z 97 := wide_div (b := 8) (by decide) (by decide) (by decide) (by decide)
theorem div3 {z : Int} : CDivW z 3 := wide_div (b := 8) (by decide) (by decide) (by decide) (by decide)
theorem div2 {z : Int} : CDivW z 2 := wide_div (b := 8) (by decide) (by decide) (by decide) (by decide)
/-! ### the bag of draws -/
def BagAt (b c : Addr) (cs : List Int) (H : Hp) : Prop := ∃ (i z s n k : Int), H b = some (.lst [.ref c, .int i, .int z, .int s, .int n, .int k]) ∧ c ≠ b ∧ H c = some (.lst (cs.map V.int)) ∧ 0 ≤ i ∧ 0 ≤ z
theorem BagAt.ne {b c : Addr} {cs : List Int} {H : Hp} {p : Addr} (x : BagAt b c cs H) (h : H p = none) : p ≠ b := by
  obtain ⟨i, z, s, n, k, e, _⟩ := x
  exact (ne_of_none e h).symm
theorem BagAt.ne2 {b c : Addr} {cs : List Int} {H : Hp} {p : Addr} (x : BagAt b c cs H) (h : H p = none) : p ≠ c := by
  obtain ⟨i, z, s, n, k, e, _, e2, _⟩ := x
  exact (ne_of_none e2 h).symm
theorem BagAt.put {b c : Addr} {cs : List Int} {H : Hp} {p : Addr} {o : HO} (x : BagAt b c cs H) (h : p ≠ b) (h2 : p ≠ c) : BagAt b c cs (upd H p o) := by
  obtain ⟨i, z, s, n, k, e, nc, hc, h1, h2'⟩ := x
  exact ⟨i, z, s, n, k, (upd_ne h.symm).trans e, nc, (upd_ne h2.symm).trans hc, h1, h2'⟩
theorem BagAt.new {b c : Addr} {cs : List Int} {H : Hp} {p : Addr} {o : HO} (x : BagAt b c cs H) (h : H p = none) : BagAt b c cs (upd H p o) := x.put (x.ne h) (x.ne2 h)
theorem BagAt.same {b c : Addr} {cs : List Int} {H H' : Hp} (x : BagAt b c cs H) (f : Same H H') : BagAt b c cs H' := by
  obtain ⟨i, z, s, n, k, e, nc, hc, h1, h2⟩ := x
  exact ⟨i, z, s, n, k, f _ _ e, nc, f _ _ hc, h1, h2⟩
def spDraw : Sp := fun vs H Q _ => ∃ (b c : Addr) (cs : List Int) (m : Int), vs = [.ref b, .int m] ∧ 0 < m ∧ m < 2 ^ 1000 ∧ BagAt b c cs H ∧ ∀ H' (r : Int), Off b H H' → BagAt b c cs H' → 0 ≤ r → r < m → Q (.int r) H'
def spBag (K : PySem.W.Frag) : Sp := fun vs H Q _ => ∃ (a : Addr) (ns : List Int), vs = [.ref a] ∧ SqL K H a (ns.map V.int) ∧ ns.length ≤ 63 ∧ ∀ H' b c cs, Same H H' → H b = none → BagAt b c cs H' → Q (.ref b) H'
theorem at_all {xs : List V} {P : V → Prop} (h : ∀ v ∈ xs, P v) {i : Int} (h0 : 0 ≤ i) (h1 : i < (xs.length : Int)) : ∃ v, atI xs i = some v ∧ P v := by
  obtain ⟨j, rfl⟩ := Int.eq_ofNat_of_zero_le h0
  have hl : j < xs.length := by omega
  exact ⟨xs[j], atI_nat (List.getElem?_eq_getElem hl), h _ (List.getElem_mem hl)⟩
theorem at_str {z : Str} {i : Int} (h0 : 0 ≤ i) (h1 : i < (z.length : Int)) : ∃ c, atI z.cps.toList i = some c ∧ c ∈ z.cps.toList := by
  obtain ⟨j, rfl⟩ := Int.eq_ofNat_of_zero_le h0
  have hl : j < z.cps.toList.length := by have : z.cps.toList.length = z.length := by simp [Str.length]
                                          omega
  exact ⟨z.cps.toList[j], atI_nat (List.getElem?_eq_getElem hl), List.getElem_mem hl⟩
end D0
namespace D0
open PySem PySem.Spec PyProof.Rows L2
section
variable {K : PySem.W.Frag} {σ : L2.St} {H : Hp} {Q : VK} {te tl : TE} {ta : TA} {vs : List Nat} {j : Nat}
theorem rd_yes {Q : Bool → Hp → Prop} (q : Q true H) : tYes σ H Q := q
theorem rd_callN {n m : Nat} {sp : Sp} {gV : List V → List V → List V} {E : XK} {t tk : TA} (q : t σ H fun vs H1 => tk σ H1 fun zs H2 => vs.length = n ∧ zs.length = m ∧ sp (gV vs zs) H2 Q E) : tCallN n m sp gV E t tk σ H Q := q
theorem rv_slSany {z : Str} {lo hi : Option Int} (h : z.length ≤ sizeLine) (q : ∀ y : Str, y.length ≤ z.length → Q (.str y) H) : rSlD K (.str z) lo hi H Q := rv_slS h (q _ (cutS_length z lo hi))
theorem ones (us : List Nat) : (us.map fun _ => 1).sum = us.length := by
  induction us with
  | nil => rfl
  | cons x r ih => rw [List.map_cons, List.sum_cons, ih, List.length_cons]; omega
theorem strlen_app (a b : Str) : (a ++ b).length = a.length + b.length := PySem.Str.length_append a b
theorem dRevL {X : Cx} (K : PySem.W.Frag) {e : Expr} {te : TE} {k : Nat} {p1 p2 p3 pos : Pos} (he : PE X e te) (hK : X.K = K := by rfl) : PE X (.Subscript e (.Slice none none (some (.UnaryOp .USub (.Constant (.int 1) k p1) p2)) p3) pos) (tRevL K te) := by subst hK; exact pe_revL he
theorem rd_revL (q : te σ H fun x H1 => ∃ a xs, x = .ref a ∧ SqL K H1 a xs ∧ ∀ p, H1 p = none → Q (.ref p) (upd H1 p (.lst xs.reverse))) : tRevL K te σ H Q := q
theorem rv_revL {a : Addr} {xs : List V} {R : Addr → List V → Prop} (h : SqL K H a xs) (q : R a xs) : ∃ a' xs', V.ref a = .ref a' ∧ SqL K H a' xs' ∧ R a' xs' := ⟨a, xs, rfl, h, q⟩
theorem rd_rng1 {R : It → Hp → Prop} (q : ta σ H fun vs H1 => ∃ j : Int, vs = [.int j] ∧ -(2 ^ 62) ≤ j ∧ j < 2 ^ 62 ∧ R (Itr 0 j.toNat) H1) : iRng1 ta σ H R := q
theorem rd_ss {z : Str} {P : Str → Prop} (q : P z) : ∃ k, V.str z = V.str k ∧ P k := ⟨z, rfl, q⟩
theorem rv_up {z : Str} {P : Str → Prop} (h : z.length ≤ 5592405) (q : P z) : ∃ a, V.str z = V.str a ∧ ([] : List V) = [] ∧ a.length ≤ 5592405 ∧ P a := ⟨z, rfl, rfl, h, q⟩
theorem rd_iList {R : It → Hp → Prop} (q : te σ H fun x H1 => ∃ a, x = .ref a ∧ (∃ xs, SqL K H1 a xs) ∧ R (Itl K a) H1) : iList K te σ H R := q
theorem rv_iL {a : Addr} {xs : List V} {R : Addr → Prop} (h : SqL K H a xs) (q : R a) : ∃ a', V.ref a = .ref a' ∧ (∃ xs, SqL K H a' xs) ∧ R a' := ⟨a, rfl, ⟨xs, h⟩, q⟩
theorem rd_for {wi : TI} {g : TG} {tb : TS} {D : Ends} (q : wi σ H fun J H1 => ∃ W : Nat → Nat → L2.St → Hp → Prop, (∃ m, W 0 m σ H1) ∧ ∀ i m σ H, W i m σ H →
    (J.stop i H ∧ D.nx σ H) ∨ (J.go i H ∧ ∃ N : L2.St → Hp → Prop, (∀ σ' H', N σ' H' → ∃ m', m' < m ∧ W (i + 1) m' σ' H') ∧ ∀ x H', J.yld i H x H' → g x σ H' fun σ2 H2 => tb { D with nx := N, ct := N, bk := D.nx } σ2 H2)) : tFor wi g tb D σ H := q
theorem rv_isiB {b : Bool} {ty : String} {r : Bool} (h : kitB "bool" ty = some r) (q : Q (.bl r) H) : rIsi K [.bl b, .ty ty] H Q := ⟨_, _, _, _, _, rfl, .ty ty, .base (.bl b), kit_ty h, q⟩
theorem rv_isiI {b : Int} {ty : String} {r : Bool} (h : kitB "int" ty = some r) (q : Q (.bl r) H) : rIsi K [.int b, .ty ty] H Q := ⟨_, _, _, _, _, rfl, .ty ty, .base (.int b), kit_ty h, q⟩
theorem rv_isiN {ty : String} {r : Bool} (h : kitB "NoneType" ty = some r) (q : Q (.bl r) H) : rIsi K [.non, .ty ty] H Q := ⟨_, _, _, _, _, rfl, .ty ty, .base .non, kit_ty h, q⟩
theorem rv_isiL {a : Addr} {xs : List V} {ty : String} {r : Bool} (e : H a = some (.lst xs)) (h : kitB "list" ty = some r) (q : Q (.bl r) H) : rIsi K [.ref a, .ty ty] H Q := ⟨_, _, _, _, _, rfl, .ty ty, .base (.lst e), kit_ty h, q⟩
theorem rv_isiT {a : Addr} {xs : List V} {ty : String} {r : Bool} (e : H a = some (.tup xs)) (h : kitB "tuple" ty = some r) (q : Q (.bl r) H) : rIsi K [.ref a, .ty ty] H Q := ⟨_, _, _, _, _, rfl, .ty ty, .base (.tup e), kit_ty h, q⟩
theorem rv_isiS {b : Str} {ty : String} {r : Bool} (h : kitB "str" ty = some r) (q : Q (.bl r) H) : rIsi K [.str b, .ty ty] H Q := ⟨_, _, _, _, _, rfl, .ty ty, .base (.str b), kit_ty h, q⟩
theorem isi_bool_bool : kitB "bool" "bool" = some true := by decide +kernel
theorem isi_bool_int : kitB "bool" "int" = some true := by decide +kernel
theorem isi_bool_str : kitB "bool" "str" = some false := by decide +kernel
theorem isi_bool_list : kitB "bool" "list" = some false := by decide +kernel
theorem isi_bool_tuple : kitB "bool" "tuple" = some false := by decide +kernel
theorem isi_bool_dict : kitB "bool" "dict" = some false := by decide +kernel
theorem isi_int_bool : kitB "int" "bool" = some false := by decide +kernel
theorem isi_int_int : kitB "int" "int" = some true := by decide +kernel
theorem isi_int_str : kitB "int" "str" = some false := by decide +kernel
theorem isi_int_list : kitB "int" "list" = some false := by decide +kernel
theorem isi_int_tuple : kitB "int" "tuple" = some false := by decide +kernel
theorem isi_int_dict : kitB "int" "dict" = some false := by decide +kernel
theorem isi_str_bool : kitB "str" "bool" = some false := by decide +kernel
theorem isi_str_int : kitB "str" "int" = some false := by decide +kernel
theorem isi_str_str : kitB "str" "str" = some true := by decide +kernel
theorem isi_str_list : kitB "str" "list" = some false := by decide +kernel
theorem isi_str_tuple : kitB "str" "tuple" = some false := by decide +kernel
theorem isi_str_dict : kitB "str" "dict" = some false := by decide +kernel
theorem isi_list_bool : kitB "list" "bool" = some false := by decide +kernel
theorem isi_list_int : kitB "list" "int" = some false := by decide +kernel
theorem isi_list_str : kitB "list" "str" = some false := by decide +kernel
theorem isi_list_list : kitB "list" "list" = some true := by decide +kernel
theorem isi_list_tuple : kitB "list" "tuple" = some false := by decide +kernel
theorem isi_list_dict : kitB "list" "dict" = some false := by decide +kernel
theorem isi_tuple_bool : kitB "tuple" "bool" = some false := by decide +kernel
theorem isi_tuple_int : kitB "tuple" "int" = some false := by decide +kernel
theorem isi_tuple_str : kitB "tuple" "str" = some false := by decide +kernel
theorem isi_tuple_list : kitB "tuple" "list" = some false := by decide +kernel
theorem isi_tuple_tuple : kitB "tuple" "tuple" = some true := by decide +kernel
theorem isi_tuple_dict : kitB "tuple" "dict" = some false := by decide +kernel
theorem isi_dict_bool : kitB "dict" "bool" = some false := by decide +kernel
theorem isi_dict_int : kitB "dict" "int" = some false := by decide +kernel
theorem isi_dict_str : kitB "dict" "str" = some false := by decide +kernel
theorem isi_dict_list : kitB "dict" "list" = some false := by decide +kernel
theorem isi_dict_tuple : kitB "dict" "tuple" = some false := by decide +kernel
theorem isi_dict_dict : kitB "dict" "dict" = some true := by decide +kernel
theorem isi_NoneType_bool : kitB "NoneType" "bool" = some false := by decide +kernel
theorem isi_NoneType_int : kitB "NoneType" "int" = some false := by decide +kernel
theorem isi_NoneType_str : kitB "NoneType" "str" = some false := by decide +kernel
theorem isi_NoneType_list : kitB "NoneType" "list" = some false := by decide +kernel
theorem isi_NoneType_tuple : kitB "NoneType" "tuple" = some false := by decide +kernel
theorem isi_NoneType_dict : kitB "NoneType" "dict" = some false := by decide +kernel
theorem rd_wipe {σ1 σ2 : L2.St} {R : Prop} (h : σ1 = σ2) (q : R) : σ1 = σ2 ∧ R := ⟨h, q⟩
theorem upd_lst {H : Hp} {D : Addr} {o u : HO} : upd (upd H D o) D u = upd H D u := upd_upd
/-- [e for x in xs], e of x a value f x -/
theorem lc_map {a : Addr} {xs : List V} (f : V → V) (hl : ∀ Qe : VK, Qe (.ref a) H → tl σ H Qe) (hs : SqL K H a xs) (hz : xs.length < sizeLine) (hw : ∀ x, wipe ((wipe σ vs).set j (some x)) vs = wipe σ vs)
    (he : ∀ (i : Nat) (x : V) (H' : Hp), xs[i]? = some x → Same H H' → ∀ Qe : VK, (∀ H'', Same H' H'' → Qe (f x) H'') → te ((wipe σ vs).set j (some x)) H' Qe)
    (q : ∀ D H', H D = none → Same H H' → H' D = some (.lst (xs.map f)) → Q (.ref D) H') : tLc (iList K tl) (gName j) tYes te vs σ H Q := by
  refine hl _ ⟨a, rfl, ⟨_, hs⟩, fun D hD => ?_⟩
  refine lc_list (K := K) (a := a) (xs := xs) (fun i H' => Same H H' ∧ H' D = some (.lst ((xs.take i).map f))) ⟨same_upd hD, upd_same⟩ (fun i H' _ h => h.1.seq hs) ?_ ?_
  · rintro i x H' hx ⟨s, e⟩
    refine ⟨hw x, rd_yes (iteT ?_)⟩
    refine he i x H' hx s _ fun H'' s2 => ?_
    refine ⟨_, s2 _ _ e, ?_, ?_, ?_⟩
    · rw [List.length_map, List.length_take]; omega
    · intro b o eb
      have nb : b ≠ D := ne_of_none eb hD
      rw [upd_ne nb]
      exact s2 _ _ (s _ _ eb)
    · rw [upd_same, List.take_add_one, hx, List.map_append]; rfl
  · rintro H' ⟨s, e⟩
    rw [List.take_length] at e
    exact q D H' hD s e
/-- [e for k in range(n)], e drawing from the bag at b; every item has P -/
theorem lc_draw {b c : Addr} {cs : List Int} {n : Nat} (P : V → Prop) (hn : n ≤ 1000000) (hl : ∀ Qe : List V → Hp → Prop, Qe [.int (n : Int)] H → ta σ H Qe) (B : BagAt b c cs H) (hw : ∀ x, wipe ((wipe σ vs).set j (some x)) vs = wipe σ vs)
    (he : ∀ (i : Nat) (H' : Hp), i < n → Off b H H' → BagAt b c cs H' → ∀ Qe : VK, (∀ (y : V) (H'' : Hp), Off b H' H'' → BagAt b c cs H'' → P y → Qe y H'') → te ((wipe σ vs).set j (some (.int (i : Int)))) H' Qe)
    (q : ∀ D ys H', H D = none → Off b H H' → BagAt b c cs H' → H' D = some (.lst ys) → ys.length = n → (∀ y ∈ ys, P y) → Q (.ref D) H') : tLc (iRng1 ta) (gName j) tYes te vs σ H Q := by
  have hz : n < sizeLine := Nat.lt_of_le_of_lt hn (by decide)
  refine hl _ ⟨(n : Int), rfl, by omega, by omega, fun D hD => ?_⟩
  have hDb : D ≠ b := B.ne hD
  have hDc : D ≠ c := B.ne2 hD
  refine lc_range (lo := 0) (n := ((n : Int)).toNat) (fun i H' => ∃ ys : List V, Off b H H' ∧ BagAt b c cs H' ∧ H' D = some (.lst ys) ∧ ys.length = i ∧ ∀ y ∈ ys, P y) ⟨[], (Off.refl b H).new hD, B.new hD, upd_same, rfl, fun y h => nomatch h⟩ ?_ ?_
  · rintro i H' hi ⟨ys, f, B', e, el, hp⟩
    refine ⟨hw _, rd_yes (iteT ?_)⟩
    rw [show (0 : Int) + (i : Int) = (i : Int) by omega]
    refine he i H' (by omega) f B' _ fun y H'' f2 B2 py => ?_
    have e2 := f2.get hDb e
    refine ⟨_, e2, by omega, ys ++ [y], (f.trans f2).mut hD, B2.put hDb hDc, upd_same, by simp [el], ?_⟩
    intro y' hy
    rcases List.mem_append.mp hy with hy | hy
    · exact hp y' hy
    · rw [List.mem_singleton.mp hy]; exact py
  · rintro H' ⟨ys, f, B', e, el, hp⟩
    exact q D ys H' hD f B' e (by omega) hp
/-- [e for s in text], e of a sign a value f c -/
theorem lc_smap {z : Str} (f : Nat → V) (hl : ∀ Qe : VK, Qe (.str z) H → tl σ H Qe) (hz : z.length < sizeLine) (hw : ∀ x, wipe ((wipe σ vs).set j (some x)) vs = wipe σ vs)
    (he : ∀ (i : Nat) (c : Nat) (H' : Hp), z.cps[i]? = some c → Same H H' → ∀ Qe : VK, (∀ H'', Same H' H'' → Qe (f c) H'') → te ((wipe σ vs).set j (some (.str ⟨#[c]⟩))) H' Qe)
    (q : ∀ D H', H D = none → Same H H' → H' D = some (.lst (z.cps.toList.map f)) → Q (.ref D) H') : tLc (iStr tl) (gName j) tYes te vs σ H Q := by
  refine hl _ ⟨z, rfl, fun D hD => ?_⟩
  refine ⟨fun i m H' => i + m = z.cps.size ∧ Same H H' ∧ H' D = some (.lst ((z.cps.toList.take i).map f)), ⟨z.cps.size, by omega, same_upd hD, upd_same⟩, ?_⟩
  rintro i m H' ⟨em, s, e⟩
  by_cases hi : i < z.cps.size
  · refine .inr ⟨hi, fun H2 => Same H H2 ∧ H2 D = some (.lst ((z.cps.toList.take (i + 1)).map f)), fun H2 h2 => ⟨m - 1, by omega, by omega, h2.1, h2.2⟩, ?_⟩
    rintro x H2 ⟨rfl, c, hc, rfl⟩
    refine ⟨hw _, rd_yes (iteT ?_)⟩
    refine he i c H2 hc s _ fun H'' s2 => ?_
    refine ⟨_, s2 _ _ e, ?_, ?_, ?_⟩
    · rw [List.length_map, List.length_take]; show _ < sizeLine; have : z.length = z.cps.size := rfl; have : z.cps.toList.length = z.cps.size := by simp
      omega
    · intro b o eb
      have nb : b ≠ D := ne_of_none eb hD
      rw [upd_ne nb]
      exact s2 _ _ (s _ _ eb)
    · have hc' : z.cps.toList[i]? = some c := by rw [Array.getElem?_toList]; exact hc
      rw [upd_same, List.take_add_one, hc', List.map_append]; rfl
  · refine .inl ⟨by show z.cps.size ≤ i; omega, ?_⟩
    have ei : z.cps.toList.take i = z.cps.toList := List.take_of_length_le (by simp; omega)
    rw [ei] at e
    exact q D H' hD s e
end
end D0
namespace D0
open PySem PySem.Spec PyProof.Rows L2
/-! ### tuples never change -/
def TS (H H' : Hp) : Prop := ∀ a xs, H a = some (.tup xs) → H' a = some (.tup xs)
theorem TS.refl (H : Hp) : TS H H := fun _ _ e => e
theorem TS.trans {H H1 H2 : Hp} (x : TS H H1) (y : TS H1 H2) : TS H H2 := fun a xs e => y a xs (x a xs e)
theorem TS.of_same {H H' : Hp} (x : Same H H') : TS H H' := fun a xs e => x a _ e
theorem TS.new {H H1 : Hp} {p : Addr} {o : HO} (x : TS H H1) (h : H1 p = none) : TS H (upd H1 p o) := x.trans (.of_same (same_upd h))
theorem TS.put {H H1 : Hp} {p : Addr} {ys : List V} {o : HO} (x : TS H H1) (h : H1 p = some (.lst ys)) : TS H (upd H1 p o) := fun a xs e => by
  have z := x a xs e
  rw [upd_ne (ne_of z h (fun q => by cases q))]
  exact z
theorem BagAt.ts {b c : Addr} {cs : List Int} {H H' : Hp} (x : BagAt b c cs H) (f : Off b H H') : TS H H' := fun a xs e => by
  obtain ⟨i, z, s, n, k, eb, _⟩ := x
  exact f a _ (ne_of e eb (fun q => by cases q)) e
/-- a tuple of ints -/
def Tn (H : Hp) (v : V) (ns : List Int) : Prop := ∃ a, v = .ref a ∧ H a = some (.tup (ns.map V.int))
theorem Tn.ts {H H' : Hp} {v : V} {ns : List Int} (x : Tn H v ns) (t : TS H H') : Tn H' v ns := by
  obtain ⟨a, e, h⟩ := x
  exact ⟨a, e, t _ _ h⟩
abbrev RowsAt (H : Hp) (vs : List V) (rs : List (List Int)) : Prop := Paired (Tn H) vs rs
theorem RowsAt.ts {H H' : Hp} {vs : List V} {rs : List (List Int)} (x : RowsAt H vs rs) (t : TS H H') : RowsAt H' vs rs := Paired.mapP x fun _ _ h => h.ts t
theorem Paired.get1 {α β : Type} {F : α → β → Prop} : ∀ {xs : List α} {ys : List β} {i : Nat} {x : α}, Paired F xs ys → xs[i]? = some x → ∃ y, ys[i]? = some y ∧ F x y
  | _, _, _, _, .nil, h => by cases h
  | _, _, 0, _, .cons f _, h => ⟨_, rfl, by cases h; exact f⟩
  | _, _, i + 1, _, .cons _ r, h => Paired.get1 (i := i) r h
theorem Paired.len {α β : Type} {F : α → β → Prop} : ∀ {xs : List α} {ys : List β}, Paired F xs ys → xs.length = ys.length
  | _, _, .nil => rfl
  | _, _, .cons _ r => by rw [List.length_cons, List.length_cons, Paired.len r]
/-- a system (count, bounds, pulls) -/
def SysAt (H : Hp) (v : V) (n : Nat) (bs ps : List (List Int)) : Prop := ∃ (a p q : Addr) (vb vp : List V), v = .ref a ∧ H a = some (.tup [.int n, .ref p, .ref q]) ∧ H p = some (.tup vb) ∧ RowsAt H vb bs ∧ H q = some (.tup vp) ∧ RowsAt H vp ps
theorem SysAt.ts {H H' : Hp} {v : V} {n : Nat} {bs ps : List (List Int)} (x : SysAt H v n bs ps) (t : TS H H') : SysAt H' v n bs ps := by
  obtain ⟨a, p, q, vb, vp, e, ha, hp, rb, hq, rp⟩ := x
  exact ⟨a, p, q, vb, vp, e, t _ _ ha, t _ _ hp, rb.ts t, t _ _ hq, rp.ts t⟩
def OkB (n : Nat) (bs : List (List Int)) : Prop := ∀ r ∈ bs, ∃ s e g : Int, r = [s, e, g] ∧ 0 ≤ s ∧ s < n ∧ 0 ≤ e ∧ e < n ∧ s ≠ e ∧ -1000000000 ≤ g ∧ g ≤ 1000000000
def OkP (n : Nat) (ps : List (List Int)) : Prop := ∀ r ∈ ps, ∃ s e g w : Int, r = [s, e, g, w] ∧ 0 ≤ s ∧ s < n ∧ 0 ≤ e ∧ e < n ∧ s ≠ e ∧ -1000000000 ≤ g ∧ g ≤ 1000000000 ∧ 0 ≤ w ∧ w ≤ 99
/-- the same, not seen by the walk -/
def OffG (b : Addr) (H H' : Hp) : Prop := Off b H H'
/-! ### promises -/
def spWhole : Sp := fun vs H Q _ => ∃ i : Int, vs = [.int i] ∧ Q (.bl true) H
def spGap : Sp := fun vs H Q _ => ∃ (b c : Addr) (cs : List Int), vs = [.ref b] ∧ BagAt b c cs H ∧ ∀ H' (g : Int), Off b H H' → BagAt b c cs H' → -1000000 ≤ g → g ≤ 1000000 → Q (.int g) H'
def spEnds : Sp := fun vs H Q _ => ∃ (b c : Addr) (cs : List Int) (n : Nat), vs = [.ref b, .int n] ∧ 2 ≤ n ∧ n ≤ 10000 ∧ BagAt b c cs H ∧ ∀ H' a (s e : Int), Off b H H' → BagAt b c cs H' → H' a = some (.tup [.int s, .int e]) → 0 ≤ s → s < n → 0 ≤ e → e < n → s ≠ e → Q (.ref a) H'
/-- all is kept but what stands at b and at l -/
def Off2 (b l : Addr) (H H' : Hp) : Prop := ∀ a o, a ≠ b → a ≠ l → H a = some o → H' a = some o
theorem Off2.of_off {b l : Addr} {H H' : Hp} (x : Off b H H') : Off2 b l H H' := fun a o n _ e => x a o n e
theorem Off2.mut {b l : Addr} {H H1 : Hp} {o : HO} (x : Off2 b l H H1) : Off2 b l H (upd H1 l o) := fun a u n n2 e => (upd_ne n2).trans (x a u n n2 e)
theorem Off2.new {b l p : Addr} {H H1 : Hp} {o : HO} (x : Off2 b l H H1) (h : H1 p = none) : Off2 b l H (upd H1 p o) := fun a u n n2 e => same_upd h _ _ (x a u n n2 e)
theorem Off2.off {b l : Addr} {H H1 H2 : Hp} (x : Off2 b l H1 H2) (f : Off b H H1) (h : H l = none) : Off b H H2 := fun a u n e => x a u n (ne_of_none e h) (f a u n e)
/-- its items as a tuple, or its items and one of them once more -/
def spDoubled : Sp := fun vs H Q _ => ∃ (b c : Addr) (cs : List Int) (l : Addr) (xs : List V), vs = [.ref b, .ref l] ∧ BagAt b c cs H ∧ H l = some (.lst xs) ∧ l ≠ b ∧ l ≠ c ∧ xs.length ≤ 10000 ∧
  ∀ H' a ys, Off2 b l H H' → BagAt b c cs H' → TS H H' → H' a = some (.tup ys) → (ys = xs ∨ ∃ (i : Nat) (y : V), xs[i]? = some y ∧ ys = xs ++ [y]) → Q (.ref a) H'
theorem RowsAt.dbl {H : Hp} {xs ys : List V} {rs : List (List Int)} (r : RowsAt H xs rs) (h : ys = xs ∨ ∃ (i : Nat) (y : V), xs[i]? = some y ∧ ys = xs ++ [y]) : ∃ rs', RowsAt H ys rs' ∧ (rs' = rs ∨ ∃ (i : Nat) (x : List Int), rs[i]? = some x ∧ rs' = rs ++ [x]) := by
  rcases h with rfl | ⟨i, y, e, rfl⟩
  · exact ⟨rs, r, .inl rfl⟩
  · obtain ⟨x, ex, f⟩ := Paired.get1 r e
    exact ⟨rs ++ [x], r.snoc f, .inr ⟨i, x, ex, rfl⟩⟩
def spSystem : Sp := fun vs H Q _ => ∃ (b c : Addr) (cs : List Int) (m : Nat), vs = [.ref b, .int m] ∧ m ≤ 1000 ∧ BagAt b c cs H ∧ ∀ H' v n bs ps, Off b H H' → BagAt b c cs H' → SysAt H' v n bs ps → OkB n bs → OkP n ps → n ≤ 1000 → bs.length ≤ 3000 → ps.length ≤ 3000 → Q v H'
theorem OkB.nil (n : Nat) : OkB n [] := fun _ h => nomatch h
theorem OkP.nil (n : Nat) : OkP n [] := fun _ h => nomatch h
theorem OkB.snoc {n : Nat} {bs : List (List Int)} {i : Nat} {r : List Int} (h : OkB n bs) (e : bs[i]? = some r) : OkB n (bs ++ [r]) := fun x hx => by
  rcases List.mem_append.mp hx with hx | hx
  · exact h x hx
  · rw [List.mem_singleton.mp hx]; exact h r (List.mem_of_getElem? e)
theorem OkB.dbl {n : Nat} {bs bs' : List (List Int)} (h : OkB n bs) (e : bs' = bs ∨ ∃ (i : Nat) (x : List Int), bs[i]? = some x ∧ bs' = bs ++ [x]) : OkB n bs' ∧ bs'.length ≤ bs.length + 1 := by
  rcases e with rfl | ⟨i, x, ex, rfl⟩
  · exact ⟨h, by omega⟩
  · exact ⟨h.snoc ex, by simp⟩
theorem OkP.snoc {n : Nat} {bs : List (List Int)} {i : Nat} {r : List Int} (h : OkP n bs) (e : bs[i]? = some r) : OkP n (bs ++ [r]) := fun x hx => by
  rcases List.mem_append.mp hx with hx | hx
  · exact h x hx
  · rw [List.mem_singleton.mp hx]; exact h r (List.mem_of_getElem? e)
theorem OkP.dbl {n : Nat} {bs bs' : List (List Int)} (h : OkP n bs) (e : bs' = bs ∨ ∃ (i : Nat) (x : List Int), bs[i]? = some x ∧ bs' = bs ++ [x]) : OkP n bs' ∧ bs'.length ≤ bs.length + 1 := by
  rcases e with rfl | ⟨i, x, ex, rfl⟩
  · exact ⟨h, by omega⟩
  · exact ⟨h.snoc ex, by simp⟩
section
variable {X : Cx} (K : PySem.W.Frag)
def rListD : List V → Hp → VK → Prop := fun xs H Q => ∃ p ys, xs = [.ref p] ∧ (SqL K H p ys ∨ SqT K H p ys) ∧ ∀ l, H l = none → Q (.ref l) (upd H l (.lst ys))
def rTupleD : List V → Hp → VK → Prop := fun xs H Q => ∃ p ys, xs = [.ref p] ∧ ((SqL K H p ys ∧ ∀ l, H l = none → Q (.ref l) (upd H l (.tup ys))) ∨ (SqT K H p ys ∧ Q (.ref p) H))
theorem dList (hK : X.K = K := by rfl) : CallR X (.type "list") (rListD K) := by subst hK; exact call_list_of
theorem dTuple (hK : X.K = K := by rfl) : CallR X (.type "tuple") (rTupleD K) := by subst hK; exact call_tuple_of
variable {K} {Q : VK} {H : Hp} {te : TE} {σ : L2.St}
theorem rv_listL {p : Addr} {ys : List V} (h : SqL K H p ys) (q : ∀ l, H l = none → Q (.ref l) (upd H l (.lst ys))) : rListD K [.ref p] H Q := ⟨p, ys, rfl, .inl h, q⟩
theorem rv_listT {p : Addr} {ys : List V} (h : SqT K H p ys) (q : ∀ l, H l = none → Q (.ref l) (upd H l (.lst ys))) : rListD K [.ref p] H Q := ⟨p, ys, rfl, .inr h, q⟩
theorem rv_tupL {p : Addr} {ys : List V} (h : SqL K H p ys) (q : ∀ l, H l = none → Q (.ref l) (upd H l (.tup ys))) : rTupleD K [.ref p] H Q := ⟨p, ys, rfl, .inl ⟨h, q⟩⟩
theorem rv_tupT {p : Addr} {ys : List V} (h : SqT K H p ys) (q : Q (.ref p) H) : rTupleD K [.ref p] H Q := ⟨p, ys, rfl, .inr ⟨h, q⟩⟩
theorem rd_iTup {R : It → Hp → Prop} (q : te σ H fun x H1 => ∃ a, x = .ref a ∧ (∃ xs, SqT K H1 a xs) ∧ R (Itt K a) H1) : iTup K te σ H R := q
theorem rv_iT {a : Addr} {xs : List V} {R : Addr → Prop} (h : SqT K H a xs) (q : R a) : ∃ a', V.ref a = .ref a' ∧ (∃ xs, SqT K H a' xs) ∧ R a' := ⟨a, rfl, ⟨xs, h⟩, q⟩
end
end D0
namespace D0
open PySem PySem.Spec PyProof.Rows L2
section
variable {K : PySem.W.Frag} {σ : L2.St} {H : Hp} {Q : VK} {te tl : TE} {ta : TA} {vs : List Nat} {j : Nat} {g : TG} {tt : TT}
theorem Tn.same {H H' : Hp} {v : V} {ns : List Int} (x : Tn H v ns) (t : Same H H') : Tn H' v ns := x.ts (.of_same t)
/-- a comprehension over a tuple of rows -/
theorem lc_rows {a : Addr} {xs : List V} {rs : List (List Int)} (f : V → List Int → V) (kp : List Int → Bool) (hl : ∀ Qe : VK, Qe (.ref a) H → tl σ H Qe) (hs : H a = some (.tup xs)) (hr : RowsAt H xs rs) (hz : xs.length ≤ 100000)
    (he : ∀ (x : V) (r : List Int) (H' : Hp) (Nx : VK) (E : Hp → Prop), r ∈ rs → Same H H' → Tn H' x r → (kp r = true → ∀ H'', Same H' H'' → Nx (f x r) H'') → (kp r = false → ∀ H'', Same H' H'' → E H'') →
      g x (wipe σ vs) H' fun σ2 H2 => wipe σ2 vs = wipe σ vs ∧ tt σ2 H2 fun b H3 => if b = true then te σ2 H3 Nx else E H3)
    (q : ∀ D H', H D = none → Same H H' → H' D = some (.lst (((xs.zip rs).filter fun p => kp p.2).map fun p => f p.1 p.2)) → Q (.ref D) H') : tLc (iTup K tl) g tt te vs σ H Q := by
  have hln := Paired.len hr
  refine hl _ ⟨a, rfl, ⟨_, SqT.of hs⟩, fun D hD => ?_⟩
  refine lc_tup (K := K) (a := a) (xs := xs) (fun i H' => Same H H' ∧ H' D = some (.lst ((((xs.zip rs).take i).filter fun p => kp p.2).map fun p => f p.1 p.2))) ⟨same_upd hD, upd_same⟩ (fun i H' _ h => SqT.of (h.1 _ _ hs)) ?_ ?_
  · rintro i x H' hx ⟨s, e⟩
    obtain ⟨r, er, hxr⟩ := Paired.get1 hr hx
    have ez : (xs.zip rs)[i]? = some (x, r) := by rw [List.getElem?_zip_eq_some]; exact ⟨hx, er⟩
    refine he x r H' _ _ (List.mem_of_getElem? er) s (hxr.same s) (fun hk H'' s2 => ?_) (fun hk H'' s2 => ?_)
    · refine ⟨_, s2 _ _ e, ?_, ?_, ?_⟩
      · have h1 := List.length_filter_le (fun p : V × List Int => kp p.2) ((xs.zip rs).take i)
        rw [List.length_map]
        have h2 : ((xs.zip rs).take i).length ≤ xs.length := by rw [List.length_take, List.length_zip]; omega
        exact sz4' (by
          have : i < xs.length := (List.getElem?_eq_some_iff.mp hx).1
          have : ((xs.zip rs).take i).length ≤ i := by rw [List.length_take]; omega
          omega)
      · intro b o eb
        rw [upd_ne (ne_of_none eb hD)]
        exact s2 _ _ (s _ _ eb)
      · rw [upd_same, List.take_add_one, ez, List.filter_append, List.map_append]
        simp [hk]
    · refine ⟨s.trans s2, ?_⟩
      rw [List.take_add_one, ez, List.filter_append, List.map_append]
      simp [hk, s2 _ _ e]
  · rintro H' ⟨s, e⟩
    rw [List.take_of_length_le (by rw [List.length_zip]; omega)] at e
    exact q D H' hD s e
theorem zsnd {α β γ : Type} (f : β → γ) : ∀ (xs : List α) (ys : List β), xs.length = ys.length → (xs.zip ys).map (fun p => f p.2) = ys.map f
  | [], [], _ => rfl
  | _ :: xs, _ :: ys, h => by
    rw [List.zip_cons_cons, List.map_cons, List.map_cons, zsnd f xs ys (Nat.succ.inj h)]
theorem zflen {α β : Type} (kp : β → Bool) : ∀ (xs : List α) (ys : List β), xs.length = ys.length → ((xs.zip ys).filter fun p => kp p.2).length = (ys.filter kp).length
  | [], [], _ => rfl
  | _ :: xs, y :: ys, h => by
    rw [List.zip_cons_cons, List.filter_cons, List.filter_cons]
    cases e : kp y <;> simp [zflen kp xs ys (Nat.succ.inj h)]
theorem ftrue {α : Type} (l : List α) : l.filter (fun _ => true) = l := List.filter_eq_self.mpr fun _ _ => rfl
def hat (hs : List Int) (i : Int) : Int := hs.getD i.toNat 0
def kb (hs r : List Int) : Bool := decide (r.getD 2 0 ≤ hat hs (r.getD 1 0) - hat hs (r.getD 0 0))
def ct (hs r : List Int) : Int := r.getD 3 0 * (if hat hs (r.getD 1 0) - hat hs (r.getD 0 0) - r.getD 2 0 < 0 then -(hat hs (r.getD 1 0) - hat hs (r.getD 0 0) - r.getD 2 0) else hat hs (r.getD 1 0) - hat hs (r.getD 0 0) - r.getD 2 0)
theorem rep_map (n : Nat) (k : Int) (h : k = (n : Int)) : (List.replicate k.toNat [V.int 0]).flatten = (List.replicate n (0 : Int)).map V.int := by
  subst h
  rw [Int.toNat_natCast]
  induction n with
  | zero => rfl
  | succ n ih => rw [List.replicate_succ, List.flatten_cons, ih, List.replicate_succ, List.map_cons]; rfl
def spKeeps : Sp := fun vs H Q _ => ∃ (v : V) (t : Addr) (n : Nat) (bs ps : List (List Int)) (hs : List Int), vs = [v, .ref t] ∧ SysAt H v n bs ps ∧ OkB n bs ∧ bs.length ≤ 4000 ∧ H t = some (.tup (hs.map V.int)) ∧ hs.length = n ∧ ∀ H', Same H H' → Q (.bl (bs.all (kb hs))) H'
def spCost : Sp := fun vs H Q _ => ∃ (v : V) (t : Addr) (n : Nat) (bs ps : List (List Int)) (hs : List Int), vs = [v, .ref t] ∧ SysAt H v n bs ps ∧ OkP n ps ∧ ps.length ≤ 4000 ∧ H t = some (.tup (hs.map V.int)) ∧ hs.length = n ∧ ∀ H', Same H H' → Q (.int (ps.map (ct hs)).sum) H'
def spBroken : Sp := fun vs H Q _ => ∃ (v : V) (t : Addr) (n : Nat) (bs ps : List (List Int)) (hs : List Int), vs = [v, .ref t] ∧ SysAt H v n bs ps ∧ OkB n bs ∧ bs.length ≤ 4000 ∧ H t = some (.lst (hs.map V.int)) ∧ hs.length = n ∧ ∀ H', Same H H' → Q (.int ((bs.filter fun r => !kb hs r).length : Int)) H'
def spSpent : Sp := fun vs H Q _ => ∃ (v : V) (t : Addr) (n : Nat) (bs ps : List (List Int)) (hs : List Int), vs = [v, .ref t] ∧ SysAt H v n bs ps ∧ OkP n ps ∧ ps.length ≤ 4000 ∧ H t = some (.lst (hs.map V.int)) ∧ hs.length = n ∧ Q (.int (ps.map (ct hs)).sum) H
def spClimbed : Sp := fun vs H Q _ => ∃ (v : V) (t : Addr) (n : Nat) (bs ps : List (List Int)) (hs : List Int), vs = [v, .ref t] ∧ SysAt H v n bs ps ∧ OkB n bs ∧ bs.length ≤ 4000 ∧ n ≤ 1000 ∧ H t = some (.lst (hs.map V.int)) ∧ hs.length = n ∧
  ∀ H' r, Same H H' → (r = .non ∨ ∃ (u : Addr) (hs' : List Int), r = .ref u ∧ H' u = some (.tup (hs'.map V.int)) ∧ hs'.length = n) → Q r H'
def spSigned : Sp := fun vs H Q _ => ∃ (b c : Addr) (cs : List Int) (m : Int), vs = [.ref b, .int m] ∧ 0 < m ∧ m < 2 ^ 1000 ∧ BagAt b c cs H ∧ ∀ H' (r : Int), Off b H H' → BagAt b c cs H' → Q (.int r) H'
def spTall : Sp := fun vs H Q _ => ∃ (b c : Addr) (cs : List Int) (v : V) (n : Nat) (bs ps : List (List Int)), vs = [.ref b, v] ∧ SysAt H v n bs ps ∧ OkB n bs ∧ bs.length ≤ 4000 ∧ n ≤ 1000 ∧ BagAt b c cs H ∧ ∀ H' l (hs : List Int), Off b H H' → BagAt b c cs H' → H' l = some (.lst (hs.map V.int)) → hs.length = n → l ≠ b → Q (.ref l) H'
def spBeside : Sp := fun vs H Q _ => ∃ (b c : Addr) (cs : List Int) (t : Addr) (hs : List Int), vs = [.ref b, .ref t] ∧ H t = some (.lst (hs.map V.int)) ∧ t ≠ b ∧ hs.length ≤ 1000 ∧ BagAt b c cs H ∧ ∀ H' l (hs' : List Int), Off b H H' → BagAt b c cs H' → H' l = some (.lst (hs'.map V.int)) → hs'.length = hs.length → l ≠ b → Q (.ref l) H'
theorem at_hat {hs : List Int} {n : Nat} {i : Int} (hl : hs.length = n) (h0 : 0 ≤ i) (h1 : i < n) : atI (hs.map V.int) i = some (.int (hat hs i)) := at_ints h0 (by rw [List.length_map, hl]; exact h1)
theorem setm_int (hs : List Int) (j : Nat) (x : Int) : (hs.map V.int).set j (.int x) = (hs.set j x).map V.int := by rw [List.map_set]
theorem ints_of : ∀ {ys : List V}, (∀ y ∈ ys, ∃ i : Int, y = .int i) → ∃ hs : List Int, ys = hs.map V.int
  | [], _ => ⟨[], rfl⟩
  | y :: r, h => by
    obtain ⟨hs, rfl⟩ := ints_of fun y hy => h y (List.mem_cons_of_mem _ hy)
    obtain ⟨i, rfl⟩ := h y (List.mem_cons_self ..)
    exact ⟨i :: hs, rfl⟩
def rIsN : R2 := fun x y H Q => y = .non ∧ Q (.bl (decide (x = .non))) H
def rNotN : R2 := fun x y H Q => y = .non ∧ Q (.bl (!decide (x = .non))) H
theorem dIsN {X : Cx} : OpR X (compareOp .Is) rIsN := op_isN
theorem dNotN {X : Cx} : OpR X (compareOp .IsNot) rNotN := op_notN
theorem rv_isNn (q : Q (.bl true) H) : rIsN .non .non H Q := ⟨rfl, q⟩
theorem rv_isNr {a : Addr} (q : Q (.bl false) H) : rIsN (.ref a) .non H Q := ⟨rfl, q⟩
theorem rv_isNi {a : Int} (q : Q (.bl false) H) : rIsN (.int a) .non H Q := ⟨rfl, q⟩
theorem rv_notNn (q : Q (.bl false) H) : rNotN .non .non H Q := ⟨rfl, q⟩
theorem rv_notNr {a : Addr} (q : Q (.bl true) H) : rNotN (.ref a) .non H Q := ⟨rfl, q⟩
theorem rv_notNi {a : Int} (q : Q (.bl true) H) : rNotN (.int a) .non H Q := ⟨rfl, q⟩
end
end D0
namespace D0
open PySem PySem.Spec PyProof.Rows L2
def scalV : V → Bool
  | .non => true
  | .bl _ => true
  | .int _ => true
  | .str _ => true
  | _ => false
/-- two values that hold the same data, nested at most n deep -/
def SameV (H : Hp) : Nat → V → V → Prop
  | 0, x, y => x = y ∧ scalV x = true
  | n + 1, x, y => (x = y ∧ scalV x = true) ∨ ∃ (a b : Addr) (xs ys : List V), x = .ref a ∧ y = .ref b ∧ xs.length ≤ 100000 ∧ ((H a = some (.tup xs) ∧ H b = some (.tup ys)) ∨ (H a = some (.lst xs) ∧ H b = some (.lst ys))) ∧ Paired (SameV H n) xs ys
theorem SameV.same {H H' : Hp} (s : Same H H') : ∀ (n : Nat) (x y : V), SameV H n x y → SameV H' n x y
  | 0, _, _, h => h
  | n + 1, x, y, h => by
    rcases h with h | ⟨a, b, xs, ys, e1, e2, l, h, p⟩
    · exact .inl h
    · refine .inr ⟨a, b, xs, ys, e1, e2, l, ?_, Paired.mapP p fun u v => SameV.same s n u v⟩
      rcases h with ⟨h1, h2⟩ | ⟨h1, h2⟩
      · exact .inl ⟨s _ _ h1, s _ _ h2⟩
      · exact .inr ⟨s _ _ h1, s _ _ h2⟩
def spSame (n : Nat) : Sp := fun vs H Q _ => ∃ x y : V, vs = [x, y] ∧ SameV H n x y ∧ ∀ H', Same H H' → Q (.bl true) H'
def spShuffle (K : PySem.W.Frag) : Sp := fun vs H Q _ => ∃ (b c : Addr) (cs : List Int) (t : Addr) (xs : List V), vs = [.ref b, .ref t] ∧ (SqL K H t xs ∨ SqT K H t xs) ∧ t ≠ b ∧ xs.length ≤ 1000 ∧ BagAt b c cs H ∧ ∀ H' l ys, Off b H H' → BagAt b c cs H' → H' l = some (.lst ys) → l ≠ b → l ≠ c → H l = none → ys.Perm xs → Q (.ref l) H'
section
variable {K : PySem.W.Frag} {Q : VK} {H : Hp}
theorem rv_isNb {b : Bool} (q : Q (.bl false) H) : rIsN (.bl b) .non H Q := ⟨rfl, q⟩
theorem rv_isNs {b : Str} (q : Q (.bl false) H) : rIsN (.str b) .non H Q := ⟨rfl, q⟩
end
end D0
namespace ET
open PySem AutoSeq1
theorem newE (tu : Addr) (xs : Array Value) (k : Nat) (dd : Option Addr) (ss : Array (Option Value)) :
    Meets (Builtin.«enumerate.__new__» ⟨[.type "enumerate", .ref tu], []⟩) (fun _ R z => z.heap.get? tu = some { cls := .type "tuple", dict := dd, data := .seq xs k, slots := ss } ∧
      R (.ok (.ret (.ref (z.heap.push { cls := .type "tuple_iterator", data := .fields #[.ref tu, .int 0 0] }).objs.size)))
        { z with heap := (z.heap.push { cls := .type "tuple_iterator", data := .fields #[.ref tu, .int 0 0] }).push { cls := .type "enumerate", data := .fields #[.none, .bool false, .ref z.heap.objs.size, rawInt 0, .none, .none] } }) :=
  .of_wp fun prog w A R z h => by
    obtain ⟨hp, gg, dr, tk, os⟩ := z; obtain ⟨ht, h⟩ := h
    have hsb := sub_enumerate
    have hT : Heap.IsTuple (Shared.heap ⟨hp, gg, dr, tk, os⟩) tu xs := ⟨_, ht, rfl, k, rfl⟩
    wp_walk using wpAny_loadPart' ht
    refine wpAny_stack_any fun _ => wpAny_pure ?_
    split
    · rename_i c _ _ _ _ _
      cases (c == Value.type "enumerate")
      · wp_walk using wpAny_loadPart' ht, wpAny_pyIter_tuple hT; exact ⟨_, rfl, h⟩
      · wp_walk using wpAny_loadPart' ht, wpAny_pyIter_tuple hT; exact ⟨_, rfl, h⟩
    · wp_walk using wpAny_loadPart' ht, wpAny_pyIter_tuple hT; exact ⟨_, rfl, h⟩
section
variable {prog : Program} {w : World} {A : Around} {E : Value → Shared → Prop} {z : Shared}
theorem callE {tu : Addr} {xs : Array Value} {Q : Value → Shared → Prop} (hT : z.heap.IsTuple tu xs)
    (h : ∀ g, IsEnum g (z.heap.objs.size + 1) z.heap.objs.size 0 .none → g.IsTupleIter z.heap.objs.size tu 0 → g.objs.size = z.heap.objs.size + 2 →
      (∀ b o, z.heap.get? b = some o → g.get? b = some o) → Q (.ref (z.heap.objs.size + 1)) { z with heap := g }) :
    wpAny (model prog w) A (call (.type "enumerate") [.ref tu]) Q E z := by
  obtain ⟨⟨c, dd, dt, ss⟩, ht, hc, k, hd⟩ := hT
  replace hc : c = .type "tuple" := hc
  replace hd : dt = .seq xs k := hd
  subst hc hd
  refine callType_new F.called_enumerate (by decide) (F.typeCall_enumerate_1 _) (F.newCall_enumerate_1 _) (fun ob => F.args_object_init_2 ob _) F.entry_enumerate_new (newE tu xs k dd ss) ⟨ht, ?_⟩
  have hz : (z.heap.push { cls := .type "tuple_iterator", data := .fields #[.ref tu, .int 0 0] }).objs.size = z.heap.objs.size + 1 := Heap.size_push ..
  show _ ∧ _
  rw [hz]
  have en : IsEnum ((z.heap.push { cls := .type "tuple_iterator", data := .fields #[.ref tu, .int 0 0] }).push
      { cls := .type "enumerate", data := .fields #[.none, .bool false, .ref z.heap.objs.size, rawInt 0, .none, .none] }) (z.heap.objs.size + 1) z.heap.objs.size 0 .none := by
    have y := Heap.get?_push_size (z.heap.push { cls := .type "tuple_iterator", data := .fields #[.ref tu, .int 0 0] }) (o := { cls := .type "enumerate", data := .fields #[.none, .bool false, .ref z.heap.objs.size, rawInt 0, .none, .none] }) rfl
    rw [hz] at y; exact y
  exact ⟨⟨_, en, rfl⟩, h _ en ⟨_, Heap.get?_push_of_some _ (Heap.get?_push_size _ rfl), rfl, rfl⟩ (by rw [Heap.size_push, hz]) fun b o y => Heap.get?_push_of_some _ (Heap.get?_push_of_some _ y)⟩
theorem nextT {zi tu : Addr} {i : Nat} {xs : Array Value} {x : Value} {Q : Value → Shared → Prop} (ti : z.heap.IsTupleIter zi tu i) (tt : z.heap.IsTuple tu xs) (hx : xs[i]? = some x)
    (hQ : ∀ g, g.IsTupleIter zi tu (i + 1) → Heap.SameBut zi z.heap g → Q x { z with heap := g }) : wpAny (model prog w) A (Builtin.SmallTypes.nextOf (.ref zi)) Q E z := by
  obtain ⟨oi, hoi, hci, hdi⟩ := id ti
  obtain ⟨ot, hot, _, nt, hdt⟩ := tt
  unfold Builtin.SmallTypes.nextOf
  refine wpAny_bind (wpAny_callSpecial?_slot (name := Str.ofString "__next__") ti.typeIs F.slot_tuple_iterator_next (wpAny_call_entry F.slot_tuple_iterator_next ti.typeIs F.entry_tuple_iterator_next ?_ (F.args_tuple_iterator_next_1 _)))
  show wpAny _ _ (field (.ref zi) 0 >>= _) _ _ z
  refine wpAny_bind (wpAny_field hoi hdi (x := .ref tu) rfl ?_)
  show wpAny _ _ (if (Value.ref tu == Value.none) = true then _ else _) _ _ z
  rw [if_neg (show ¬ ((Value.ref tu == Value.none) = true) from Bool.false_ne_true)]
  show wpAny _ _ (field (.ref zi) 1 >>= _) _ _ z
  refine wpAny_bind (wpAny_field hoi hdi (x := .int i 0) rfl ?_)
  show wpAny _ _ (seqItems? (.ref tu) >>= _) _ _ z
  refine wpAny_bind (wpAny_seqItems hot hdt ?_)
  simp only [Int.toNat_natCast, hx]
  refine wpAny_bind (wpAny_setField hoi hdi (by simp) (wpAny_pure ⟨x, rfl, wpAny_pure (hQ _ ?_ (Heap.SameBut.update ..))⟩))
  exact ⟨_, Heap.get?_update_self _ hoi (Obj.isFreed_of_fields (Obj.data_mapFields hdi _)), (Obj.cls_mapFields ..).trans hci, by rw [Obj.data_mapFields hdi]; simp [rawInt]⟩
theorem nextTE {zi tu : Addr} {i : Nat} {xs : Array Value} {Q : Value → Shared → Prop} (hh : A.handled = none) (ti : z.heap.IsTupleIter zi tu i) (tt : z.heap.IsTuple tu xs) (hx : xs[i]? = none)
    (hE : ∀ g x, Heap.ExtBut zi z.heap g → (∃ o, g.get? x = some o ∧ o.cls = .type "StopIteration") → E (.ref x) { z with heap := g }) : wpAny (model prog w) A (Builtin.SmallTypes.nextOf (.ref zi)) Q E z := by
  obtain ⟨oi, hoi, hci, hdi⟩ := id ti
  obtain ⟨ot, hot, _, nt, hdt⟩ := tt
  unfold Builtin.SmallTypes.nextOf
  refine wpAny_bind (wpAny_callSpecial?_slot (name := Str.ofString "__next__") ti.typeIs F.slot_tuple_iterator_next (wpAny_call_entry F.slot_tuple_iterator_next ti.typeIs F.entry_tuple_iterator_next ?_ (F.args_tuple_iterator_next_1 _)))
  show wpAny _ _ (field (.ref zi) 0 >>= _) _ _ z
  refine wpAny_bind (wpAny_field hoi hdi (x := .ref tu) rfl ?_)
  show wpAny _ _ (if (Value.ref tu == Value.none) = true then _ else _) _ _ z
  rw [if_neg (show ¬ ((Value.ref tu == Value.none) = true) from Bool.false_ne_true)]
  show wpAny _ _ (field (.ref zi) 1 >>= _) _ _ z
  refine wpAny_bind (wpAny_field hoi hdi (x := .int i 0) rfl ?_)
  show wpAny _ _ (seqItems? (.ref tu) >>= _) _ _ z
  refine wpAny_bind (wpAny_seqItems hot hdt ?_)
  simp only [Int.toNat_natCast, hx]
  refine wpAny_bind (wpAny_rule (wpAny_bind (wpAny_setField hoi hdi (by simp) ?_)))
  show wpAny _ _ (newExc (.type "StopIteration") [] >>= fun _ => _) _ _ _
  refine wpAny_bind ?_
  simp only [newExc, newTuple]
  refine wpAny_bind (wpAny_newObj_type ?_ (by size_fits)); refine wpAny_bind (m := firstArgMember _ _) (wpAny_of_eq (a := Value.none) (by first | rfl | (simp only [firstArgMember]; rfl)) ?_)
  refine wpAny_newObj_type ?_ (by size_fits); simp only [raiseNew]
  refine wpAny_bind (wpAny_handled ?_); first | rw [show A.in1.handled = none from hh] | rw [hh]
  refine wpAny_bind (wpAny_pure (wpAny_throw ?_)); exact hE _ _ (((Heap.SameBut.update ..).extBut.push _).push _) ⟨_, Heap.get?_push_size _ rfl, rfl⟩
end
theorem drawsT {prog : Program} {w : World} {A : Around} (hh : A.handled = none) (zi tu : Addr) (xs : Array Value) (hne : zi ≠ tu) :
    Draws prog w A.in1 zi [zi, tu] xs.size (fun i x => xs[i]? = some x) (fun i h => h.IsTupleIter zi tu i ∧ h.IsTuple tu xs) where
  live := fun i h st => let ⟨⟨o, ho, _⟩, _⟩ := st; ⟨o, ho⟩
  frame := fun i h h' st k => ⟨st.1.at fun o q => k zi (by simp) o q, by
    obtain ⟨o, ho, r⟩ := st.2
    exact ⟨o, k tu (by simp) o ho, r⟩⟩
  item := fun i z Q E hi st hQ => by
    obtain ⟨x, hx⟩ : ∃ x, xs[i]? = some x := ⟨xs[i], by simp [hi]⟩
    refine nextT st.1 st.2 hx fun g hg sb => ?_
    obtain ⟨o, ho, r⟩ := st.2
    exact hQ x g z.toks hx ⟨hg, ⟨o, (sb.2 tu (Ne.symm hne)).trans ho, r⟩⟩ sb
  done := fun z Q E st hE => nextTE hh st.1 st.2 (by simp) hE
end ET
namespace D0
open PySem PySem.Spec PyProof.Rows L2
/-- the tuple at a, each item in a new pair -/
def Itet (K : PySem.W.Frag) (a : Addr) : It :=
  ⟨fun i H => ∃ (xs : List V) (x : V), SqT K H a xs ∧ xs[i]? = some x, fun i H v H' => ∃ T x, v = .ref T ∧ H T = none ∧ H' = upd H T (.tup [.int (i : Nat), x]) ∧ ∀ xs, SqT K H a xs → xs[i]? = some x, fun i H => ∃ xs : List V, SqT K H a xs ∧ xs.length ≤ i⟩
theorem turn_enumT {P : Program} {w : World} {K : PySem.W.Frag} {elts : List Expr} {kk : Nat} {tpos : Pos} (a e zi : Addr) :
    Turn P w K (.Tuple elts kk tpos) (Itet K a) [e, zi] e (fun i h => (∃ old, IsEnum h e zi ((i : Nat) : Int) old) ∧ h.IsTupleIter zi a i ∧ e ≠ zi) where
  mem := by simp
  obj := fun i h st b hb => by
    obtain ⟨⟨old, en⟩, ⟨o, ho, hc, hd⟩, _⟩ := st
    rcases (show b = e ∨ b = zi by simpa using hb) with y | y
    · rw [y]; exact ⟨_, en, fun v q => nomatch q⟩
    · rw [y]; exact ⟨o, ho, fun v q => by rw [hd] at q; cases q⟩
  keep := fun i h h' st k => let ⟨⟨old, en⟩, hi, hn⟩ := st; ⟨⟨old, k e (by simp) _ en⟩, hi.at fun o q => k zi (by simp) o q, hn⟩
  item := by
    intro X hP hw hK hc i pins s σ H E I hf st hg
    subst hP hw hK
    obtain ⟨⟨old, en⟩, ti, hn⟩ := st
    obtain ⟨xs, x, hq, hx⟩ := hg
    obtain ⟨its, rv, p, hz⟩ := I.tuple hq
    have tt : s.heap.IsTuple a its.toArray := p
    obtain ⟨u, hu, ru⟩ := rv.get hx
    have hza : zi ≠ a := by
      rintro rfl
      obtain ⟨o, ho, c1, _⟩ := ti
      obtain ⟨o', ho', c2, _⟩ := tt
      rw [ho] at ho'; cases ho'
      rw [c1] at c2
      exact absurd c2 (by decide)
    have hea : e ≠ a := by
      rintro rfl
      obtain ⟨o', ho', c2, _⟩ := tt
      rw [en] at ho'; cases ho'
      exact absurd (show Value.type "enumerate" = Value.type "tuple" from c2) (by decide)
    have lt : i < its.toArray.size := by
      have := (List.getElem?_eq_some_iff.mp hu).1
      simpa using this
    have hel : e < s.heap.objs.size := Heap.lt_size en
    have hil : zi < s.heap.objs.size := by obtain ⟨_, q, _⟩ := ti; exact Heap.lt_size q
    refine wpAny_pyNext_enum_itemD (ET.drawsT (I.ok.hd hc) zi a its.toArray hza) en ⟨ti, tt⟩ lt hn (by simp [hn, hea]) fun y h' tk hy ho st' hT hsz hk => ?_
    have ey : y = u := by
      have h1 : its[i]? = some y := by simpa using hy
      rw [hu] at h1; exact (Option.some.inj h1).symm
    subst ey
    refine ⟨_, rfl, wpAny_letOwnedTupleGo_enum (s := { s with heap := h', toks := tk + 1 }) ho fun h2 en2 sb => ?_⟩
    have hT2 : h2.get? s.heap.objs.size = some { cls := .type "tuple", data := .seq #[.int i tk, y] } := (sb.2 _ (Nat.ne_of_gt hel)).trans hT
    have new : ObjOk X.prog X.w (upd H s.heap.objs.size (.tup [.int (i : Nat), x])) h2 s.heap.objs.size (.tup [.int (i : Nat), x]) := ⟨by show 2 ≤ sizeLine; decide, [.int i tk, y], .cons ⟨_, rfl⟩ (.cons ru .nil), ⟨_, hT2, rfl, _, rfl⟩⟩
    have I1 : Inv X pins σ (upd H s.heap.objs.size (.tup [.int (i : Nat), x])) { s with heap := h2, toks := tk + 1 } :=
      I.turnedNew (ch := [e, zi]) (fun b ob hb q => (sb.2 b (fun y => hb (by simp [y]))).trans (hk b ob (fun y => hb (by simp [y])) (fun y => hb (by simp [y])) q)) hf (Nat.le_refl _) new
    refine ⟨.ref s.heap.objs.size, _, I1, rfl, ⟨_, x, rfl, I.hok.fresh (Nat.le_refl _), rfl, fun ys hy => by rw [I.tuple_inj hy hq]; exact hx⟩, ⟨⟨y, ?_⟩, st'.1.at fun o q => (sb.2 zi (Ne.symm hn)).trans q, hn⟩, fun b hb => ?_⟩
    · rw [show ((i + 1 : Nat) : Int) = (i : Int) + 1 by omega]; exact en2
    · have lb : b < s.heap.objs.size := by
        rcases (show b = e ∨ b = zi by simpa using hb) with y | y
        · rw [y]; exact hel
        · rw [y]; exact hil
      rw [upd_ne (Nat.ne_of_lt lb)]
      exact (hf b hb).1
  done := by
    intro X hP hw hK hc i pins s σ H E I hf st hg
    subst hP hw hK
    obtain ⟨⟨old, en⟩, ti, hn⟩ := st
    obtain ⟨xs, hq, hx⟩ := hg
    obtain ⟨its, rv, p, hz⟩ := I.tuple hq
    have tt : s.heap.IsTuple a its.toArray := p
    obtain ⟨f0, f1, f2, f3, f4, f5⟩ := hf zi (by simp)
    have hl := rv.length
    have hT : s.TypeIs (.ref e) "enumerate" := ⟨_, en, rfl⟩
    unfold pyNext
    refine wpAny_bind (wpAny_attempt (wpAny_callSpecial?_slot (name := Str.ofString "__next__") hT F.slot_enumerate_next (wpAny_call_entry F.slot_enumerate_next hT F.entry_enumerate_next ?_ (F.args_enumerate_next_1 _))))
    show wpAny _ _ (field (.ref e) 2 >>= fun _ => _) _ _ _
    refine wpAny_bind (wpAny_field en rfl (x := .ref zi) rfl ?_)
    refine wpAny_bind (ET.nextTE (A := X.A.in1) (I.ok.hd hc) ti tt (by simp; omega) fun h' x eb hx' => ?_)
    obtain ⟨o, ho, hco⟩ := hx'
    refine wpAny_bind (wpAny_isInstance (T := "StopIteration") (b := true) ⟨o, ho, hco⟩ isSubtype_stop ?_)
    exact wpAny_pure ⟨rfl, I.turned (t' := s.toks) (fun b o hb q => eb b o hb q) f0 f1 f3 f4 f5⟩
  self := fun A i s Q E st h => let ⟨⟨_, en⟩, _⟩ := st; wpAny_pyIter_enum en h
def iEnumT (K : PySem.W.Frag) (ta : TA) : TI := fun σ H R => ta σ H fun vs H1 => ∃ a xs, vs = [.ref a] ∧ SqT K H1 a xs ∧ R (Itet K a) H1
theorem dpi_enumT {X : Cx} (K : PySem.W.Frag) {e : Expr} {ta : TA} {p pos tpos : Pos} {elts : List Expr} {kk : Nat} (hg : Gl X "enumerate") (hm : X.mg "enumerate" = none) (ha : PA X [e] ta) (hK : X.K = K := by rfl) (hs : starEach [e] X.env = [(false, eval e X.env)] := by rfl) :
    PI X (.Tuple elts kk tpos) (.Call (.Name "enumerate" p) [e] [] pos) (iEnumT K ta) := by
  subst hK
  refine ⟨fun pins s σ H R I h => ?_⟩
  refine Call_ (ld_blt I hg hm boot_enumerate (PyProof.Rows.callWith_type1 (thn (ha.run pos pins s σ H _ I h) fun us s1 ⟨vs, H1, I1, r1, q1⟩ => ?_) hs rfl))
  obtain ⟨a, xs, ex, hq, q⟩ := q1
  subst ex
  cases r1 with
  | cons r rr =>
    cases rr
    cases r
    obtain ⟨its, rv, p', hz⟩ := I1.tuple hq
    refine ET.callE (show s1.heap.IsTuple a its.toArray from p') fun h' en hit hsz hk => wpAny_pyIter_enum en ?_
    have I2 : Inv X pins σ H1 { s1 with heap := h' } := I1.kept (t' := s1.toks) hk
    refine ⟨s1.heap.objs.size + 1, [s1.heap.objs.size + 1, s1.heap.objs.size], _, _, H1, rfl, I2, turn_enumT a (s1.heap.objs.size + 1) s1.heap.objs.size, ⟨⟨.none, en⟩, hit, Nat.succ_ne_self _⟩, fun b hb => ?_, q⟩
    have lb : s1.heap.objs.size ≤ b := by
      rcases (show b = s1.heap.objs.size + 1 ∨ b = s1.heap.objs.size by simpa using hb) with y | y
      · rw [y]; exact Nat.le_add_right _ _
      · rw [y]; exact Nat.le_refl _
    exact I1.fpOk lb (I1.hok.fresh lb)
end D0
namespace D0
open PySem PySem.Spec PyProof.Rows L2
theorem sqt_set {K : PySem.W.Frag} {H : Hp} {b c : Addr} {o : HO} {xs : List V} (n : c ≠ b) (e : SqT K H c xs) : SqT K (upd H b o) c xs := (Off.refl b H).set.seqT n e
theorem sqt_new {K : PySem.W.Frag} {H : Hp} {p c : Addr} {o : HO} {xs : List V} (n : H p = none) (e : SqT K H c xs) : SqT K (upd H p o) c xs := by
  rcases e with (e | ⟨u, e⟩) | e
  · exact .inl (.inl (same_upd n _ _ e))
  · exact .inl (.inr ⟨u, same_upd n _ _ e⟩)
  · exact .inr e
theorem rv_pop {l : Addr} {xs : List V} {i : Int} {k : Nat} {y : V} {H : Hp} {Q : VK} (h : H l = some (.lst xs)) (h0 : 0 ≤ i) (h1 : i < (xs.length : Int)) (h2 : xs.length ≤ 100000) (hk : k = i.toNat) (hy : xs[k]? = some y) (q : Q y (upd H l (.lst (xs.eraseIdx k)))) : rPopAt (.ref l) [.int i] H Q :=
  ⟨l, xs, i, k, y, rfl, rfl, h, by omega, by omega, by rw [hk]; exact seqIndex_of h0 h1, hy, q⟩
theorem erase_perm : ∀ (l : List V) (k : Nat) (y : V), l[k]? = some y → (y :: l.eraseIdx k).Perm l
  | [], _, _, h => by simp at h
  | x :: r, 0, y, h => by
    have e : x = y := by simpa using h
    subst e
    exact List.Perm.refl _
  | x :: r, k + 1, y, h => by
    have ih := erase_perm r k y (by simpa using h)
    rw [List.eraseIdx_cons_succ]
    exact (List.Perm.swap x y _).trans (ih.cons x)
theorem perm_take {ms rs : List V} {xs : List V} {k : Nat} {y : V} (p : (ms ++ rs).Perm xs) (hy : rs[k]? = some y) : (ms ++ [y] ++ rs.eraseIdx k).Perm xs := by
  refine List.Perm.trans ?_ p
  rw [List.append_assoc]
  exact List.Perm.append_left ms (erase_perm rs k y hy)
end D0
namespace D0
open PySem PySem.Spec PyProof.Rows L2
/-! ### xs[i] += e -/
def rGetL (K : PySem.W.Frag) : V → V → Hp → VK → Prop := fun x y H Q => ∃ p xs i v, x = .ref p ∧ y = .int i ∧ SqL K H p xs ∧ 0 ≤ i ∧ atI xs i = some v ∧ Q v H
theorem dGetL {X : Cx} (K : PySem.W.Frag) (hK : X.K = K := by rfl) : PGet X (rGetL K) := by
  subst hK
  intro pins s σ H o i ov iv Q I ro ri h
  obtain ⟨p, xs, k, v, rfl, rfl, hq, h0, he, q⟩ := h
  cases ro
  obtain ⟨t, rfl⟩ := ri
  obtain ⟨its, r, pl, hz⟩ := I.list hq
  obtain ⟨j, h1, h2, h3, h4, h5⟩ := atI_get he
  obtain ⟨w, ew, rw'⟩ := r.get h2
  have hn := line63
  have hj : k.toNat = j := by
    rw [seqIndex_of h0 h5] at h1
    exact Option.some.inj h1
  exact wpAny_getItem_list pl.isList h0 (by omega) (by rw [hj]; simpa using ew) ⟨v, H, I, rw', q⟩
section
variable {K : PySem.W.Frag} {σ : L2.St} {H : Hp} {Q : VK} {D : Ends} {to ti te : TE} {ta : TA} {v : V}
theorem rd_augS {tget : V → V → Hp → VK → Prop} {tip : TIp} {tset : TSet} (q : to σ H fun o H1 => ti σ H1 fun i H2 => tget o i H2 fun x H3 => te σ H3 fun y H4 => tip x y H4 fun z H5 => tset o i z H5 fun H6 => D.nx σ H6) : tAugS to ti te tget tip tset D σ H := q
theorem rv_get {p : Addr} {xs : List V} {i : Int} (h : SqL K H p xs) (h0 : 0 ≤ i) (c : atI xs i = some v) (q : Q v H) : rGetL K (.ref p) (.int i) H Q := ⟨p, xs, i, v, rfl, rfl, h, h0, c, q⟩
theorem rv_ipI {f : Int → Int → Int} {i j : Int} (q : Q (.int (f i j)) H) : ipI f (.int i) (.int j) H Q := ⟨i, j, rfl, rfl, q⟩
end
/-! ### zip of two lists or tuples -/
theorem dpi_zipA {X : Cx} (K : PySem.W.Frag) {e e2 : Expr} {ta : TA} {p pos tpos : Pos} {elts : List Expr} {kk : Nat} (hg : Gl X "zip") (hm : X.mg "zip" = none) (ha : PA X [e, e2] ta) (hK : X.K = K := by rfl)
    (hs : starEach [e, e2] X.env = (false, eval e X.env) :: starEach [e2] X.env := by rfl) (hpl : (backTo pos (starEach [e2] X.env)).any (·.1) = false := by rfl) : PI X (.Tuple elts kk tpos) (.Call (.Name "zip" p) [e, e2] [] pos) (RZ.iZipA K ta) := by
  subst hK
  exact RZ.pi_zipA hg hm ha hs hpl
section
variable {K : PySem.W.Frag} {σ : L2.St} {H : Hp} {ta : TA}
theorem rd_zipA {R : It → Hp → Prop} (q : ta σ H fun vs H1 => ∃ a b xs ys, vs = [.ref a, .ref b] ∧ ((SqL K H1 a xs ∧ SqL K H1 b ys ∧ R (Itz K a b) H1) ∨ (SqT K H1 a xs ∧ SqT K H1 b ys ∧ R (RZ.ItzT K a b) H1))) : RZ.iZipA K ta σ H R := q
theorem rd_enumT {R : It → Hp → Prop} (q : ta σ H fun vs H1 => ∃ a xs, vs = [.ref a] ∧ SqT K H1 a xs ∧ R (Itet K a) H1) : iEnumT K ta σ H R := q
theorem rv_enumT {a : Addr} {xs : List V} {R : Addr → Prop} (h : SqT K H a xs) (q : R a) : ∃ a' xs', [V.ref a] = [.ref a'] ∧ SqT K H a' xs' ∧ R a' := ⟨a, xs, rfl, h, q⟩
end
/-! ### forces summed at each unknown -/
def netAt : List (List Int) → List Int → Int → Int
  | r :: rs, f :: fs, x => netAt rs fs x + ((if r.getD 1 0 = x then f else 0) - (if r.getD 0 0 = x then f else 0))
  | _, _, _ => 0
theorem netAt_snoc : ∀ (rs : List (List Int)) (fs : List Int) (r : List Int) (f x : Int), rs.length = fs.length → netAt (rs ++ [r]) (fs ++ [f]) x = netAt rs fs x + ((if r.getD 1 0 = x then f else 0) - (if r.getD 0 0 = x then f else 0))
  | [], [], r, f, x, _ => by show (0 : Int) + _ = 0 + _; rfl
  | r' :: rs, f' :: fs, r, f, x, h => by
    show netAt (rs ++ [r]) (fs ++ [f]) x + _ = netAt rs fs x + _ + _
    rw [netAt_snoc rs fs r f x (Nat.succ.inj h)]
    omega
def netL (n : Nat) (rs : List (List Int)) (fs : List Int) : List Int := (List.range n).map fun x : Nat => netAt rs fs (x : Int)
theorem set_range (n : Nat) (g : Nat → Int) (k : Nat) (d : Int) (hk : k < n) : ((List.range n).map g).set k (g k + d) = (List.range n).map fun x => g x + (if k = x then d else 0) := by
  apply List.ext_getElem?
  intro i
  rw [List.getElem?_set, List.getElem?_map, List.getElem?_map, List.length_map, List.length_range]
  by_cases hi : i < n
  · rw [List.getElem?_range hi]
    by_cases e : k = i
    · subst e; simp [hk]
    · simp [e]
  · have e : (List.range n)[i]? = none := by simp; omega
    rw [e]
    by_cases q : k = i
    · omega
    · simp [q]
theorem netL_len (n : Nat) (rs : List (List Int)) (fs : List Int) : (netL n rs fs).length = n := by unfold netL; rw [List.length_map, List.length_range]
theorem netL_hat (n : Nat) (rs : List (List Int)) (fs : List Int) (k : Nat) (hk : k < n) : hat (netL n rs fs) (k : Int) = netAt rs fs (k : Int) := by
  unfold hat netL
  rw [Int.toNat_natCast, List.getD_eq_getElem?_getD, List.getElem?_map, List.getElem?_range hk]
  rfl
theorem hat_set (l : List Int) (j k : Nat) (d : Int) (hj : j < l.length) : hat (l.set j d) (k : Int) = if j = k then d else hat l (k : Int) := by
  unfold hat
  rw [Int.toNat_natCast, List.getD_eq_getElem?_getD, List.getD_eq_getElem?_getD, List.getElem?_set]
  by_cases e : j = k
  · rw [if_pos e, if_pos e, if_pos hj]; rfl
  · rw [if_neg e, if_neg e]
theorem hat_ext {l m : List Int} (hl : l.length = m.length) (h : ∀ k : Nat, k < l.length → hat l (k : Int) = hat m (k : Int)) : l = m := by
  apply List.ext_getElem hl
  intro k h1 h2
  have := h k h1
  unfold hat at this
  rw [Int.toNat_natCast, List.getD_eq_getElem?_getD, List.getD_eq_getElem?_getD, List.getElem?_eq_getElem h1, List.getElem?_eq_getElem h2] at this
  exact this
theorem net_step (n : Nat) (rs : List (List Int)) (fs : List Int) (r : List Int) (v : Int) (ks ke : Nat) (hl : rs.length = fs.length) (h0 : r.getD 0 0 = (ks : Int)) (h1 : r.getD 1 0 = (ke : Int)) (hs : ks < n) (he : ke < n) :
    ((netL n rs fs).set ks (hat (netL n rs fs) ks - v)).set ke (hat ((netL n rs fs).set ks (hat (netL n rs fs) ks - v)) ke + v) = netL n (rs ++ [r]) (fs ++ [v]) := by
  have ln := netL_len n rs fs
  apply hat_ext
  · rw [List.length_set, List.length_set, ln, netL_len]
  · intro k hk
    rw [List.length_set, List.length_set, ln] at hk
    rw [hat_set _ ke k _ (by rw [List.length_set, ln]; exact he), hat_set _ ks ke _ (by rw [ln]; exact hs), hat_set _ ks k _ (by rw [ln]; exact hs), netL_hat n rs fs ks hs, netL_hat n rs fs ke he, netL_hat n rs fs k hk, netL_hat n (rs ++ [r]) (fs ++ [v]) k hk, netAt_snoc rs fs r v k hl, h0, h1]
    by_cases a : ke = k
    · subst a
      by_cases c : ks = ke
      · subst c; simp
      · have c' : ¬ ((ks : Int) = (ke : Int)) := by omega
        simp [c, c']
    · have a' : ¬ ((ke : Int) = (k : Int)) := by omega
      by_cases c : ks = k
      · subst c; simp [a, a']; omega
      · have c' : ¬ ((ks : Int) = (k : Int)) := by omega
        simp [a, a', c, c']
theorem ixN_of {n : Nat} {k : Nat} (h : k < n) : ixN n (k : Int) = some k := by
  unfold ixN
  rw [if_pos (by omega), if_pos (by omega)]
  simp
end D0
namespace D0
open PySem PySem.Spec PyProof.Rows L2
section
variable {K : PySem.W.Frag} {σ : L2.St} {H : Hp} {Q : VK} {te : TE} {ta : TA} {vs : List Nat} {g : TG}
/-- [e for row, v in zip(rows, ints)] over two tuples -/
theorem lc_zipR {a b : Addr} {xs : List V} {rs : List (List Int)} {fs : List Int} (f : List Int → Int → V) (hl : ∀ Qe : List V → Hp → Prop, Qe [.ref a, .ref b] H → ta σ H Qe) (ha : H a = some (.tup xs)) (hr : RowsAt H xs rs) (hb : H b = some (.tup (fs.map V.int))) (hlen : fs.length = rs.length) (hz : xs.length ≤ 100000)
    (he : ∀ (x : V) (r : List Int) (v : Int) (T : Addr) (H' : Hp) (Nx : VK) (E : Hp → Prop), r ∈ rs → Same H H' → Tn H' x r → H' T = some (.tup [x, .int v]) → (∀ H'', Same H' H'' → Nx (f r v) H'') →
      g (.ref T) (wipe σ vs) H' fun σ2 H2 => wipe σ2 vs = wipe σ vs ∧ tYes σ2 H2 fun b H3 => if b = true then te σ2 H3 Nx else E H3)
    (q : ∀ D H', H D = none → Same H H' → H' D = some (.lst ((rs.zip fs).map fun p => f p.1 p.2)) → Q (.ref D) H') : tLc (RZ.iZipA K ta) g tYes te vs σ H Q := by
  have hln := Paired.len hr
  refine hl _ ⟨a, b, xs, fs.map V.int, rfl, .inr ⟨SqT.of ha, SqT.of hb, fun D hD => ?_⟩⟩
  refine ⟨fun i m H' => i + m = xs.length ∧ Same H H' ∧ H' D = some (.lst (((rs.zip fs).take i).map fun p => f p.1 p.2)), ⟨xs.length, by omega, same_upd hD, upd_same⟩, ?_⟩
  rintro i m H' ⟨em, s, e⟩
  by_cases hi : i < xs.length
  · have hx : xs[i]? = some xs[i] := List.getElem?_eq_getElem hi
    obtain ⟨r, er, hxr⟩ := Paired.get1 hr hx
    have hif : i < fs.length := by omega
    have ev : fs[i]? = some fs[i] := List.getElem?_eq_getElem hif
    have hy : (fs.map V.int)[i]? = some (.int fs[i]) := by rw [List.getElem?_map, ev]; rfl
    refine .inr ⟨⟨_, _, _, _, SqT.of (s _ _ ha), SqT.of (s _ _ hb), hx, hy⟩, fun H2 => Same H H2 ∧ H2 D = some (.lst (((rs.zip fs).take (i + 1)).map fun p => f p.1 p.2)), fun H2 h2 => ⟨m - 1, by omega, by omega, h2.1, h2.2⟩, ?_⟩
    rintro w H2 ⟨T, x, y, rfl, hT, rfl, gx, gy⟩
    have e1 : x = xs[i] := Option.some.inj ((gx _ (SqT.of (s _ _ ha))).symm.trans hx)
    have e2 : y = .int fs[i] := Option.some.inj ((gy _ (SqT.of (s _ _ hb))).symm.trans hy)
    subst e1 e2
    have s2 := s.trans (same_upd hT (o := .tup [xs[i], .int fs[i]]))
    refine he xs[i] r fs[i] T _ _ _ (List.mem_of_getElem? er) s2 (hxr.same s2) upd_same fun H'' s3 => ?_
    have e3 := s3 _ _ (same_upd hT _ _ e)
    refine ⟨_, e3, ?_, ?_, ?_⟩
    · rw [List.length_map]
      exact sz4' (by rw [List.length_take, List.length_zip]; omega)
    · intro b' o eb
      rw [upd_ne (ne_of_none eb hD)]
      exact s3 _ _ (s2 _ _ eb)
    · have ez : (rs.zip fs)[i]? = some (r, fs[i]) := by rw [List.getElem?_zip_eq_some]; exact ⟨er, ev⟩
      rw [upd_same, List.take_add_one, ez, List.map_append]
      rfl
  · refine .inl ⟨⟨xs, _, SqT.of (s _ _ ha), SqT.of (s _ _ hb), .inl (by omega)⟩, ?_⟩
    rw [List.take_of_length_le (by rw [List.length_zip]; omega)] at e
    exact q D H' hD s e
end
def wsum (rs : List (List Int)) (fs : List Int) : Int := ((rs.zip fs).map fun p => p.1.getD 2 0 * p.2).sum
end D0
namespace D0
open PySem PySem.Spec PyProof.Rows L2
theorem eqv_ints : ∀ l m : List Int, PyData.eqvAll (l.map PyData.int) (m.map PyData.int) = decide (l = m)
  | [], [] => rfl
  | [], _ :: _ => rfl
  | _ :: _, [] => rfl
  | x :: l, y :: m => by
    show (PyData.eqv (.int x) (.int y) && PyData.eqvAll (l.map PyData.int) (m.map PyData.int)) = _
    rw [eqv_ints l m, show PyData.eqv (.int x) (.int y) = (x == y) from rfl]
    by_cases h : x = y
    · subst h; simp
    · simp [h]
theorem dp_ints (K : PySem.W.Frag) (H : Hp) : ∀ l : List Int, DpAll K H (l.map V.int) (l.map PyData.int)
  | [] => .nil
  | x :: l => .cons (.int x) (dp_ints K H l)
section
variable {X : Cx} (K : PySem.W.Frag)
theorem dEqD (hu : X.A.units + 64 < cLine) (hK : X.K = K := by rfl) : OpR X (compareOp .Eq) (rEqD K) := by subst hK; exact op_eqD hu
end
section
variable {K : PySem.W.Frag} {σ : L2.St} {H : Hp} {Q : VK} {te tl : TE} {vs : List Nat} {j : Nat}
theorem lay_ints : ∀ l : List Int, PyData.canLayAll0 (l.map PyData.int) = true ∧ PyData.depthAll (l.map PyData.int) = 0
  | [] => ⟨rfl, rfl⟩
  | x :: l => ⟨(lay_ints l).1, by
    show max (PyData.depth (.int x)) (PyData.depthAll (l.map PyData.int)) = 0
    rw [(lay_ints l).2]; rfl⟩
theorem sh_ints (l : List Int) : SeqAt.shaped (.list (l.map PyData.int)) = true := by
  have h := lay_ints l
  have h1 : PyData.canLay0 (.list (l.map PyData.int)) = true := h.1
  have h2 : PyData.depth (.list (l.map PyData.int)) = 1 := by
    show PyData.depthAll (l.map PyData.int) + 1 = 1
    rw [h.2]
  unfold SeqAt.shaped
  rw [h1, h2]; rfl
theorem rv_eqLI {a b : Addr} {l m : List Int} (ha : SqL K H a (l.map V.int)) (hb : SqL K H b (m.map V.int)) (q : Q (.bl (decide (l = m))) H) : rEqD K (.ref a) (.ref b) H Q :=
  ⟨.list (l.map PyData.int), .list (m.map PyData.int), .lst ha (dp_ints K H l), .lst hb (dp_ints K H m), sh_ints l, sh_ints m, by
    show Q (.bl (PyData.eqvAll (l.map PyData.int) (m.map PyData.int))) H
    rw [eqv_ints]; exact q⟩
/-- [e for x in a tuple], e a value f x -/
theorem lc_tmap {a : Addr} {xs : List V} (f : V → V) (hl : ∀ Qe : VK, Qe (.ref a) H → tl σ H Qe) (hs : SqT K H a xs) (hz : xs.length ≤ 100000) (hw : ∀ x, wipe ((wipe σ vs).set j (some x)) vs = wipe σ vs)
    (he : ∀ (i : Nat) (x : V) (H' : Hp), xs[i]? = some x → Same H H' → ∀ Qe : VK, (∀ H'', Same H' H'' → Qe (f x) H'') → te ((wipe σ vs).set j (some x)) H' Qe)
    (q : ∀ D H', H D = none → Same H H' → H' D = some (.lst (xs.map f)) → Q (.ref D) H') : tLc (iTup K tl) (gName j) tYes te vs σ H Q := by
  have keep : ∀ H', Same H H' → SqT K H' a xs := fun H' s => by
    rcases hs with (e | ⟨u, e⟩) | e
    · exact .inl (.inl (s _ _ e))
    · exact .inl (.inr ⟨u, s _ _ e⟩)
    · exact .inr e
  refine hl _ ⟨a, rfl, ⟨_, hs⟩, fun D hD => ?_⟩
  refine lc_tup (K := K) (a := a) (xs := xs) (fun i H' => Same H H' ∧ H' D = some (.lst ((xs.take i).map f))) ⟨same_upd hD, upd_same⟩ (fun i H' _ h => keep H' h.1) ?_ ?_
  · rintro i x H' hx ⟨s, e⟩
    refine ⟨hw x, rd_yes (iteT ?_)⟩
    refine he i x H' hx s _ fun H'' s2 => ?_
    refine ⟨_, s2 _ _ e, ?_, ?_, ?_⟩
    · rw [List.length_map, List.length_take]
      exact sz4' (by have := (List.getElem?_eq_some_iff.mp hx).1; omega)
    · intro b o eb
      rw [upd_ne (ne_of_none eb hD)]
      exact s2 _ _ (s _ _ eb)
    · rw [upd_same, List.take_add_one, hx, List.map_append]; rfl
  · rintro H' ⟨s, e⟩
    rw [List.take_length] at e
    exact q D H' hD s e
end
end D0
namespace D0
open PySem PySem.Spec PyProof.Rows L2
section
variable {K : PySem.W.Frag} {σ : L2.St} {H : Hp} {Q : VK} {te : TE} {ta : TA} {vs : List Nat} {j : Nat}
/-- [e for k in range(n)], e a value f k -/
theorem lc_rmap {n : Nat} (f : Nat → V) (hn : n ≤ 100000) (hl : ∀ Qe : List V → Hp → Prop, Qe [.int (n : Int)] H → ta σ H Qe) (hw : ∀ x, wipe ((wipe σ vs).set j (some x)) vs = wipe σ vs)
    (he : ∀ (i : Nat) (H' : Hp), i < n → Same H H' → ∀ Qe : VK, (∀ H'', Same H' H'' → Qe (f i) H'') → te ((wipe σ vs).set j (some (.int (i : Int)))) H' Qe)
    (q : ∀ D H', H D = none → Same H H' → H' D = some (.lst ((List.range n).map f)) → Q (.ref D) H') : tLc (iRng1 ta) (gName j) tYes te vs σ H Q := by
  refine hl _ ⟨(n : Int), rfl, by omega, by omega, fun D hD => ?_⟩
  refine lc_range (lo := 0) (n := ((n : Int)).toNat) (fun i H' => Same H H' ∧ H' D = some (.lst ((List.range i).map f))) ⟨same_upd hD, upd_same⟩ ?_ ?_
  · rintro i H' hi ⟨s, e⟩
    refine ⟨hw _, rd_yes (iteT ?_)⟩
    rw [show (0 : Int) + (i : Int) = (i : Int) by omega]
    refine he i H' (by omega) s _ fun H'' s2 => ?_
    refine ⟨_, s2 _ _ e, ?_, ?_, ?_⟩
    · rw [List.length_map, List.length_range]
      exact sz4' (by omega)
    · intro b o eb
      rw [upd_ne (ne_of_none eb hD)]
      exact s2 _ _ (s _ _ eb)
    · rw [upd_same, List.range_succ, List.map_append]; rfl
  · rintro H' ⟨s, e⟩
    exact q D H' hD s e
end
theorem zip_range (rs : List (List Int)) (fs : List Int) (h : fs.length = rs.length) : (List.range rs.length).map (fun k => fs.getD k 0 * (rs.getD k []).getD 2 0) = (rs.zip fs).map fun p => p.1.getD 2 0 * p.2 := by
  apply List.ext_getElem
  · simp; omega
  · intro k h1 h2
    have hk : k < rs.length := by simpa using h1
    have hk2 : k < fs.length := by omega
    simp [List.getD_eq_getElem?_getD, hk, hk2, Int.mul_comm]
end D0
namespace D0
open PySem PySem.Spec PyProof.Rows L2
/-! ### frames: all but some addresses is kept -/
def OffS (S : List Addr) (H H' : Hp) : Prop := ∀ a o, a ∉ S → H a = some o → H' a = some o
theorem OffS.refl (S : List Addr) (H : Hp) : OffS S H H := fun _ _ _ e => e
theorem OffS.trans {S : List Addr} {H H1 H2 : Hp} (x : OffS S H H1) (y : OffS S H1 H2) : OffS S H H2 := fun a o n e => y a o n (x a o n e)
theorem OffS.new {S : List Addr} {H H1 : Hp} {p : Addr} {o : HO} (x : OffS S H H1) (h : H1 p = none) : OffS S H (upd H1 p o) := fun a u n e => same_upd h _ _ (x a u n e)
theorem OffS.set {S : List Addr} {H H1 : Hp} {p : Addr} {o : HO} (x : OffS S H H1) (h : p ∈ S) : OffS S H (upd H1 p o) := fun a u n e => (upd_ne fun q => n (by rw [q]; exact h)).trans (x a u n e)
theorem OffS.mut {S : List Addr} {H H1 : Hp} {p : Addr} {o : HO} (x : OffS S H H1) (h : H p = none) : OffS S H (upd H1 p o) := fun a u n e => (upd_ne (ne_of_none e h)).trans (x a u n e)
theorem OffS.off {S : List Addr} {b : Addr} {H H1 H2 : Hp} (x : OffS S H H1) (h : b ∈ S) (y : Off b H1 H2) : OffS S H H2 := fun a u n e => y a u (fun q => n (by rw [q]; exact h)) (x a u n e)
theorem OffS.same {S : List Addr} {H H1 H2 : Hp} (x : OffS S H H1) (y : Same H1 H2) : OffS S H H2 := fun a u n e => y a u (x a u n e)
theorem OffS.get {S : List Addr} {H H' : Hp} {a : Addr} {o : HO} (x : OffS S H H') (n : a ∉ S) (e : H a = some o) : H' a = some o := x a o n e
theorem OffS.fresh {S : List Addr} {H H1 : Hp} {p : Addr} (x : OffS S H H1) (n : p ∉ S) (h : H1 p = none) : H p = none := by
  cases e : H p with
  | none => rfl
  | some o => rw [x p o n e] at h; cases h
/-- what is not in the first list or was not there at first -/
theorem OffS.to {S : List Addr} {b : Addr} {H0 H H1 : Hp} (x : OffS S H H1) (f : Off b H0 H) (h : ∀ a ∈ S, a = b ∨ H0 a = none) : Off b H0 H1 := fun a u n e =>
  x a u (fun m => (h a m).elim n fun z => by rw [z] at e; cases e) (f a u n e)
theorem OffS.toS {S T : List Addr} {H0 H H1 : Hp} (x : OffS S H H1) (f : OffS T H0 H) (h : ∀ a ∈ S, a ∈ T ∨ H0 a = none) : OffS T H0 H1 := fun a u n e =>
  x a u (fun m => (h a m).elim n fun z => by rw [z] at e; cases e) (f a u n e)
theorem OffS.of_off {S : List Addr} {b : Addr} {H H1 : Hp} (x : Off b H H1) (h : b ∈ S) : OffS S H H1 := (OffS.refl S H).off h x
theorem OffS.ts {S : List Addr} {H H' : Hp} (x : OffS S H H') (h : ∀ a ∈ S, ∃ xs, H a = some (.lst xs)) : TS H H' := fun a xs e => by
  by_cases m : a ∈ S
  · obtain ⟨ys, z⟩ := h a m
    rw [z] at e; cases e
  · exact x a _ m e
theorem BagAt.lst {b c : Addr} {cs : List Int} {H : Hp} (x : BagAt b c cs H) : ∃ xs, H b = some (.lst xs) := by
  obtain ⟨i, z, s, n, k, e, _⟩ := x
  exact ⟨_, e⟩
/-! ### a row and a number -/
def TnF (H : Hp) (v : V) (p : List Int × Int) : Prop := ∃ a x, v = .ref a ∧ H a = some (.tup [x, .int p.2]) ∧ Tn H x p.1
theorem TnF.ts {H H' : Hp} {v : V} {p : List Int × Int} (x : TnF H v p) (t : TS H H') : TnF H' v p := by
  obtain ⟨a, y, rfl, e, z⟩ := x
  exact ⟨a, y, rfl, t _ _ e, z.ts t⟩
theorem TnF.same {H H' : Hp} {v : V} {p : List Int × Int} (x : TnF H v p) (t : Same H H') : TnF H' v p := x.ts (.of_same t)
/-! ### pairs -/
theorem Paired.take {α β : Type} {F : α → β → Prop} : ∀ {l₁ : List α} {l₂ : List β} (n : Nat), Paired F l₁ l₂ → Paired F (l₁.take n) (l₂.take n)
  | _, _, 0, _ => by rw [List.take_zero, List.take_zero]; exact .nil
  | _, _, _ + 1, .nil => by rw [List.take_nil, List.take_nil]; exact .nil
  | _, _, n + 1, .cons h t => by rw [List.take_succ_cons, List.take_succ_cons]; exact .cons h (Paired.take n t)
theorem Paired.of_get {α β : Type} {F : α → β → Prop} : ∀ {l₁ : List α} {l₂ : List β}, l₁.length = l₂.length → (∀ (i : Nat) x y, l₁[i]? = some x → l₂[i]? = some y → F x y) → Paired F l₁ l₂
  | [], [], _, _ => .nil
  | [], _ :: _, h, _ => by simp at h
  | _ :: _, [], h, _ => by simp at h
  | _ :: _, _ :: _, h, f => .cons (f 0 _ _ rfl rfl) (Paired.of_get (by simpa using h) fun i x y hx hy => f (i + 1) x y (by simpa using hx) (by simpa using hy))
theorem Paired.map2 {α β γ : Type} {F : α → γ → Prop} (f : β → γ) : ∀ {l₁ : List α} {l₂ : List β}, Paired (fun x y => F x (f y)) l₁ l₂ → Paired F l₁ (l₂.map f)
  | _, _, .nil => .nil
  | _, _, .cons h t => .cons h (Paired.map2 f t)
theorem Paired.map1 {α β γ : Type} {F : γ → β → Prop} (f : α → γ) : ∀ {l₁ : List α} {l₂ : List β}, Paired (fun x y => F (f x) y) l₁ l₂ → Paired F (l₁.map f) l₂
  | _, _, .nil => .nil
  | _, _, .cons h t => .cons h (Paired.map1 f t)
theorem Paired.map2' {α β γ : Type} {F : α → γ → Prop} (f : β → γ) : ∀ {l₁ : List α} {l₂ : List β}, Paired F l₁ (l₂.map f) → Paired (fun x y => F x (f y)) l₁ l₂
  | [], [], _ => .nil
  | [], _ :: _, h => by cases h
  | _ :: _, [], h => by cases h
  | _ :: _, _ :: _, .cons h t => .cons h (Paired.map2' f t)
theorem Paired.fn {α β : Type} (f : β → α) : ∀ {l₁ : List α} {l₂ : List β}, Paired (fun x y => x = f y) l₁ l₂ → l₁ = l₂.map f
  | _, _, .nil => rfl
  | _, _, .cons h t => by rw [h, Paired.fn f t]; rfl
theorem Paired.app {α β : Type} {F : α → β → Prop} : ∀ {l₁ : List α} {l₂ : List β} {m₁ : List α} {m₂ : List β}, Paired F l₁ l₂ → Paired F m₁ m₂ → Paired F (l₁ ++ m₁) (l₂ ++ m₂)
  | _, _, _, _, .nil, h => h
  | _, _, _, _, .cons h t, h2 => .cons h (Paired.app t h2)
theorem Paired.get2 {α β : Type} {F : α → β → Prop} : ∀ {xs : List α} {ys : List β} {i : Nat} {y : β}, Paired F xs ys → ys[i]? = some y → ∃ x, xs[i]? = some x ∧ F x y
  | _, _, i, y, .nil, h => by simp at h
  | _, _, 0, y, .cons f _, h => by
    rw [List.getElem?_cons_zero] at h
    cases h
    exact ⟨_, rfl, f⟩
  | _, _, i + 1, y, .cons _ t, h => by
    rw [List.getElem?_cons_succ] at h
    obtain ⟨x, e, f⟩ := Paired.get2 t h
    exact ⟨x, by rw [List.getElem?_cons_succ]; exact e, f⟩
/-- a rearranged list of values has a rearranged list of what it stands for -/
theorem Paired.perm {α β : Type} {F : α → β → Prop} {xs ys : List α} (p : ys.Perm xs) : ∀ {rs : List β}, Paired F xs rs → ∃ ss, Paired F ys ss ∧ ss.Perm rs := by
  induction p with
  | nil => intro rs h; cases h; exact ⟨[], .nil, List.Perm.refl _⟩
  | cons x _ ih =>
    intro rs h
    cases h with
    | cons h t =>
      obtain ⟨ss, h2, p2⟩ := ih t
      exact ⟨_ :: ss, .cons h h2, p2.cons _⟩
  | swap x y l =>
    intro rs h
    cases h with
    | cons h t => cases t with
      | cons h2 t2 => exact ⟨_, .cons h2 (.cons h t2), List.Perm.swap ..⟩
  | trans _ _ ih1 ih2 =>
    intro rs h
    obtain ⟨ss, h1, p1⟩ := ih2 h
    obtain ⟨ss', h2, p2⟩ := ih1 h1
    exact ⟨ss', h2, p2.trans p1⟩
/-! ### slices, ranges -/
theorem dSlTA {X : Cx} (K : PySem.W.Frag) (hK : X.K = K := by rfl) : SlR X (rSlA K) := by subst hK; exact sl_tupA
theorem cut_take (xs : List V) (k : Nat) : cutV xs none (some (k : Int)) = xs.take k := by
  unfold cutV
  rw [HT.sIx_none, HT.sIx_nat, List.drop_zero, Nat.sub_zero]
  by_cases h : k ≤ xs.length
  · rw [Nat.min_eq_left h]
  · rw [Nat.min_eq_right (by omega), List.take_length, List.take_of_length_le (by omega)]
theorem cut_drop (xs : List V) (k : Nat) : cutV xs (some (k : Int)) none = xs.drop k := by
  unfold cutV
  rw [HT.sIx_none, HT.sIx_nat]
  by_cases h : k ≤ xs.length
  · rw [Nat.min_eq_left h, List.take_of_length_le (by rw [List.length_drop]; omega)]
  · rw [Nat.min_eq_right (by omega), List.drop_length, List.drop_eq_nil_of_le (by omega), List.take_nil]
theorem rv_slTA {K : PySem.W.Frag} {H : Hp} {Q : VK} {p : Addr} {xs : List V} {lo hi : Option Int} (h : H p = some (.tup xs)) (q : ∀ a H', Same H H' → H' a = some (.tup (cutV xs lo hi)) → Q (.ref a) H') : rSlA K (.ref p) lo hi H Q := by
  refine ⟨p, xs, rfl, SqT.of h, fun w => q p H (fun _ _ e => e) ?_, fun _ a ha => q a _ (same_upd ha) upd_same⟩
  have e : cutV xs lo hi = xs := by
    unfold cutV
    rw [w.1, w.2, List.drop_zero, Nat.sub_zero, List.take_length]
  rw [e]
  exact h
theorem rg_ints (n : Nat) : rgV 0 (n : Int) = ((List.range n).map fun i : Nat => (i : Int)).map V.int := by
  unfold rgV
  rw [List.map_map, show ((n : Int) - 0).toNat = n by omega]
  exact List.map_congr_left fun i _ => by show V.int (0 + (i : Int)) = V.int (i : Int); rw [Int.zero_add]
section
variable {K : PySem.W.Frag} {σ : L2.St} {H : Hp} {Q : VK} {te tl : TE} {ta : TA} {vs : List Nat} {j : Nat} {g : TG} {tt : TT}
theorem rd_listRg {te : L2.St → Hp → (Int → Int → Hp → Prop) → Prop} (q : te σ H fun a b H1 => RgOk a b ∧ ∀ q, H1 q = none → Q (.ref q) (upd H1 q (.lst (rgV a b)))) : tLstRg te σ H Q := q
theorem rd_tupRg {te : L2.St → Hp → (Int → Int → Hp → Prop) → Prop} (q : te σ H fun a b H1 => RgOk a b ∧ ∀ q, H1 q = none → Q (.ref q) (upd H1 q (.tup (rgV a b)))) : tTupRg te σ H Q := q
theorem rd_rg1 {R : Int → Int → Hp → Prop} (q : te σ H fun x H1 => ∃ n, x = .int n ∧ R 0 n H1) : tRg1 te σ H R := q
theorem rd_rg2 {R : Int → Int → Hp → Prop} (q : te σ H fun x H1 => tl σ H1 fun y H2 => ∃ i j, x = .int i ∧ y = .int j ∧ R i j H2) : tRg2 te tl σ H R := q
theorem rv_i1 {i : Int} {R : Int → Prop} (q : R i) : ∃ n, V.int i = V.int n ∧ R n := ⟨i, rfl, q⟩
theorem rv_i2 {i j : Int} {R : Int → Int → Prop} (q : R i j) : ∃ n m, V.int i = V.int n ∧ V.int j = V.int m ∧ R n m := ⟨i, j, rfl, rfl, q⟩
/-! ### comprehensions, what is walked first -/
def LC (J : It) (g : TG) (tt : TT) (te : TE) (vs : List Nat) (σ : L2.St) (H1 : Hp) (Q : VK) : Prop := ∀ D, H1 D = none → ∃ W : Nat → Nat → Hp → Prop, (∃ m, W 0 m (upd H1 D (.lst []))) ∧ ∀ i m H, W i m H →
  (J.stop i H ∧ Q (.ref D) H) ∨ (J.go i H ∧ ∃ Nx : Hp → Prop, (∀ H', Nx H' → ∃ m', m' < m ∧ W (i + 1) m' H') ∧ ∀ x H', J.yld i H x H' → g x (wipe σ vs) H' fun σ2 H2 => wipe σ2 vs = wipe σ vs ∧ tt σ2 H2 fun b H3 =>
    if b = true then te σ2 H3 fun y H4 => ∃ acc, H4 D = some (.lst acc) ∧ acc.length < sizeLine ∧ Nx (upd H4 D (.lst (acc ++ [y]))) else Nx H3)
theorem rd_lc {wi : TI} (q : wi σ H fun J H1 => LC J g tt te vs σ H1 Q) : tLc wi g tt te vs σ H Q := q
/-- a comprehension that changes nothing that stood: for each turn i that is kept a value y with Gd i y -/
theorem lc_pureG {J : It} {n : Nat} {G : Hp → Prop} {Y : Nat → Hp → V → Hp → Prop} (w : Walk J n G Y) (kp : Nat → Bool) (Gd : Addr → Nat → V → Hp → Prop) (hn : n ≤ 100000)
    (hG : ∀ H', Same H H' → G H') (hY : ∀ i H' x H2, Y i H' x H2 → Same H' H2) (hS : ∀ D i y H1 H2, (∃ zs, H1 D = some (.lst zs)) → Off D H1 H2 → Gd D i y H1 → Gd D i y H2)
    (he : ∀ (D : Addr) (i : Nat) (x : V) (H' H2 : Hp) (Nx : VK) (E : Hp → Prop), i < n → H D = none → (∃ zs, H' D = some (.lst zs)) → Same H H' → Same H' H2 → Y i H' x H2 → (kp i = true → ∀ y H'', Same H2 H'' → Gd D i y H'' → Nx y H'') → (kp i = false → ∀ H'', Same H2 H'' → E H'') →
      g x (wipe σ vs) H2 fun σ2 H3 => wipe σ2 vs = wipe σ vs ∧ tt σ2 H3 fun b H4 => if b = true then te σ2 H4 Nx else E H4)
    (q : ∀ D ys H', H D = none → Same H H' → H' D = some (.lst ys) → Paired (fun y i => Gd D i y H') ys ((List.range n).filter kp) → Q (.ref D) H') : LC J g tt te vs σ H Q := by
  intro D hD
  refine lc_it w (fun i H' => Same H H' ∧ ∃ ys, H' D = some (.lst ys) ∧ Paired (fun y i => Gd D i y H') ys ((List.range i).filter kp)) ⟨same_upd hD, [], upd_same, .nil⟩ (fun i H' _ h => hG _ h.1) ?_ ?_
  · rintro i x H' H2 hi ⟨s, ys, e, p⟩ hy
    have s2 : Same H' H2 := hY _ _ _ _ hy
    have hlen : ys.length ≤ i := by
      rw [Paired.len p]
      exact Nat.le_trans (List.length_filter_le _ _) (by rw [List.length_range]; omega)
    refine he D i x H' H2 _ _ hi hD ⟨ys, e⟩ s s2 hy (fun hk y H'' s3 gy => ?_) (fun hk H'' s3 => ?_)
    · have s23 := s2.trans s3
      have su : Off D H'' (upd H'' D (.lst (ys ++ [y]))) := (Off.refl D H'').set
      have e'' := s23 _ _ e
      refine ⟨ys, e'', sz4' (by omega), ?_, ys ++ [y], upd_same, ?_⟩
      · intro b o eb
        rw [upd_ne (ne_of_none eb hD)]
        exact s23 _ _ (s _ _ eb)
      · rw [List.range_succ, List.filter_append]
        simp only [List.filter_cons, hk, List.filter_nil, if_true]
        refine Paired.app (Paired.mapP p fun y i h => hS D i y _ _ ⟨_, e⟩ ((Off.of_same s23).trans su) h) (.cons (hS D i y _ _ ⟨_, e''⟩ su gy) .nil)
    · refine ⟨s.trans (s2.trans s3), ys, (s2.trans s3) _ _ e, ?_⟩
      rw [List.range_succ, List.filter_append]
      simp only [List.filter_cons, hk, List.filter_nil, if_neg Bool.false_ne_true, List.append_nil]
      exact Paired.mapP p fun y i => hS D i y _ _ ⟨_, e⟩ (.of_same (s2.trans s3))
  · rintro H' ⟨s, ys, e, p⟩
    exact q D ys H' hD s e p
/-- a comprehension that draws from the bag at b -/
theorem lc_drawG {J : It} {n : Nat} {G : Hp → Prop} {Y : Nat → Hp → V → Hp → Prop} {b c : Addr} {cs : List Int} (w : Walk J n G Y) (Gd : Addr → Nat → V → Hp → Prop) (hn : n ≤ 100000) (B : BagAt b c cs H)
    (hG : ∀ H', Off b H H' → G H') (hY : ∀ i H' x H2, Y i H' x H2 → Same H' H2) (hS : ∀ D i y H1 H2, D ≠ b → (∃ zs, H1 D = some (.lst zs)) → (∃ zs, H1 b = some (.lst zs)) → OffS [b, D] H1 H2 → Gd D i y H1 → Gd D i y H2)
    (he : ∀ (D : Addr) (i : Nat) (x : V) (H' H2 : Hp) (Qe : VK) (E : Hp → Prop), i < n → H D = none → (∃ zs, H' D = some (.lst zs)) → Off b H H' → BagAt b c cs H2 → Same H' H2 → Y i H' x H2 → (∀ y H'', Off b H2 H'' → BagAt b c cs H'' → Gd D i y H'' → Qe y H'') →
      g x (wipe σ vs) H2 fun σ2 H3 => wipe σ2 vs = wipe σ vs ∧ tt σ2 H3 fun b H4 => if b = true then te σ2 H4 Qe else E H4)
    (q : ∀ D ys H', H D = none → Off b H H' → BagAt b c cs H' → H' D = some (.lst ys) → D ≠ b → D ≠ c → Paired (fun y i => Gd D i y H') ys (List.range n) → Q (.ref D) H') : LC J g tt te vs σ H Q := by
  intro D hD
  have hDb : D ≠ b := B.ne hD
  have hDc : D ≠ c := B.ne2 hD
  have hbD : b ≠ D := hDb.symm
  refine lc_it w (fun i H' => Off b H H' ∧ BagAt b c cs H' ∧ ∃ ys, H' D = some (.lst ys) ∧ Paired (fun y i => Gd D i y H') ys (List.range i)) ⟨(Off.refl b H).new hD, B.new hD, [], upd_same, .nil⟩ (fun i H' _ h => hG _ h.1) ?_ ?_
  · rintro i x H' H2 hi ⟨f, B', ys, e, p⟩ hy
    have s2 : Same H' H2 := hY _ _ _ _ hy
    have hlen : ys.length = i := by rw [Paired.len p, List.length_range]
    refine he D i x H' H2 _ _ hi hD ⟨ys, e⟩ f (B'.same s2) s2 hy fun y H'' f3 B3 gy => ?_
    have f23 : Off b H' H'' := (Off.of_same s2).trans f3
    have e'' := f23.get hDb e
    have su : OffS [b, D] H'' (upd H'' D (.lst (ys ++ [y]))) := (OffS.refl _ _).set (by simp)
    refine ⟨ys, e'', sz4' (by omega), (f.trans f23).mut hD, B3.put hDb hDc, ys ++ [y], upd_same, ?_⟩
    rw [List.range_succ]
    exact Paired.app (Paired.mapP p fun y i h => hS D i y _ _ hDb ⟨_, e⟩ B'.lst ((OffS.of_off f23 (by simp)).trans su) h) (.cons (hS D i y _ _ hDb ⟨_, e''⟩ B3.lst su gy) .nil)
  · rintro H' ⟨f, B', ys, e, p⟩
    exact q D ys H' hD f B' e hDb hDc p
theorem Off.ts {b : Addr} {H H' : Hp} (x : Off b H H') (h : ∃ zs, H b = some (.lst zs)) : TS H H' := fun a xs e => by
  by_cases m : a = b
  · obtain ⟨ys, z⟩ := h
    rw [m, z] at e; cases e
  · exact x a _ m e
theorem Paired.of_range {α β : Type} {F : α → β → Prop} {ys : List α} {rs : List β} {n : Nat} (hn : n = rs.length) (h : Paired (fun y i => ∃ r, rs[i]? = some r ∧ F y r) ys (List.range n)) : Paired F ys rs := by
  refine Paired.of_get (by rw [Paired.len h, List.length_range, hn]) fun i y r hy hr => ?_
  obtain ⟨k, hk, r', e, f⟩ := Paired.get1 h hy
  have hi : i < n := by rw [hn]; exact (List.getElem?_eq_some_iff.mp hr).1
  rw [List.getElem?_range hi] at hk
  cases hk
  rw [hr] at e
  cases e
  exact f
/-- for each r of rs a value y with F y r; F speaks of tuples alone -/
theorem lc_pureT {β : Type} {J : It} {n : Nat} {G : Hp → Prop} {Y : Nat → Hp → V → Hp → Prop} (w : Walk J n G Y) (rs : List β) (F : Hp → V → β → Prop) (hl : n = rs.length) (hn : n ≤ 100000)
    (hG : ∀ H', Same H H' → G H') (hY : ∀ i H' x H2, Y i H' x H2 → Same H' H2) (hF : ∀ H1 H2 y r, TS H1 H2 → F H1 y r → F H2 y r)
    (he : ∀ (i : Nat) (r : β) (x : V) (H' H2 : Hp) (Nx : VK) (E : Hp → Prop), rs[i]? = some r → Same H H' → Same H' H2 → Y i H' x H2 → (∀ y H'', Same H2 H'' → F H'' y r → Nx y H'') →
      g x (wipe σ vs) H2 fun σ2 H3 => wipe σ2 vs = wipe σ vs ∧ tt σ2 H3 fun b H4 => if b = true then te σ2 H4 Nx else E H4)
    (q : ∀ D ys H', H D = none → Same H H' → H' D = some (.lst ys) → Paired (F H') ys rs → Q (.ref D) H') : LC J g tt te vs σ H Q := by
  refine lc_pureG w (fun _ => true) (fun _ i y H' => ∃ r, rs[i]? = some r ∧ F H' y r) hn hG hY (fun D i y H1 H2 z f ⟨r, er, h⟩ => ⟨r, er, hF _ _ _ _ (Off.ts f z) h⟩) ?_ ?_
  · intro D i x H' H2 Nx E hi hD eD s s2 hy hN _
    have er : rs[i]? = some (rs[i]'(by omega)) := List.getElem?_eq_getElem (by omega)
    exact he i _ x H' H2 Nx E er s s2 hy fun y H'' s3 f => hN rfl y H'' s3 ⟨_, er, f⟩
  · intro D ys H' hD s e p
    rw [ftrue] at p
    exact q D ys H' hD s e (Paired.of_range hl p)
/-- the value f i for each turn i that is kept -/
theorem lc_pureF {J : It} {n : Nat} {G : Hp → Prop} {Y : Nat → Hp → V → Hp → Prop} (w : Walk J n G Y) (kp : Nat → Bool) (f : Nat → V) (hn : n ≤ 100000)
    (hG : ∀ H', Same H H' → G H') (hY : ∀ i H' x H2, Y i H' x H2 → Same H' H2)
    (he : ∀ (i : Nat) (x : V) (H' H2 : Hp) (Nx : VK) (E : Hp → Prop), i < n → Same H H' → Same H' H2 → Y i H' x H2 → (kp i = true → ∀ H'', Same H2 H'' → Nx (f i) H'') → (kp i = false → ∀ H'', Same H2 H'' → E H'') →
      g x (wipe σ vs) H2 fun σ2 H3 => wipe σ2 vs = wipe σ vs ∧ tt σ2 H3 fun b H4 => if b = true then te σ2 H4 Nx else E H4)
    (q : ∀ D H', H D = none → Same H H' → H' D = some (.lst (((List.range n).filter kp).map f)) → Q (.ref D) H') : LC J g tt te vs σ H Q := by
  refine lc_pureG w kp (fun _ i y _ => y = f i) hn hG hY (fun D i y H1 H2 _ _ h => h) ?_ ?_
  · intro D i x H' H2 Nx E hi hD eD s s2 hy hN hE
    exact he i x H' H2 Nx E hi s s2 hy (fun hk H'' s3 => hN hk _ H'' s3 rfl) hE
  · intro D ys H' hD s e p
    exact q D H' hD s (by rw [e, Paired.fn f p])
/-- a comprehension that draws: for each r of rs a value y with F y r -/
theorem lc_drawT {β : Type} {J : It} {n : Nat} {G : Hp → Prop} {Y : Nat → Hp → V → Hp → Prop} {b c : Addr} {cs : List Int} (w : Walk J n G Y) (rs : List β) (F : Hp → V → β → Prop) (hl : n = rs.length) (hn : n ≤ 100000) (B : BagAt b c cs H)
    (hG : ∀ H', Off b H H' → G H') (hY : ∀ i H' x H2, Y i H' x H2 → Same H' H2) (hF : ∀ H1 H2 y r, TS H1 H2 → F H1 y r → F H2 y r)
    (he : ∀ (i : Nat) (r : β) (x : V) (H' H2 : Hp) (Qe : VK) (E : Hp → Prop), rs[i]? = some r → Off b H H' → BagAt b c cs H2 → Same H' H2 → Y i H' x H2 → (∀ y H'', Off b H2 H'' → BagAt b c cs H'' → F H'' y r → Qe y H'') →
      g x (wipe σ vs) H2 fun σ2 H3 => wipe σ2 vs = wipe σ vs ∧ tt σ2 H3 fun b H4 => if b = true then te σ2 H4 Qe else E H4)
    (q : ∀ D ys H', H D = none → Off b H H' → BagAt b c cs H' → H' D = some (.lst ys) → D ≠ b → D ≠ c → Paired (F H') ys rs → Q (.ref D) H') : LC J g tt te vs σ H Q := by
  refine lc_drawG w (fun _ i y H' => ∃ r, rs[i]? = some r ∧ F H' y r) hn B hG hY (fun D i y H1 H2 _ z zb f ⟨r, er, h⟩ => ⟨r, er, hF _ _ _ _ (OffS.ts f fun a m => ?_) h⟩) ?_ ?_
  · rcases List.mem_cons.mp m with m | m
    · rw [m]; exact zb
    · rw [List.mem_singleton.mp m]; exact z
  · intro D i x H' H2 Nx E hi hD eD f B2 s2 hy hN
    have er : rs[i]? = some (rs[i]'(by omega)) := List.getElem?_eq_getElem (by omega)
    exact he i _ x H' H2 Nx E er f B2 s2 hy fun y H'' s3 B3 fy => hN y H'' s3 B3 ⟨_, er, fy⟩
  · intro D ys H' hD f B' e h1 h2 p
    exact q D ys H' hD f B' e h1 h2 (Paired.of_range hl p)
theorem same_at {xs : List V} : ∀ i H' x H2, YAt xs i H' x H2 → Same H' H2 := fun i H' x H2 y => by rw [y.1]; exact fun _ _ e => e
theorem same_fn {f : Nat → V} : ∀ i H' x H2, YFn f i H' x H2 → Same H' H2 := fun i H' x H2 y => by rw [y.1]; exact fun _ _ e => e
end
end D0
namespace K37
open PySem PySem.Spec PyProof.Rows L2 D0
def topS (i : Nat) : Stmt := PySem.Challenge.pw_drawnlayers_k37_balanced_and_worth.main.body.getD i (.Pass ⟨0, 0, 0, 0⟩)
abbrev s_is_balanced : Stmt := topS 1
theorem sc_is_balanced : FnScope ["system", "forces", "count", "bounds", "pulls", "pull_forces", "bound_forces", "pull", "force"] ["system", "forces"] (defScope s_is_balanced) := ⟨rfl, rfl, rfl, by decide +kernel, rfl, by decide +kernel, by decide +kernel⟩
abbrev s_worth : Stmt := topS 2
theorem sc_worth : FnScope ["system", "forces", "pull_forces", "bound_forces", "gain", "bound", "force", "pull"] ["system", "forces"] (defScope s_worth) := ⟨rfl, rfl, rfl, by decide +kernel, rfl, by decide +kernel, by decide +kernel⟩
abbrev s_net_forces : Stmt := topS 3
theorem sc_net_forces : FnScope ["count", "threads", "forces", "found", "thread", "force"] ["count", "threads", "forces"] (defScope s_net_forces) := ⟨rfl, rfl, rfl, by decide +kernel, rfl, by decide +kernel, by decide +kernel⟩
abbrev s_law_bag : Stmt := topS 5
theorem sc_law_bag : FnScope ["script", "cell"] ["script"] (defScope s_law_bag) := ⟨rfl, rfl, rfl, by decide +kernel, rfl, by decide +kernel, by decide +kernel⟩
abbrev s_law_draw : Stmt := topS 6
theorem sc_law_draw : FnScope ["bag", "many", "cell", "drawn", "first", "second", "third"] ["bag", "many"] (defScope s_law_draw) := ⟨rfl, rfl, rfl, by decide +kernel, rfl, by decide +kernel, by decide +kernel⟩
abbrev s_law_whole : Stmt := topS 7
theorem sc_law_whole : FnScope ["got"] ["got"] (defScope s_law_whole) := ⟨rfl, rfl, rfl, by decide +kernel, rfl, by decide +kernel, by decide +kernel⟩
abbrev s_law_shuffle : Stmt := topS 8
theorem sc_law_shuffle : FnScope ["bag", "things", "rest", "mixed", "k"] ["bag", "things"] (defScope s_law_shuffle) := ⟨rfl, rfl, rfl, by decide +kernel, rfl, by decide +kernel, by decide +kernel⟩
abbrev s_law_gap : Stmt := topS 9
theorem sc_law_gap : FnScope ["bag"] ["bag"] (defScope s_law_gap) := ⟨rfl, rfl, rfl, by decide +kernel, rfl, by decide +kernel, by decide +kernel⟩
abbrev s_law_ends : Stmt := topS 10
theorem sc_law_ends : FnScope ["bag", "count", "start"] ["bag", "count"] (defScope s_law_ends) := ⟨rfl, rfl, rfl, by decide +kernel, rfl, by decide +kernel, by decide +kernel⟩
abbrev s_law_doubled : Stmt := topS 11
theorem sc_law_doubled : FnScope ["bag", "rows"] ["bag", "rows"] (defScope s_law_doubled) := ⟨rfl, rfl, rfl, by decide +kernel, rfl, by decide +kernel, by decide +kernel⟩
abbrev s_law_any_system : Stmt := topS 12
theorem sc_law_any_system : FnScope ["bag", "most", "count", "rows", "wild", "stretch", "hidden", "x", "bounds", "k", "ends", "gap", "less", "pulls", "bounds_told", "heavy"] ["bag", "most"] (defScope s_law_any_system) := ⟨rfl, rfl, rfl, by decide +kernel, rfl, by decide +kernel, by decide +kernel⟩
abbrev s_law_signed : Stmt := topS 13
theorem sc_law_signed : FnScope ["bag", "many", "far"] ["bag", "many"] (defScope s_law_signed) := ⟨rfl, rfl, rfl, by decide +kernel, rfl, by decide +kernel, by decide +kernel⟩
abbrev s_law_force : Stmt := topS 14
theorem sc_law_force : FnScope ["bag", "way_of"] ["bag"] (defScope s_law_force) := ⟨rfl, rfl, rfl, by decide +kernel, rfl, by decide +kernel, by decide +kernel⟩
abbrev s_law_limit : Stmt := topS 15
theorem sc_law_limit : FnScope ["bag", "amount"] ["bag", "amount"] (defScope s_law_limit) := ⟨rfl, rfl, rfl, by decide +kernel, rfl, by decide +kernel, by decide +kernel⟩
abbrev s_law_ring_added : Stmt := topS 16
theorem sc_law_ring_added : FnScope ["bag", "count", "bound_rows", "pull_rows", "line", "amount", "i", "one", "two", "gap", "limit", "kind"] ["bag", "count", "bound_rows", "pull_rows"] (defScope s_law_ring_added) := ⟨rfl, rfl, rfl, by decide +kernel, rfl, by decide +kernel, by decide +kernel⟩
abbrev s_law_loaded : Stmt := topS 17
theorem sc_law_loaded : FnScope ["bag", "system", "bound_rows", "b", "pull_rows", "p", "turn", "told", "row"] ["bag", "system"] (defScope s_law_loaded) := ⟨rfl, rfl, rfl, by decide +kernel, rfl, by decide +kernel, by decide +kernel⟩
abbrev s_law_bent : Stmt := topS 18
theorem sc_law_bent : FnScope ["bag", "loads", "row", "k"] ["bag", "loads"] (defScope s_law_bent) := ⟨rfl, rfl, rfl, by decide +kernel, rfl, by decide +kernel, by decide +kernel⟩
abbrev s_law_sum_at : Stmt := topS 19
theorem sc_law_sum_at : FnScope ["rows", "loads", "x", "total", "k"] ["rows", "loads", "x"] (defScope s_law_sum_at) := ⟨rfl, rfl, rfl, by decide +kernel, rfl, by decide +kernel, by decide +kernel⟩
abbrev s_law_even : Stmt := topS 20
theorem sc_law_even : FnScope ["system", "loads", "k", "load", "x"] ["system", "loads"] (defScope s_law_even) := ⟨rfl, rfl, rfl, by decide +kernel, rfl, by decide +kernel, by decide +kernel⟩
abbrev s_law_due_worth : Stmt := topS 21
theorem sc_law_due_worth : FnScope ["system", "loads", "gains", "k", "losses"] ["system", "loads"] (defScope s_law_due_worth) := ⟨rfl, rfl, rfl, by decide +kernel, rfl, by decide +kernel, by decide +kernel⟩
abbrev s_law : Stmt := topS 22
theorem sc_law : FnScope ["script", "bag", "system", "pair", "loads", "p", "b", "still", "forces", "told", "value"] ["script"] (defScope s_law) := ⟨rfl, rfl, rfl, by decide +kernel, rfl, by decide +kernel, by decide +kernel⟩
structure Txt (K : PySem.W.Frag) (mg : Str → Option Value) where
  f_is_balanced : Addr
  fd_is_balanced : FuncData
  F_is_balanced : Fun K "is_balanced" "is_balanced" s_is_balanced f_is_balanced fd_is_balanced
  g_is_balanced : mg "is_balanced" = some (.ref f_is_balanced)
  b_is_balanced : Binds K fd_is_balanced ["system", "forces"] []
  f_worth : Addr
  fd_worth : FuncData
  F_worth : Fun K "worth" "worth" s_worth f_worth fd_worth
  g_worth : mg "worth" = some (.ref f_worth)
  b_worth : Binds K fd_worth ["system", "forces"] []
  f_net_forces : Addr
  fd_net_forces : FuncData
  F_net_forces : Fun K "_net_forces" "_net_forces" s_net_forces f_net_forces fd_net_forces
  g_net_forces : mg "_net_forces" = some (.ref f_net_forces)
  b_net_forces : Binds K fd_net_forces ["count", "threads", "forces"] []
  f_law_bag : Addr
  fd_law_bag : FuncData
  F_law_bag : Fun K "_law_bag" "_law_bag" s_law_bag f_law_bag fd_law_bag
  g_law_bag : mg "_law_bag" = some (.ref f_law_bag)
  b_law_bag : Binds K fd_law_bag ["script"] []
  f_law_draw : Addr
  fd_law_draw : FuncData
  F_law_draw : Fun K "_law_draw" "_law_draw" s_law_draw f_law_draw fd_law_draw
  g_law_draw : mg "_law_draw" = some (.ref f_law_draw)
  b_law_draw : Binds K fd_law_draw ["bag", "many"] []
  f_law_whole : Addr
  fd_law_whole : FuncData
  F_law_whole : Fun K "_law_whole" "_law_whole" s_law_whole f_law_whole fd_law_whole
  g_law_whole : mg "_law_whole" = some (.ref f_law_whole)
  b_law_whole : Binds K fd_law_whole ["got"] []
  f_law_shuffle : Addr
  fd_law_shuffle : FuncData
  F_law_shuffle : Fun K "_law_shuffle" "_law_shuffle" s_law_shuffle f_law_shuffle fd_law_shuffle
  g_law_shuffle : mg "_law_shuffle" = some (.ref f_law_shuffle)
  b_law_shuffle : Binds K fd_law_shuffle ["bag", "things"] []
  f_law_gap : Addr
  fd_law_gap : FuncData
  F_law_gap : Fun K "_law_gap" "_law_gap" s_law_gap f_law_gap fd_law_gap
  g_law_gap : mg "_law_gap" = some (.ref f_law_gap)
  b_law_gap : Binds K fd_law_gap ["bag"] []
  f_law_ends : Addr
  fd_law_ends : FuncData
  F_law_ends : Fun K "_law_ends" "_law_ends" s_law_ends f_law_ends fd_law_ends
  g_law_ends : mg "_law_ends" = some (.ref f_law_ends)
  b_law_ends : Binds K fd_law_ends ["bag", "count"] []
  f_law_doubled : Addr
  fd_law_doubled : FuncData
  F_law_doubled : Fun K "_law_doubled" "_law_doubled" s_law_doubled f_law_doubled fd_law_doubled
  g_law_doubled : mg "_law_doubled" = some (.ref f_law_doubled)
  b_law_doubled : Binds K fd_law_doubled ["bag", "rows"] []
  f_law_any_system : Addr
  fd_law_any_system : FuncData
  F_law_any_system : Fun K "_law_any_system" "_law_any_system" s_law_any_system f_law_any_system fd_law_any_system
  g_law_any_system : mg "_law_any_system" = some (.ref f_law_any_system)
  b_law_any_system : Binds K fd_law_any_system ["bag", "most"] []
  f_law_signed : Addr
  fd_law_signed : FuncData
  F_law_signed : Fun K "_law_signed" "_law_signed" s_law_signed f_law_signed fd_law_signed
  g_law_signed : mg "_law_signed" = some (.ref f_law_signed)
  b_law_signed : Binds K fd_law_signed ["bag", "many"] []
  f_law_force : Addr
  fd_law_force : FuncData
  F_law_force : Fun K "_law_force" "_law_force" s_law_force f_law_force fd_law_force
  g_law_force : mg "_law_force" = some (.ref f_law_force)
  b_law_force : Binds K fd_law_force ["bag"] []
  f_law_limit : Addr
  fd_law_limit : FuncData
  F_law_limit : Fun K "_law_limit" "_law_limit" s_law_limit f_law_limit fd_law_limit
  g_law_limit : mg "_law_limit" = some (.ref f_law_limit)
  b_law_limit : Binds K fd_law_limit ["bag", "amount"] []
  f_law_ring_added : Addr
  fd_law_ring_added : FuncData
  F_law_ring_added : Fun K "_law_ring_added" "_law_ring_added" s_law_ring_added f_law_ring_added fd_law_ring_added
  g_law_ring_added : mg "_law_ring_added" = some (.ref f_law_ring_added)
  b_law_ring_added : Binds K fd_law_ring_added ["bag", "count", "bound_rows", "pull_rows"] []
  f_law_loaded : Addr
  fd_law_loaded : FuncData
  F_law_loaded : Fun K "_law_loaded" "_law_loaded" s_law_loaded f_law_loaded fd_law_loaded
  g_law_loaded : mg "_law_loaded" = some (.ref f_law_loaded)
  b_law_loaded : Binds K fd_law_loaded ["bag", "system"] []
  f_law_bent : Addr
  fd_law_bent : FuncData
  F_law_bent : Fun K "_law_bent" "_law_bent" s_law_bent f_law_bent fd_law_bent
  g_law_bent : mg "_law_bent" = some (.ref f_law_bent)
  b_law_bent : Binds K fd_law_bent ["bag", "loads"] []
  f_law_sum_at : Addr
  fd_law_sum_at : FuncData
  F_law_sum_at : Fun K "_law_sum_at" "_law_sum_at" s_law_sum_at f_law_sum_at fd_law_sum_at
  g_law_sum_at : mg "_law_sum_at" = some (.ref f_law_sum_at)
  b_law_sum_at : Binds K fd_law_sum_at ["rows", "loads", "x"] []
  f_law_even : Addr
  fd_law_even : FuncData
  F_law_even : Fun K "_law_even" "_law_even" s_law_even f_law_even fd_law_even
  g_law_even : mg "_law_even" = some (.ref f_law_even)
  b_law_even : Binds K fd_law_even ["system", "loads"] []
  f_law_due_worth : Addr
  fd_law_due_worth : FuncData
  F_law_due_worth : Fun K "_law_due_worth" "_law_due_worth" s_law_due_worth f_law_due_worth fd_law_due_worth
  g_law_due_worth : mg "_law_due_worth" = some (.ref f_law_due_worth)
  b_law_due_worth : Binds K fd_law_due_worth ["system", "loads"] []
  n_abs : mg "abs" = none
  n_any : mg "any" = none
  n_bool : mg "bool" = none
  n_int : mg "int" = none
  n_isinstance : mg "isinstance" = none
  n_len : mg "len" = none
  n_list : mg "list" = none
  n_max : mg "max" = none
  n_min : mg "min" = none
  n_range : mg "range" = none
  n_sum : mg "sum" = none
  n_tuple : mg "tuple" = none
  n_zip : mg "zip" = none
local macro_rules | `(tactic| walk_at "neB") => `(tactic| with_reducible first | assumption | (apply Ne.symm; assumption) | (refine' BagAt.ne ?x ?h; (case h => assumption); (case x => assumption)))
local macro_rules | `(tactic| walk_at "hq") => `(tactic| with_reducible first | assumption | exact upd_same | ((first | (refine' hp_new ?nn ?hq; (case nn => assumption)) | (refine' Off.get ?f ?ne ?hq; (case f => assumption); (case ne => walk_at "neB"))); (case hq => walk_at "hq")))
local macro_rules | `(tactic| walk_at "neA") => `(tactic| with_reducible first | (refine' BagAt.ne ?x ?h; (case h => assumption); (case x => assumption)) | (refine' ne_of_none ?x ?h; (case h => assumption); (case x => walk_at "hq")))
local macro_rules | `(tactic| walk_at "ne") => `(tactic| with_reducible first | assumption | (apply Ne.symm; assumption) | walk_at "neA" | (apply Ne.symm; walk_at "neA"))
local macro_rules | `(tactic| walk_at "off") => `(tactic| with_reducible repeat' (first | assumption | exact Off.refl _ _ | apply Off.set | (refine' Off.new ?_ ?h; (case h => assumption)) | (refine' Off.trans ?_ ?f; (case f => assumption))))
local macro_rules | `(tactic| walk_at "hp") => `(tactic| with_reducible first | assumption | exact upd_same | ((first | (refine' hp_new ?nn ?hp; (case nn => assumption)) | (refine' hp_set ?ne ?hp; (case ne => walk_at "ne")) | (refine' Off.get ?f ?ne ?hp; (case f => assumption); (case ne => walk_at "ne"))); (case hp => walk_at "hp")))
local macro_rules | `(tactic| walk_at "sq") => `(tactic| with_reducible first | assumption | (refine' SqL.of ?hh; (case hh => walk_at "hp")) | ((first | (refine' sq_new ?nn ?sq; (case nn => assumption)) | (refine' sq_set ?ne ?sq; (case ne => walk_at "ne")) | (refine' Off.seq ?f ?ne ?sq; (case f => assumption); (case ne => walk_at "ne"))); (case sq => walk_at "sq")))
local macro_rules | `(tactic| walk_at "sqt") => `(tactic| with_reducible first | assumption | (refine' SqT.of ?hh; (case hh => walk_at "hp")) | ((first | (refine' sqt_new ?nn ?sq; (case nn => assumption)) | (refine' sqt_set ?ne ?sq; (case ne => walk_at "ne")) | (refine' Off.seqT ?f ?ne ?sq; (case f => assumption); (case ne => walk_at "ne"))); (case sq => walk_at "sqt")))
/- straight-line steps of a reading -/
local macro_rules | `(tactic| walk_at "at") => `(tactic| first | assumption | rfl | exact atI_nat (j := 0) rfl | exact atI_nat (j := 1) rfl | exact atI_nat (j := 2) rfl | exact at_ints (by omega) (by omega))
local macro_rules | `(tactic| walk_at "sz") => `(tactic| first | assumption | decide | exact sz4 (by omega) | exact sz4' (by omega) | (simp only [List.length_map, List.length_append, List.length_cons, List.length_nil]; first | exact sz4 (by omega) | exact sz4' (by omega) | omega))
local macro_rules | `(tactic| walk_at "mul") => `(tactic| first | exact .inr ⟨by decide, by decide⟩ | exact mul_fm (by decide) (by decide) | exact .inl ⟨by omega, by omega⟩ | exact .inr ⟨by omega, by omega⟩)
local macro_rules | `(tactic| walk_at "div") => `(tactic| with_reducible first | exact div97 | exact div3 | exact div2 | exact div_m (by assumption) (by assumption))
local macro_rules | `(tactic| walk_at "nz") => `(tactic| first | decide | omega)
local macro_rules | `(tactic| walk_at "rd") => `(tactic| repeat' walk_at "rd1")
local macro_rules | `(tactic| walk_at "rdA") => `(tactic| with_reducible first
  | refine rd_op ?_
  | refine rd_c ?_
  | refine rd_cb ?_
  | refine rd_cons ?_
  | refine rd_nil ?_
  | refine rd_bl ?_
  | refine rd_ii ?_
  | refine rd_M1 ?_
  | refine rd_M0 ?_
  | refine rd_isS ?_
  | refine rd_test ?_
  | refine rd_B ?_
  | refine rd_and ?_
  | refine rd_or ?_
  | refine rd_not ?_
  | refine rd_andV ?_
  | refine rd_orV ?_
  | refine rd_notV ?_
  | refine rd_ifE ?_
  | refine rd_chain ?_
  | refine rd_seq ?_
  | refine rd_if ?_
  | refine rd_asg ?_
  | refine rd_gname ?_
  | refine rd_gsub ?_
  | refine rd_drop ?_
  | refine rd_ret ?_
  | refine rd_retN ?_
  | refine rd_brk ?_
  | refine rd_cnt ?_
  | refine rd_next ?_
  | refine rd_tup ?_
  | refine rd_lst ?_
  | refine rd_BM ?_
  | refine rd_gcons ?_
  | refine rd_gnil ?_
  | refine rd_sl ?_
  | refine rd_nopart ?_
  | refine rd_part ?_
  | refine rd_un ?_
  | refine rd_call ?_
  | refine rd_callN ?_
  | refine rd_listRg ?_
  | refine rd_rg1 ?_
  | refine rd_rg2 ?_
  | refine rv_i2 ?_
  | refine rd_yes ?_
  | refine rd_iList ?_
  | refine rd_iTup ?_
  | refine rd_augS ?_
  | refine rv_ipI ?_
  | refine rd_zipA ?_
  | refine rd_enumT ?_
  | refine rd_for ?_
  | refine rd_rng1 ?_
  | refine rd_revL ?_
  | refine rv_addI ?_
  | refine rv_sub ?_
  | refine rv_lt ?_
  | refine rv_le ?_
  | refine rv_gt ?_
  | refine rv_ge ?_
  | refine rv_eqI ?_
  | refine rv_neI ?_
  | refine rv_eqS ?_
  | refine rv_eqB ?_
  | refine rv_neS ?_
  | refine rv_neB ?_
  | refine rv_int ?_
  | refine rv_inS ?_
  | refine rv_isNn ?_
  | refine rv_isNr ?_
  | refine rv_isNi ?_
  | refine rv_isNb ?_
  | refine rv_isNs ?_
  | refine rv_notNn ?_
  | refine rv_notNr ?_
  | refine rv_notNi ?_
  | refine rv_ninS ?_
  | refine rv_abs ?_
  | refine rv_max2 ?_
  | refine rv_min2 ?_
  | refine rv_ord ?_
  | refine rv_neg ?_
  | refine iteT ?_
  | refine iteF ?_
  | refine iteD (fun h => ?_) (fun h => ?_)
  | refine iteND (fun h => ?_) (fun h => ?_))
local macro_rules | `(tactic| walk_at "rd1") => `(tactic| first
  | ((with_reducible refine' rd_andB ?h ?_); (case h => (intro Qe hq; walk_at "rd"; exact hq)))
  | ((with_reducible refine' rd_orB ?h ?_); (case h => (intro Qe hq; walk_at "rd"; exact hq)))
  | walk_at "rdA"
  | ((with_reducible refine' rd_var ?h ?_); (case h => rfl))
  | ((with_reducible refine' rd_wipe ?h ?_); (case h => rfl))
  | ((with_reducible refine' rv_ixL ?h ?c ?_); (case h => walk_at "sq"); (case c => walk_at "at"))
  | ((with_reducible refine' rv_ixS ?h ?c ?_); (case h => walk_at "sz"); (case c => walk_at "at"))
  | ((with_reducible refine' rv_setL ?h ?c ?_); (case h => walk_at "hp"); (case c => rfl))
  | ((with_reducible refine' rv_mulI ?h ?_); (case h => walk_at "mul"))
  | ((with_reducible refine' rv_mod ?h ?_); (case h => walk_at "nz"))
  | ((with_reducible refine' rv_div ?h ?_); (case h => walk_at "div"))
  | ((with_reducible refine' rv_pow ?h ?_); (case h => exact ⟨by decide, by decide, by decide⟩))
  | ((with_reducible refine' rv_get ?h ?h0 ?c ?_); (case h => walk_at "sq"); (case h0 => omega); (case c => walk_at "at"))
  | ((with_reducible refine' rv_lenL ?h ?_); (case h => walk_at "sq"))
  | ((with_reducible refine' rv_lenS ?h ?_); (case h => walk_at "sz"))
  | ((with_reducible refine' rv_addS ?h ?_); (case h => walk_at "sz"))
  | ((with_reducible refine' rd_tyL ?h ?_); (case h => walk_at "sq"))
  | (with_reducible refine rd_tyS ?_)
  | ((with_reducible refine' rv_inL ?h ?hx ?hf ?_); (case h => walk_at "sq"); (case hx => rfl); (case hf => rfl))
  | ((with_reducible refine' rv_ninL ?h ?hx ?hf ?_); (case h => walk_at "sq"); (case hx => rfl); (case hf => rfl))
  | ((with_reducible refine' rv_all ?h ?_); (case h => walk_at "sq"))
  | ((with_reducible refine' rv_addL ?h1 ?h2 ?h3 (fun p hp => ?_)); (case h1 => walk_at "hp"); (case h2 => walk_at "hp"); (case h3 => walk_at "sz"))
  | (with_reducible refine iteB (fun h => ?_) (fun h => ?_))
  | (refine ⟨rfl, rfl, ?_⟩)
  | ((with_reducible refine' rv_up ?h ?_); (case h => omega))
  | ((with_reducible refine' rv_iL ?h ?_); (case h => walk_at "sq"))
  | ((with_reducible refine' rv_iT ?h ?_); (case h => walk_at "sqt"))
  | ((with_reducible refine' rv_listL ?h (fun p hp => ?_)); (case h => walk_at "sq"))
  | ((with_reducible refine' rv_listT ?h (fun p hp => ?_)); (case h => walk_at "sqt"))
  | ((with_reducible refine' rv_tupL ?h (fun p hp => ?_)); (case h => walk_at "sq"))
  | ((with_reducible refine' rv_tupT ?h ?_); (case h => walk_at "sqt"))
  | ((with_reducible refine' rv_ixT ?h ?c ?_); (case h => walk_at "sqt"); (case c => walk_at "at"))
  | ((with_reducible refine' rd_gtup ?h ?c ?_); (case h => walk_at "sqt"); (case c => rfl))
  | ((with_reducible refine' rv_lenT ?h ?_); (case h => walk_at "sqt"))
  | ((with_reducible refine' rv_isiB ?h ?_); (case h => with_reducible first | exact isi_bool_bool | exact isi_bool_int | exact isi_bool_str | exact isi_bool_list | exact isi_bool_tuple | exact isi_bool_dict))
  | ((with_reducible refine' rv_isiI ?h ?_); (case h => with_reducible first | exact isi_int_bool | exact isi_int_int | exact isi_int_str | exact isi_int_list | exact isi_int_tuple | exact isi_int_dict))
  | ((with_reducible refine' rv_isiS ?h ?_); (case h => with_reducible first | exact isi_str_bool | exact isi_str_int | exact isi_str_str | exact isi_str_list | exact isi_str_tuple | exact isi_str_dict))
  | ((with_reducible refine' rv_isiN ?h ?_); (case h => with_reducible first | exact isi_NoneType_bool | exact isi_NoneType_int | exact isi_NoneType_str | exact isi_NoneType_list | exact isi_NoneType_tuple | exact isi_NoneType_dict))
  | ((with_reducible refine' rv_isiL ?e ?h ?_); (case e => walk_at "hp"); (case h => with_reducible first | exact isi_list_bool | exact isi_list_int | exact isi_list_str | exact isi_list_list | exact isi_list_tuple | exact isi_list_dict))
  | ((with_reducible refine' rv_isiT ?e ?h ?_); (case e => walk_at "hp"); (case h => with_reducible first | exact isi_tuple_bool | exact isi_tuple_int | exact isi_tuple_str | exact isi_tuple_list | exact isi_tuple_tuple | exact isi_tuple_dict))
  | ((with_reducible refine' rv_revL ?h ?_); (case h => walk_at "sq"))
  | (with_reducible refine fun (p : Addr) (hp : _ = none) => ?_)
  | ((with_reducible refine' rv_slL ?h (fun p hp => ?_)); (case h => walk_at "sq"))
  | ((with_reducible refine' rv_slS ?h ?_); (case h => walk_at "sz"))
  | ((with_reducible refine' rv_ext ?h ?h2 ?c ?_); (case h => walk_at "hp"); (case h2 => walk_at "hp"); (case c => walk_at "sz"))
  | (refine ⟨(by simp only [List.length_cons, List.length_nil]; decide), fun p hp => ?_⟩)
  | ((with_reducible refine' rv_app ?h ?c ?_); (case h => walk_at "hp"); (case c => walk_at "sz"))
  )
local macro_rules | `(tactic| walk_at "bag") => `(tactic| first | assumption | (refine ⟨_, _, _, _, _, upd_same, (by assumption), ?hp, (by omega), (by omega)⟩; (case hp => walk_at "hp")) | exact ⟨_, _, _, _, _, (by assumption), (by assumption), (by assumption), (by assumption), (by assumption)⟩ | (refine BagAt.new ?_ (by assumption); walk_at "bag") | (refine BagAt.put ?_ (by assumption) (by assumption); walk_at "bag"))

def spNet : Sp := fun vs H Q _ => ∃ (n : Nat) (t f : Addr) (vt : List V) (rs : List (List Int)) (fs : List Int), vs = [.int n, .ref t, .ref f] ∧ n ≤ 1000 ∧ H t = some (.tup vt) ∧ RowsAt H vt rs ∧ (∀ r ∈ rs, ∃ s e g : Int, ∃ l, r = s :: e :: g :: l ∧ 0 ≤ s ∧ s < n ∧ 0 ≤ e ∧ e < n) ∧ H f = some (.tup (fs.map V.int)) ∧ fs.length = rs.length ∧
  ∀ H' l, Same H H' → H l = none → H' l = some (.lst ((netL n rs fs).map V.int)) → Q (.ref l) H'
section
variable {P : Program} {w : World} {K : PySem.W.Frag} {mg : Str → Option Value} {base : Heap}
theorem ok_net_forces (T : Txt K mg) : FnOk P w K mg base CX0 1 T.f_net_forces T.fd_net_forces ["count", "threads", "forces"] spNet := by
  refine T.F_net_forces.ok sc_net_forces (fun vs H Q E h => ?_) (fun cdv A outer s H vs Q E hr h => ?_)
  · obtain ⟨n, t, f, vt, rs, fs, rfl, _⟩ := h
    rfl
  · obtain ⟨n, t, f, vt, rs, fs, rfl, hn, et, rt, ok, ef, hl, q⟩ := h
    have lvt := Paired.len rt
    refine ⟨_, (pss_cons (ps_set (i := 3) sc_net_forces.nd rfl (by first | exact Or.inl rfl | exact Or.inr rfl) (pe_op dMul (pe_lst (pa_cons pe_int pa_nil)) (pv 0)))
   (pss_cons (ps_for PassesOwn.never rfl (dpi_zipA K (by rfl) T.n_zip (pa_cons (pv 1) (pa_cons (pv 2) pa_nil))) (dpg_tup K (n := 2) (by rfl) (pgs_cons (pg_name (i := 4) sc_net_forces.nd rfl (by first | exact Or.inl rfl | exact Or.inr rfl)) (pgs_cons (pg_name (i := 5) sc_net_forces.nd rfl (by first | exact Or.inl rfl | exact Or.inr rfl)) pgs_nil)))
    (pss_cons (ps_augS (pv 3) (pe_ix (dIx K) (pv 4) pe_int (fun _ _ => rfl)) (dGetL K) (pv 5) ip_sub set_list)
    (pss_one (ps_augS (pv 3) (pe_ix (dIx K) (pv 4) pe_int (fun _ _ => rfl)) (dGetL K) (pv 5) ip_add set_list))))
   (pss_one (ps_ret (pv 3))))), ?_⟩
    walk_at "rd"
    rename_i z hz
    refine rv_rep upd_same ⟨by omega, by omega, by simp; exact sz4 (by omega)⟩ (fun l hlz => ?_)
    rw [rep_map n _ rfl]
    walk_at "rd"
    have s0 : Same H (upd (upd H z (.lst [.int 0])) l (.lst ((List.replicate n (0 : Int)).map V.int))) := (same_upd hz).trans (same_upd hlz)
    refine ⟨t, f, vt, fs.map V.int, rfl, .inr ⟨SqT.of (s0 _ _ et), SqT.of (s0 _ _ ef), ?_⟩⟩
    have lf : vt.length = (fs.map V.int).length := by rw [List.length_map]; omega
    have lz : l ≠ z := (ne_of_none upd_same hlz).symm
    have l0 : H l = none := (same_upd hz (o := .lst [.int 0])).free hlz
    refine RZ.for_zipT (K := K) (a := t) (b := f) (xs := vt) (ys := fs.map V.int) lf (fun i σ H' => ∃ (x4 x5 : Option V), σ = [some (.int n), some (.ref t), some (.ref f), some (.ref l), x4, x5] ∧ Same H H' ∧ H' l = some (.lst ((netL n (rs.take i) (fs.take i)).map V.int))) ⟨none, none, rfl, s0, ?_⟩ (fun i σ H' h => by obtain ⟨_, _, _, s1, _⟩ := h; exact ⟨SqT.of (s1 _ _ et), SqT.of (s1 _ _ ef)⟩) ?_ ?_
    · rw [upd_same]
      have e : netL n (rs.take 0) (fs.take 0) = List.replicate n 0 := by
        unfold netL
        rw [List.take_zero, List.take_zero]
        show (List.range n).map (fun _ => (0 : Int)) = _
        rw [List.map_const', List.length_range]
      rw [e]
    · rintro i x y T2 σ H1 hx hy ⟨x4, x5, rfl, s1, el⟩ hT
      obtain ⟨r, er, xa, rfl, ex⟩ := Paired.get1 rt hx
      obtain ⟨s, e, g, r', rfl, s00, s01, e00, e01⟩ := ok r (List.mem_of_getElem? er)
      obtain ⟨v, ev, rfl⟩ : ∃ v, fs[i]? = some v ∧ y = V.int v := by
        rw [List.getElem?_map] at hy
        cases h : fs[i]? with
        | none => rw [h] at hy; cases hy
        | some v => rw [h] at hy; exact ⟨v, rfl, (Option.some.inj hy).symm⟩
      have ex1 : H1 xa = some (.tup (V.int s :: V.int e :: V.int g :: r'.map V.int)) := s1 _ _ ex
      obtain ⟨ks, rfl⟩ := Int.eq_ofNat_of_zero_le s00
      obtain ⟨ke, rfl⟩ := Int.eq_ofNat_of_zero_le e00
      have Tl : T2 ≠ l := (ne_of_none el hT).symm
      have xl : xa ≠ l := ne_of ex1 el (fun q => by cases q)
      have nl := netL_len n (rs.take i) (fs.take i)
      have a1 : atI ((netL n (rs.take i) (fs.take i)).map V.int) (ks : Int) = some (.int (hat (netL n (rs.take i) (fs.take i)) ks)) := at_hat nl (by omega) s01
      walk_at "rd"
      refine rv_setL (hp_new hT el) (by rw [List.length_map, nl]; exact ixN_of (by omega)) ?_
      rw [setm_int]
      have nl2 : ((netL n (rs.take i) (fs.take i)).set ks (hat (netL n (rs.take i) (fs.take i)) ks - v)).length = n := by rw [List.length_set]; exact nl
      have a2 := at_hat (i := (ke : Int)) nl2 (by omega) e01
      walk_at "rd"
      refine rv_setL upd_same (by rw [List.length_map, nl2]; exact ixN_of (by omega)) ?_
      rw [setm_int]
      have hi1 : (rs.take i).length = (fs.take i).length := by rw [List.length_take, List.length_take]; omega
      have st := net_step n (rs.take i) (fs.take i) ((ks : Int) :: (ke : Int) :: g :: r') v ks ke hi1 rfl rfl (by omega) (by omega)
      refine ⟨_, _, rfl, ?_, upd_same.trans ?_⟩
      · intro b o eb
        have nb : b ≠ l := ne_of_none eb l0
        rw [upd_ne nb, upd_ne nb]
        exact same_upd hT _ _ (s1 _ _ eb)
      · rw [st, List.take_add_one, List.take_add_one, er, ev]
        rfl
    · rintro σ H1 ⟨x4, x5, rfl, s1, el⟩
      rw [List.take_of_length_le (by omega), List.take_of_length_le (by omega)] at el
      walk_at "rd"
      exact q _ l s1 l0 el
end
def spWorth : Sp := fun vs H Q _ => ∃ (v : V) (n : Nat) (bs ps : List (List Int)) (u tp tb : Addr) (pf bf : List Int), vs = [v, .ref u] ∧ SysAt H v n bs ps ∧ OkB n bs ∧ OkP n ps ∧ bs.length ≤ 4000 ∧ ps.length ≤ 4000 ∧ H u = some (.tup [.ref tp, .ref tb]) ∧ H tp = some (.tup (pf.map V.int)) ∧ H tb = some (.tup (bf.map V.int)) ∧ pf.length = ps.length ∧ bf.length = bs.length ∧
  ∀ H', Same H H' → Q (.int (wsum bs bf - wsum ps pf)) H'
section
variable {P : Program} {w : World} {K : PySem.W.Frag} {mg : Str → Option Value} {base : Heap}
theorem ok_worth (T : Txt K mg) : FnOk P w K mg base CX0 1 T.f_worth T.fd_worth ["system", "forces"] spWorth := by
  refine T.F_worth.ok sc_worth (fun vs H Q E h => ?_) (fun cdv A outer s H vs Q E hr h => ?_)
  · obtain ⟨v, n, bs, ps, u, tp, tb, pf, bf, rfl, _⟩ := h
    rfl
  · obtain ⟨v, n, bs, ps, u, tp, tb, pf, bf, rfl, ⟨a, p, q', vb, vp, rfl, ea, ep, rb, eq, rp⟩, okb, okp, lb, lp, eu, etp, etb, lpf, lbf, q⟩ := h
    have lvb := Paired.len rb
    have lvp := Paired.len rp
    refine ⟨_, (pss_cons (ps_asg (pv 1) (dpg_tup K (n := 2) (by rfl) (pgs_cons (pg_name (i := 2) sc_worth.nd rfl (by first | exact Or.inl rfl | exact Or.inr rfl)) (pgs_cons (pg_name (i := 3) sc_worth.nd rfl (by first | exact Or.inl rfl | exact Or.inr rfl)) pgs_nil))))
   (pss_cons (ps_set (i := 4) sc_worth.nd rfl (by first | exact Or.inl rfl | exact Or.inr rfl) (pe_callB (dSum K rfl) (by rfl) T.n_sum (by decide +kernel) (pa_cons (pe_lc (own := [("bound", 5), ("force", 6)]) (g := gTup K 2 (gCons (gName 5) (gCons (gName 6) (gNil)))) (tt := tYes) rfl sc_worth.nd  (dpi_zipA K (by rfl) T.n_zip (pa_cons (pe_ix (dIx K) (pv 0) pe_int (fun _ _ => rfl)) (pa_cons (pv 3) pa_nil))) (blkOk_by (own := [("bound", 5), ("force", 6)]) (N := ["system", "forces", "pull_forces", "bound_forces", "gain", "bound", "force", "pull"]) (sc := defScope s_worth) (by decide +kernel)) (fun _ _ _ _ _ => (dpg_tup K (n := 2) (by rfl) (pgs_cons (pg_name (i := 5) sc_worth.nd rfl (by first | exact Or.inl rfl | exact Or.inr rfl)) (pgs_cons (pg_name (i := 6) sc_worth.nd rfl (by first | exact Or.inl rfl | exact Or.inr rfl)) pgs_nil)))) (fun _ _ _ _ _ => pts_nil) (fun _ _ _ _ _ => (pe_op dMul (pe_ix (dIx K) (pv 5) pe_int (fun _ _ => rfl)) (pv 6)))) pa_nil)))
   (pss_one (ps_ret (pe_op dSub (pv 4) (pe_callB (dSum K rfl) (by rfl) T.n_sum (by decide +kernel) (pa_cons (pe_lc (own := [("force", 6), ("pull", 7)]) (g := gTup K 2 (gCons (gName 7) (gCons (gName 6) (gNil)))) (tt := tYes) rfl sc_worth.nd  (dpi_zipA K (by rfl) T.n_zip (pa_cons (pe_ix (dIx K) (pv 0) pe_int (fun _ _ => rfl)) (pa_cons (pv 2) pa_nil))) (blkOk_by (own := [("force", 6), ("pull", 7)]) (N := ["system", "forces", "pull_forces", "bound_forces", "gain", "bound", "force", "pull"]) (sc := defScope s_worth) (by decide +kernel)) (fun _ _ _ _ _ => (dpg_tup K (n := 2) (by rfl) (pgs_cons (pg_name (i := 7) sc_worth.nd rfl (by first | exact Or.inl rfl | exact Or.inr rfl)) (pgs_cons (pg_name (i := 6) sc_worth.nd rfl (by first | exact Or.inl rfl | exact Or.inr rfl)) pgs_nil)))) (fun _ _ _ _ _ => pts_nil) (fun _ _ _ _ _ => (pe_op dMul (pe_ix (dIx K) (pv 7) pe_int (fun _ _ => rfl)) (pv 6)))) pa_nil))))))), ?_⟩
    walk_at "rd"
    refine lc_zipR (a := p) (b := tb) (xs := vb) (rs := bs) (fs := bf) (fun r v => .int (r.getD 2 0 * v)) (fun Qe h => ?_) ep rb etb lbf (by omega) ?_ ?_
    · walk_at "rd"; exact h
    · rintro x r v T' H' Nx E hr s1 ⟨xa, rfl, ex⟩ eT hN
      obtain ⟨s, e, g, rfl, _, _, _, _, _, g0, g1⟩ := okb r hr
      replace ex : H' xa = some (.tup [.int s, .int e, .int g]) := ex
      walk_at "rd"
      exact hN _ fun _ _ e => e
    · intro D H1 hD s1 e1
      rw [show (bs.zip bf).map (fun p => V.int (p.1.getD 2 0 * p.2)) = ((bs.zip bf).map fun p => p.1.getD 2 0 * p.2).map V.int by rw [List.map_map]; rfl] at e1
      walk_at "rd"
      refine ⟨D, _, rfl, SqL.of e1, ?_⟩
      have ea1 := s1 _ _ ea
      have eq1 := s1 _ _ eq
      have etp1 := s1 _ _ etp
      walk_at "rd"
      refine lc_zipR (a := q') (b := tp) (xs := vp) (rs := ps) (fs := pf) (fun r v => .int (r.getD 2 0 * v)) (fun Qe h => ?_) eq1 (Paired.mapP rp fun _ _ h => h.same s1) etp1 lpf (by omega) ?_ ?_
      · walk_at "rd"; exact h
      · rintro x r v T' H' Nx E hr s2 ⟨xa, rfl, ex⟩ eT hN
        obtain ⟨s, e, g, w, rfl, _, _, _, _, _, g0, g1, _⟩ := okp r hr
        replace ex : H' xa = some (.tup [.int s, .int e, .int g, .int w]) := ex
        walk_at "rd"
        exact hN _ fun _ _ e => e
      · intro D2 H2 hD2 s2 e2
        rw [show (ps.zip pf).map (fun p => V.int (p.1.getD 2 0 * p.2)) = ((ps.zip pf).map fun p => p.1.getD 2 0 * p.2).map V.int by rw [List.map_map]; rfl] at e2
        walk_at "rd"
        refine ⟨D2, _, rfl, SqL.of e2, ?_⟩
        walk_at "rd"
        exact q H2 (s1.trans s2)
end
def spForce : Sp := fun vs H Q _ => ∃ (b c : Addr) (cs : List Int), vs = [.ref b] ∧ BagAt b c cs H ∧ ∀ H' (r : Int), Off b H H' → BagAt b c cs H' → Q (.int r) H'
def spLimit : Sp := fun vs H Q _ => ∃ (b c : Addr) (cs : List Int) (m : Int), vs = [.ref b, .int m] ∧ BagAt b c cs H ∧ ∀ H' (r : Int), Off b H H' → BagAt b c cs H' → 0 ≤ r → r ≤ 99 → Q (.int r) H'
section
variable {P : Program} {w : World} {K : PySem.W.Frag} {mg : Str → Option Value} {base : Heap}
--! _law_draw cut1 yes
theorem ok_law_draw (T : Txt K mg) : FnOk P w K mg base CX0 1 T.f_law_draw T.fd_law_draw ["bag", "many"] spDraw := by
  refine T.F_law_draw.ok sc_law_draw (fun vs H Q E h => ?_) (fun cdv A outer s H vs Q E hr h => ?_)
  · obtain ⟨b, c, cs, m, rfl, _⟩ := h
    rfl
  · obtain ⟨b, c, cs, m, rfl, hm, hm9, B, q⟩ := h
    have p18 : (0 : Int) ≤ 10 ^ Int.toNat 18 := by decide
    refine ⟨_, (C8.pss_cut (ps_if (PW.pt (pw_and (pt_cmpR dEq (pe_ix (dIx K) (pv 0) pe_int (fun _ _ => rfl)) pe_int (nomark _)) (pw_and (pt_cmpR dEq (pe_ix (dIx K) (pv 0) pe_int (fun _ _ => rfl)) pe_int (nomark _)) (pw_and1 (pt_cmpR dLt (pe_ix (dIx K) (pv 0) pe_int (fun _ _ => rfl)) (pe_callB (dLen K) (by rfl) T.n_len (by decide +kernel) (pa_cons (pe_ix (dIx K) (pv 0) pe_int (fun _ _ => rfl)) pa_nil)) (nomark _))))))
    (pss_cons (ps_set (i := 2) sc_law_draw.nd rfl (by first | exact Or.inl rfl | exact Or.inr rfl) (pe_ix (dIx K) (pe_ix (dIx K) (pv 0) pe_int (fun _ _ => rfl)) (pe_ix (dIx K) (pv 0) pe_int (fun _ _ => rfl)) (fun _ _ => rfl)))
    (pss_cons (ps_asg (pe_op (dAdd K) (pe_ix (dIx K) (pv 0) pe_int (fun _ _ => rfl)) pe_int) (pg_sub (pv 0) pe_int set_list))
    (pss_one (ps_if (pt_cmpR dGe (pv 2) (pe_op dPow pe_int pe_int) (nomark _))
     (pss_one (ps_asg (pv 2) (pg_sub (pv 0) pe_int set_list)))
     (pss_cons (ps_asg (pe_op dMod (pe_callTy dInt (by rfl) T.n_int (by decide +kernel) (pa_cons (pe_op (dAdd K) (pe_op dMul (pe_ix (dIx K) (pv 0) pe_int (fun _ _ => rfl)) pe_int) (pv 2)) pa_nil)) pe_int) (pg_sub (pv 0) pe_int set_list))
     (pss_one (ps_asg pe_int (pg_sub (pv 0) pe_int set_list))))))))
    pss_nil)
   (pss_cons (ps_if (pt_cmpR dGt (pe_ix (dIx K) (pv 0) pe_int (fun _ _ => rfl)) pe_int (nomark _))
    (pss_cons (ps_set (i := 3) sc_law_draw.nd rfl (by first | exact Or.inl rfl | exact Or.inr rfl) (pe_op dMod (pe_callTy dInt (by rfl) T.n_int (by decide +kernel) (pa_cons (pe_ix (dIx K) (pv 0) pe_int (fun _ _ => rfl)) pa_nil)) (pv 1)))
    (pss_cons (ps_asg (pe_op dDiv (pe_ix (dIx K) (pv 0) pe_int (fun _ _ => rfl)) (pv 1)) (pg_sub (pv 0) pe_int set_list))
    (pss_one (ps_ret (pv 3)))))
    pss_nil)
   (pss_cons (ps_asg (pe_op (dAdd K) (pe_ix (dIx K) (pv 0) pe_int (fun _ _ => rfl)) pe_int) (pg_sub (pv 0) pe_int set_list))
   (pss_cons (ps_if (pt_cmpR dGt (pe_ix (dIx K) (pv 0) pe_int (fun _ _ => rfl)) pe_int (nomark _))
    (pss_one (ps_asg (pe_op dSub (pe_ix (dIx K) (pv 0) pe_int (fun _ _ => rfl)) pe_int) (pg_sub (pv 0) pe_int set_list)))
    pss_nil)
   (pss_cons (ps_set (i := 4) sc_law_draw.nd rfl (by first | exact Or.inl rfl | exact Or.inr rfl) (pe_op dMod (pe_callTy dInt (by rfl) T.n_int (by decide +kernel) (pa_cons (pe_op (dAdd K) (pe_op (dAdd K) (pe_op dMul (pe_ix (dIx K) (pv 0) pe_int (fun _ _ => rfl)) pe_int) (pe_op dMul (pe_ix (dIx K) (pv 0) pe_int (fun _ _ => rfl)) pe_int)) pe_int) pa_nil)) pe_int))
   (pss_cons (ps_set (i := 5) sc_law_draw.nd rfl (by first | exact Or.inl rfl | exact Or.inr rfl) (pe_op dMod (pe_callTy dInt (by rfl) T.n_int (by decide +kernel) (pa_cons (pe_op (dAdd K) (pe_op (dAdd K) (pe_op dMul (pv 4) (pv 4)) (pe_op dMul (pe_ix (dIx K) (pv 0) pe_int (fun _ _ => rfl)) pe_int)) pe_int) pa_nil)) pe_int))
   (pss_cons (ps_set (i := 6) sc_law_draw.nd rfl (by first | exact Or.inl rfl | exact Or.inr rfl) (pe_op dMod (pe_callTy dInt (by rfl) T.n_int (by decide +kernel) (pa_cons (pe_op (dAdd K) (pe_op dMul (pv 5) (pv 5)) (pe_op dDiv (pv 5) pe_int)) pa_nil)) pe_int))
   (pss_one (ps_ret (pe_op dMod (pe_callTy dInt (by rfl) T.n_int (by decide +kernel) (pa_cons (pe_op dDiv (pv 6) pe_int) pa_nil)) (pv 1))))))))))), ?_⟩
    refine ⟨fun σ H' => ∃ x, σ = [some (.ref b), some (.int m), x, none, none, none, none] ∧ Off b H H' ∧ BagAt b c cs H', ?_, ?_⟩
    · obtain ⟨i, z, s, n, k, hb, ncb, hc, hi, hz⟩ := id B
      walk_at "rd"
      all_goals exact ⟨_, rfl, by walk_at "off", by walk_at "bag"⟩
    · rintro σ H1 ⟨x, rfl, f1, i, z, s, n, k, hb, ncb, hc, hi, hz⟩
      have zdiv : 0 ≤ z / m := Int.ediv_nonneg hz (by omega)
      walk_at "rd"
      all_goals exact q _ _ (by walk_at "off") (by walk_at "bag") (fm0 hm) (fm1 hm)
theorem ok_law_bag (T : Txt K mg) : FnOk P w K mg base CX0 1 T.f_law_bag T.fd_law_bag ["script"] (spBag K) := by
  refine T.F_law_bag.ok sc_law_bag (fun vs H Q E h => ?_) (fun cdv A outer s H vs Q E hr h => ?_)
  · obtain ⟨a, ns, rfl, _⟩ := h
    rfl
  · obtain ⟨a, ns, rfl, hS, hl, q⟩ := h
    refine ⟨_, (pss_one (ps_ret (pe_lst (pa_cons (pe_lc (own := [("cell", 1)]) (g := gName 1) (tt := tYes) rfl sc_law_bag.nd  (dpi_list K (pv 0)) (blkOk_by (own := [("cell", 1)]) (N := ["script", "cell"]) (sc := defScope s_law_bag) (by decide +kernel)) (fun _ _ _ _ _ => (pg_name (i := 1) sc_law_bag.nd rfl (by first | exact Or.inl rfl | exact Or.inr rfl))) (fun _ _ _ _ _ => pts_nil) (fun _ _ _ _ _ => (pe_callB dAbs (by rfl) T.n_abs (by decide +kernel) (pa_cons (pe_callTy dInt (by rfl) T.n_int (by decide +kernel) (pa_cons (pv 1) pa_nil)) pa_nil)))) (pa_cons pe_int (pa_cons pe_int (pa_cons pe_int (pa_cons pe_int (pa_cons pe_int pa_nil))))))))), ?_⟩
    walk_at "rd"
    refine lc_map (a := a) (xs := ns.map V.int) (fun x => match x with | .int i => .int (if i < 0 then -i else i) | _ => x) (fun Qe h => ?_) hS (by rw [List.length_map]; exact Nat.lt_of_le_of_lt hl (by decide)) (fun _ => rfl) ?_ ?_
    · walk_at "rd"; exact h
    · intro i x H' hx s1 Qe hq
      obtain ⟨n, rfl⟩ : ∃ n, x = V.int n := by
        obtain ⟨n, _, e⟩ := List.mem_map.mp (List.mem_of_getElem? hx)
        exact ⟨n, e.symm⟩
      walk_at "rd"
      exact hq _ fun _ _ e => e
    · intro D H1 hD s1 e1
      have e2 : List.map (fun x => match x with | .int i => .int (if i < 0 then -i else i) | _ => x) (ns.map V.int) = (ns.map fun i => if i < 0 then -i else i).map V.int := by
        rw [List.map_map, List.map_map]; rfl
      rw [e2] at e1
      walk_at "rd"
      rename_i p hp
      refine q _ _ D _ (s1.trans (same_upd hp)) (s1.free hp) ⟨_, _, _, _, _, upd_same, ne_of_none e1 hp, hp_new hp e1, by omega, by omega⟩
--! _law_any_system cut1 yes
--! _law_any_system cut3 yes
theorem ok_law_whole (T : Txt K mg) : FnOk P w K mg base CX0 1 T.f_law_whole T.fd_law_whole ["got"] spWhole := by
  refine T.F_law_whole.ok sc_law_whole (fun vs H Q E h => ?_) (fun cdv A outer s H vs Q E hr h => ?_)
  · obtain ⟨i, rfl, _⟩ := h
    rfl
  · obtain ⟨i, rfl, q⟩ := h
    refine ⟨_, (pss_one (ps_ret (pe_and (pe_callB (dIsi K) (by rfl) T.n_isinstance (by decide +kernel) (pa_cons (pv 0) (pa_cons (pe_bltn (v := .ty "int") (u := .type "int") (by rfl) T.n_int (by decide +kernel) rfl) pa_nil))) (pe_one (pe_not (pe_callB (dIsi K) (by rfl) T.n_isinstance (by decide +kernel) (pa_cons (pv 0) (pa_cons (pe_bltn (v := .ty "bool") (u := .type "bool") (by rfl) T.n_bool (by decide +kernel) rfl) pa_nil)))))))), ?_⟩
    walk_at "rd"
    exact q
theorem ok_law_gap (T : Txt K mg) : FnOk P w K mg base CX0 2 T.f_law_gap T.fd_law_gap ["bag"] spGap := by
  refine T.F_law_gap.ok sc_law_gap (fun vs H Q E h => ?_) (fun cdv A outer s H vs Q E hr h => ?_)
  · obtain ⟨b, c, cs, rfl, _⟩ := h
    rfl
  · obtain ⟨b, c, cs, rfl, B, q⟩ := h
    refine ⟨_, (pss_cons (ps_if (pt_cmpR dEq (pe_call (ok_law_draw T) (hr.mono (by omega)) (by rfl) T.g_law_draw T.F_law_draw.kp T.b_law_draw .nil pass0 (pa_cons (pv 0) (pa_cons pe_int pa_nil))) pe_int (nomark _))
    (pss_one (ps_ret (pe_op dSub (pe_call (ok_law_draw T) (hr.mono (by omega)) (by rfl) T.g_law_draw T.F_law_draw.kp T.b_law_draw .nil pass0 (pa_cons (pv 0) (pa_cons pe_int pa_nil))) pe_int)))
    pss_nil)
   (pss_one (ps_ret (pe_op dSub (pe_call (ok_law_draw T) (hr.mono (by omega)) (by rfl) T.g_law_draw T.F_law_draw.kp T.b_law_draw .nil pass0 (pa_cons (pv 0) (pa_cons pe_int pa_nil))) pe_int)))), ?_⟩
    walk_at "rd"
    refine ⟨b, c, cs, 8, rfl, by decide, by decide, B, fun H1 r f1 B1 r0 r1 => ?_⟩
    walk_at "rd"
    · refine ⟨b, c, cs, 2000001, rfl, by decide, by decide, B1, fun H2 r f2 B2 r0 r1 => ?_⟩
      walk_at "rd"
      exact q _ _ (f1.trans f2) B2 (by omega) (by omega)
    · refine ⟨b, c, cs, 9, rfl, by decide, by decide, B1, fun H2 r f2 B2 r0 r1 => ?_⟩
      walk_at "rd"
      exact q _ _ (f1.trans f2) B2 (by omega) (by omega)
theorem ok_law_ends (T : Txt K mg) : FnOk P w K mg base CX0 2 T.f_law_ends T.fd_law_ends ["bag", "count"] spEnds := by
  refine T.F_law_ends.ok sc_law_ends (fun vs H Q E h => ?_) (fun cdv A outer s H vs Q E hr h => ?_)
  · obtain ⟨b, c, cs, n, rfl, _⟩ := h
    rfl
  · obtain ⟨b, c, cs, n, rfl, n2, n3, B, q⟩ := h
    refine ⟨_, (pss_cons (ps_set (i := 2) sc_law_ends.nd rfl (by first | exact Or.inl rfl | exact Or.inr rfl) (pe_call (ok_law_draw T) (hr.mono (by omega)) (by rfl) T.g_law_draw T.F_law_draw.kp T.b_law_draw .nil pass0 (pa_cons (pv 0) (pa_cons (pv 1) pa_nil))))
   (pss_one (ps_ret (pe_tup (pa_cons (pv 2) (pa_cons (pe_op dMod (pe_callTy dInt (by rfl) T.n_int (by decide +kernel) (pa_cons (pe_op (dAdd K) (pe_op (dAdd K) (pv 2) pe_int) (pe_call (ok_law_draw T) (hr.mono (by omega)) (by rfl) T.g_law_draw T.F_law_draw.kp T.b_law_draw .nil pass0 (pa_cons (pv 0) (pa_cons (pe_op dSub (pv 1) pe_int) pa_nil)))) pa_nil)) (pv 1)) pa_nil)))))), ?_⟩
    walk_at "rd"
    refine ⟨b, c, cs, n, rfl, by omega, Int.lt_of_le_of_lt (show (n : Int) ≤ 10000 by omega) (by decide), B, fun H1 r f1 B1 r0 r1 => ?_⟩
    walk_at "rd"
    refine ⟨b, c, cs, _, rfl, by omega, Int.lt_of_le_of_lt (show (n : Int) - 1 ≤ 10000 by omega) (by decide), B1, fun H2 r' f2 B2 r0' r1' => ?_⟩
    walk_at "rd"
    rename_i p hp
    have e : (r + 1 + r').fmod (n : Int) = (if r + 1 + r' < n then r + 1 + r' else r + 1 + r' - n) := by
      rw [Int.fmod_eq_emod_of_nonneg _ (by omega)]
      split
      · exact Int.emod_eq_of_lt (by omega) (by omega)
      · rw [← Int.sub_emod_right]
        exact Int.emod_eq_of_lt (by omega) (by omega)
    refine q _ p r _ ((f1.trans f2).new hp) (B2.new hp) upd_same r0 r1 (by rw [e]; split <;> omega) (by rw [e]; split <;> omega) (by rw [e]; split <;> omega)
theorem ok_law_doubled (T : Txt K mg) : FnOk P w K mg base CX0 2 T.f_law_doubled T.fd_law_doubled ["bag", "rows"] spDoubled := by
  refine T.F_law_doubled.ok sc_law_doubled (fun vs H Q E h => ?_) (fun cdv A outer s H vs Q E hr h => ?_)
  · obtain ⟨b, c, cs, l, xs, rfl, _⟩ := h
    rfl
  · obtain ⟨b, c, cs, l, xs, rfl, B, el, lb, lc, hx, q⟩ := h
    refine ⟨_, (pss_cons (ps_if (PW.pt (pw_and (pt_chain dLt dLt pe_int (pe_callB (dLen K) (by rfl) T.n_len (by decide +kernel) (pa_cons (pv 1) pa_nil)) pe_int) (pw_and1 (pt_cmpR dEq (pe_call (ok_law_draw T) (hr.mono (by omega)) (by rfl) T.g_law_draw T.F_law_draw.kp T.b_law_draw .nil pass0 (pa_cons (pv 0) (pa_cons pe_int pa_nil))) pe_int (nomark _)))))
    (pss_one (ps_expr (pe_bm PySem.F.plainAttrs_list PySem.F.slot_list_append PySem.F.type_list_append mt_append (pv 1) (pa_cons (pe_ix (dIx K) (pv 1) (pe_call (ok_law_draw T) (hr.mono (by omega)) (by rfl) T.g_law_draw T.F_law_draw.kp T.b_law_draw .nil pass0 (pa_cons (pv 0) (pa_cons (pe_callB (dLen K) (by rfl) T.n_len (by decide +kernel) (pa_cons (pv 1) pa_nil)) pa_nil))) (fun _ _ => rfl)) pa_nil))))
    pss_nil)
   (pss_one (ps_ret (pe_callTy (dTuple K) (by rfl) T.n_tuple (by decide +kernel) (pa_cons (pv 1) pa_nil))))), ?_⟩
    walk_at "rd"
    · refine ⟨b, c, cs, 8, rfl, by decide, by decide, B, fun H1 r f1 B1 r0 r1 => ?_⟩
      have e1 := f1.get lb el
      walk_at "rd"
      · refine ⟨b, c, cs, _, rfl, by assumption, Int.lt_of_le_of_lt (show (xs.length : Int) ≤ 10000 by omega) (by decide), B1, fun H2 r f2 B2 r0 r1 => ?_⟩
        have e2 := f2.get lb e1
        obtain ⟨i, rfl⟩ := Int.eq_ofNat_of_zero_le r0
        have hi : i < xs.length := by omega
        have hy : atI xs (i : Int) = some xs[i] := atI_nat (List.getElem?_eq_getElem hi)
        walk_at "rd"
        rename_i p hp
        refine q _ p _ ((Off2.of_off (f1.trans f2)).mut.new hp) ((B2.put lb lc).new hp) ((((B.ts f1).trans (B1.ts f2)).put e2).new hp) upd_same (.inr ⟨i, _, List.getElem?_eq_getElem hi, rfl⟩)
      · rename_i p hp
        exact q _ p _ ((Off2.of_off f1).new hp) (B1.new hp) ((B.ts f1).new hp) upd_same (.inl rfl)
    · rename_i p hp
      exact q _ p _ ((Off2.of_off (Off.refl b H)).new hp) (B.new hp) ((TS.refl _).new hp) upd_same (.inl rfl)
    · rename_i p hp
      exact q _ p _ ((Off2.of_off (Off.refl b H)).new hp) (B.new hp) ((TS.refl _).new hp) upd_same (.inl rfl)
theorem ok_law_shuffle (T : Txt K mg) : FnOk P w K mg base CX0 2 T.f_law_shuffle T.fd_law_shuffle ["bag", "things"] (spShuffle K) := by
  refine T.F_law_shuffle.ok sc_law_shuffle (fun vs H Q E h => ?_) (fun cdv A outer s H vs Q E hr h => ?_)
  · obtain ⟨b, c, cs, t, xs, rfl, _⟩ := h
    rfl
  · obtain ⟨b, c, cs, t, xs, rfl, ht, tb, hx, B, q⟩ := h
    refine ⟨_, (pss_cons (ps_set (i := 2) sc_law_shuffle.nd rfl (by first | exact Or.inl rfl | exact Or.inr rfl) (pe_callTy (dList K) (by rfl) T.n_list (by decide +kernel) (pa_cons (pv 1) pa_nil)))
   (pss_cons (ps_set (i := 3) sc_law_shuffle.nd rfl (by first | exact Or.inl rfl | exact Or.inr rfl) (pe_lst pa_nil))
   (pss_cons (ps_for PassesOwn.never rfl (pi_range1 rfl T.n_range (pa_cons (pe_callB (dLen K) (by rfl) T.n_len (by decide +kernel) (pa_cons (pv 1) pa_nil)) pa_nil)) (pg_name (i := 4) sc_law_shuffle.nd rfl (by first | exact Or.inl rfl | exact Or.inr rfl))
    (pss_one (ps_expr (pe_bm PySem.F.plainAttrs_list PySem.F.slot_list_append PySem.F.type_list_append mt_append (pv 3) (pa_cons (pe_bm PySem.F.plainAttrs_list PySem.F.slot_list_pop PySem.F.type_list_pop mt_popAt (pv 2) (pa_cons (pe_call (ok_law_draw T) (hr.mono (by omega)) (by rfl) T.g_law_draw T.F_law_draw.kp T.b_law_draw .nil pass0 (pa_cons (pv 0) (pa_cons (pe_callB (dLen K) (by rfl) T.n_len (by decide +kernel) (pa_cons (pv 2) pa_nil)) pa_nil))) pa_nil)) pa_nil)))))
   (pss_one (ps_ret (pv 3)))))), ?_⟩
    have turn : ∀ (r m : Addr) (i : Nat) (Hi : Hp) (ms rs : List V), (ms ++ rs).Perm xs → ms.length = i → i < xs.length → ∃ _ : rs.length = xs.length - i, 0 < rs.length := by
      intro r m i Hi ms rs p hl hi
      have := p.length_eq
      rw [List.length_append] at this
      exact ⟨by omega, by omega⟩
    rcases ht with ht | ht
    all_goals
      walk_at "rd"
      rename_i r hr0 m hm0
      have rb := B.ne hr0
      have rc := B.ne2 hr0
      have mb := (B.new hr0 (o := .lst xs)).ne hm0
      have mc := (B.new hr0 (o := .lst xs)).ne2 hm0
      have rm : r ≠ m := ne_of_none upd_same hm0
      have m0 : H m = none := ((Off.refl b H).new hr0).fresh mb hm0
      refine ⟨_, rfl, by omega, by omega, ?_⟩
      refine for_range (lo := 0) (n := xs.length) (fun i σ H' => ∃ (x4 : Option V) (ms rs : List V), σ = [some (.ref b), some (.ref t), some (.ref r), some (.ref m), x4] ∧ Off b H H' ∧ BagAt b c cs H' ∧ H' r = some (.lst rs) ∧ H' m = some (.lst ms) ∧ (ms ++ rs).Perm xs ∧ ms.length = i) ⟨none, [], xs, rfl, ((Off.refl b H).new hr0).new hm0, (B.new hr0).new hm0, hp_new hm0 upd_same, upd_same, List.Perm.refl _, rfl⟩ ?_ ?_
      · rintro i σ H1 hi ⟨x4, ms, rs, rfl, f1, B1, er, em, p, hl⟩
        have hpl := p.length_eq
        rw [List.length_append] at hpl
        walk_at "rd"
        refine ⟨b, c, cs, _, rfl, by omega, Int.lt_of_le_of_lt (show (rs.length : Int) ≤ 1000 by omega) (by decide), B1, fun H2 d f2 B2 d0 d1 => ?_⟩
        have er2 := f2.get rb er
        have em2 := f2.get mb em
        have hk : d.toNat < rs.length := by omega
        walk_at "rd"
        refine rv_pop er2 d0 d1 (by omega) rfl (List.getElem?_eq_getElem hk) ?_
        walk_at "rd"
        exact ⟨_, ms ++ [rs[d.toNat]], rs.eraseIdx d.toNat, rfl, ((f1.trans f2).mut ((B.ne hr0 |> fun _ => hr0))).mut m0, (B2.put rb rc).put mb mc, hp_set rm upd_same, upd_same, perm_take p (List.getElem?_eq_getElem hk), by simp [hl]⟩
      · rintro σ H1 ⟨x4, ms, rs, rfl, f1, B1, er, em, p, hl⟩
        have hpl := p.length_eq
        rw [List.length_append] at hpl
        have h0 : rs = [] := List.length_eq_zero_iff.mp (by omega)
        subst h0
        walk_at "rd"
        rw [List.append_nil] at p
        exact q H1 m ms f1 B1 em mb mc m0 p
theorem ok_law_signed (T : Txt K mg) : FnOk P w K mg base CX0 2 T.f_law_signed T.fd_law_signed ["bag", "many"] spSigned := by
  refine T.F_law_signed.ok sc_law_signed (fun vs H Q E h => ?_) (fun cdv A outer s H vs Q E hr h => ?_)
  · obtain ⟨b, c, cs, m, rfl, _⟩ := h
    rfl
  · obtain ⟨b, c, cs, m, rfl, m0, m1, B, q⟩ := h
    refine ⟨_, (pss_cons (ps_set (i := 2) sc_law_signed.nd rfl (by first | exact Or.inl rfl | exact Or.inr rfl) (pe_call (ok_law_draw T) (hr.mono (by omega)) (by rfl) T.g_law_draw T.F_law_draw.kp T.b_law_draw .nil pass0 (pa_cons (pv 0) (pa_cons (pv 1) pa_nil))))
   (pss_cons (ps_if (pt_cmpR dEq (pe_call (ok_law_draw T) (hr.mono (by omega)) (by rfl) T.g_law_draw T.F_law_draw.kp T.b_law_draw .nil pass0 (pa_cons (pv 0) (pa_cons pe_int pa_nil))) pe_int (nomark _))
    (pss_one (ps_ret (pe_op dSub pe_int (pv 2))))
    pss_nil)
   (pss_one (ps_ret (pv 2))))), ?_⟩
    walk_at "rd"
    refine ⟨b, c, cs, m, rfl, m0, m1, B, fun H1 r f1 B1 r0 r1 => ?_⟩
    walk_at "rd"
    refine ⟨b, c, cs, 2, rfl, by decide, by decide, B1, fun H2 r2 f2 B2 r20 r21 => ?_⟩
    walk_at "rd"
    all_goals exact q _ _ (f1.trans f2) B2
theorem ok_law_force (T : Txt K mg) : FnOk P w K mg base CX0 3 T.f_law_force T.fd_law_force ["bag"] spForce := by
  refine T.F_law_force.ok sc_law_force (fun vs H Q E h => ?_) (fun cdv A outer s H vs Q E hr h => ?_)
  · obtain ⟨b, c, cs, rfl, _⟩ := h
    rfl
  · obtain ⟨b, c, cs, rfl, B, q⟩ := h
    refine ⟨_, (pss_cons (ps_set (i := 1) sc_law_force.nd rfl (by first | exact Or.inl rfl | exact Or.inr rfl) (pe_call (ok_law_draw T) (hr.mono (by omega)) (by rfl) T.g_law_draw T.F_law_draw.kp T.b_law_draw .nil pass0 (pa_cons (pv 0) (pa_cons pe_int pa_nil))))
   (pss_cons (ps_if (pt_cmpR dEq (pv 1) pe_int (nomark _))
    (pss_one (ps_ret pe_int))
    pss_nil)
   (pss_cons (ps_if (pt_cmpR dEq (pv 1) pe_int (nomark _))
    (pss_one (ps_ret (pe_op dSub (pe_call (ok_law_draw T) (hr.mono (by omega)) (by rfl) T.g_law_draw T.F_law_draw.kp T.b_law_draw .nil pass0 (pa_cons (pv 0) (pa_cons pe_int pa_nil))) pe_int)))
    pss_nil)
   (pss_cons (ps_if (pt_cmpR dEq (pv 1) pe_int (nomark _))
    (pss_one (ps_ret (pe_call (ok_law_signed T) (hr.mono (by omega)) (by rfl) T.g_law_signed T.F_law_signed.kp T.b_law_signed .nil pass0 (pa_cons (pv 0) (pa_cons pe_int pa_nil)))))
    pss_nil)
   (pss_one (ps_ret (pe_call (ok_law_signed T) (hr.mono (by omega)) (by rfl) T.g_law_signed T.F_law_signed.kp T.b_law_signed .nil pass0 (pa_cons (pv 0) (pa_cons (pe_op dPow pe_int pe_int) pa_nil))))))))), ?_⟩
    walk_at "rd"
    refine ⟨b, c, cs, 4, rfl, by decide, by decide, B, fun H1 r f1 B1 r0 r1 => ?_⟩
    walk_at "rd"
    · exact q _ _ f1 B1
    · refine ⟨b, c, cs, 7, rfl, by decide, by decide, B1, fun H2 r f2 B2 r0 r1 => ?_⟩
      walk_at "rd"
      exact q _ _ (f1.trans f2) B2
    · exact ⟨b, c, cs, 100, rfl, by decide, by decide, B1, fun H2 r f2 B2 => q _ _ (f1.trans f2) B2⟩
    · exact ⟨b, c, cs, _, rfl, by decide, by decide, B1, fun H2 r f2 B2 => q _ _ (f1.trans f2) B2⟩
theorem ok_law_limit (T : Txt K mg) : FnOk P w K mg base CX0 2 T.f_law_limit T.fd_law_limit ["bag", "amount"] spLimit := by
  refine T.F_law_limit.ok sc_law_limit (fun vs H Q E h => ?_) (fun cdv A outer s H vs Q E hr h => ?_)
  · obtain ⟨b, c, cs, m, rfl, _⟩ := h
    rfl
  · obtain ⟨b, c, cs, m, rfl, B, q⟩ := h
    refine ⟨_, (pss_cons (ps_if (pt_cmpR dEq (pe_call (ok_law_draw T) (hr.mono (by omega)) (by rfl) T.g_law_draw T.F_law_draw.kp T.b_law_draw .nil pass0 (pa_cons (pv 0) (pa_cons pe_int pa_nil))) pe_int (nomark _))
    (pss_one (ps_ret (pe_call (ok_law_draw T) (hr.mono (by omega)) (by rfl) T.g_law_draw T.F_law_draw.kp T.b_law_draw .nil pass0 (pa_cons (pv 0) (pa_cons pe_int pa_nil)))))
    pss_nil)
   (pss_one (ps_ret (pe_callB (dMin2 rfl) (by rfl) T.n_min (by decide +kernel) (pa_cons pe_int (pa_cons (pe_callB (dMax2 rfl) (by rfl) T.n_max (by decide +kernel) (pa_cons pe_int (pa_cons (pe_op (dAdd K) (pe_op dSub (pe_callB dAbs (by rfl) T.n_abs (by decide +kernel) (pa_cons (pv 1) pa_nil)) pe_int) (pe_call (ok_law_draw T) (hr.mono (by omega)) (by rfl) T.g_law_draw T.F_law_draw.kp T.b_law_draw .nil pass0 (pa_cons (pv 0) (pa_cons pe_int pa_nil)))) pa_nil))) pa_nil)))))), ?_⟩
    walk_at "rd"
    refine ⟨b, c, cs, 2, rfl, by decide, by decide, B, fun H1 r f1 B1 r0 r1 => ?_⟩
    walk_at "rd"
    · refine ⟨b, c, cs, 100, rfl, by decide, by decide, B1, fun H2 r f2 B2 r0 r1 => ?_⟩
      walk_at "rd"
      exact q _ _ (f1.trans f2) B2 r0 (by omega)
    · refine ⟨b, c, cs, 3, rfl, by decide, by decide, B1, fun H2 r f2 B2 r0 r1 => ?_⟩
      walk_at "rd"
      refine q _ _ (f1.trans f2) B2 ?_ ?_
      · split <;> split <;> omega
      · split <;> omega
end
def over (p : List Int × Int) : Bool := decide (p.1.getD 3 0 < (if p.2 < 0 then -p.2 else p.2))
def balM (n : Nat) (bs ps : List (List Int)) (pf bf : List Int) : Bool := !((ps.zip pf).any over) && !(bf.any fun f => decide (f < 0)) && decide (netL n ps pf = netL n bs bf)
def spBal : Sp := fun vs H Q _ => ∃ (v : V) (n : Nat) (bs ps : List (List Int)) (u tp tb : Addr) (pf bf : List Int), vs = [v, .ref u] ∧ SysAt H v n bs ps ∧ OkB n bs ∧ OkP n ps ∧ n ≤ 1000 ∧ bs.length ≤ 4000 ∧ ps.length ≤ 4000 ∧ H u = some (.tup [.ref tp, .ref tb]) ∧ H tp = some (.tup (pf.map V.int)) ∧ H tb = some (.tup (bf.map V.int)) ∧ pf.length = ps.length ∧ bf.length = bs.length ∧
  ∀ H', Same H H' → Q (.bl (balM n bs ps pf bf)) H'
section
variable {P : Program} {w : World} {K : PySem.W.Frag} {mg : Str → Option Value} {base : Heap}
theorem ok_is_balanced (T : Txt K mg) : FnOk P w K mg base CX0 2 T.f_is_balanced T.fd_is_balanced ["system", "forces"] spBal := by
  refine T.F_is_balanced.ok sc_is_balanced (fun vs H Q E h => ?_) (fun cdv A outer s H vs Q E hr h => ?_)
  · obtain ⟨v, n, bs, ps, u, tp, tb, pf, bf, rfl, _⟩ := h
    rfl
  · obtain ⟨v, n, bs, ps, u, tp, tb, pf, bf, rfl, ⟨a, p, q', vb, vp, rfl, ea, ep, rb, eq, rp⟩, okb, okp, hn, lb, lp, eu, etp, etb, lpf, lbf, q⟩ := h
    have lvb := Paired.len rb
    have lvp := Paired.len rp
    refine ⟨_, (pss_cons (ps_asg (pv 0) (dpg_tup K (n := 3) (by rfl) (pgs_cons (pg_name (i := 2) sc_is_balanced.nd rfl (by first | exact Or.inl rfl | exact Or.inr rfl)) (pgs_cons (pg_name (i := 3) sc_is_balanced.nd rfl (by first | exact Or.inl rfl | exact Or.inr rfl)) (pgs_cons (pg_name (i := 4) sc_is_balanced.nd rfl (by first | exact Or.inl rfl | exact Or.inr rfl)) pgs_nil)))))
   (pss_cons (ps_asg (pv 1) (dpg_tup K (n := 2) (by rfl) (pgs_cons (pg_name (i := 5) sc_is_balanced.nd rfl (by first | exact Or.inl rfl | exact Or.inr rfl)) (pgs_cons (pg_name (i := 6) sc_is_balanced.nd rfl (by first | exact Or.inl rfl | exact Or.inr rfl)) pgs_nil))))
   (pss_cons (ps_if (pt_val (pe_callB (dAny K rfl) (by rfl) T.n_any (by decide +kernel) (pa_cons (pe_lc (own := [("pull", 7), ("force", 8)]) (g := gTup K 2 (gCons (gName 7) (gCons (gName 8) (gNil)))) (tt := tYes) rfl sc_is_balanced.nd  (dpi_zipA K (by rfl) T.n_zip (pa_cons (pv 4) (pa_cons (pv 5) pa_nil))) (blkOk_by (own := [("pull", 7), ("force", 8)]) (N := ["system", "forces", "count", "bounds", "pulls", "pull_forces", "bound_forces", "pull", "force"]) (sc := defScope s_is_balanced) (by decide +kernel)) (fun _ _ _ _ _ => (dpg_tup K (n := 2) (by rfl) (pgs_cons (pg_name (i := 7) sc_is_balanced.nd rfl (by first | exact Or.inl rfl | exact Or.inr rfl)) (pgs_cons (pg_name (i := 8) sc_is_balanced.nd rfl (by first | exact Or.inl rfl | exact Or.inr rfl)) pgs_nil)))) (fun _ _ _ _ _ => pts_nil) (fun _ _ _ _ _ => (pe_cmpR dGt (pe_callB dAbs (by rfl) T.n_abs (by decide +kernel) (pa_cons (pv 8) pa_nil)) (pe_ix (dIx K) (pv 7) pe_int (fun _ _ => rfl)) (nomark _)))) pa_nil)))
    (pss_one (ps_ret pe_bl))
    pss_nil)
   (pss_cons (ps_if (pt_val (pe_callB (dAny K rfl) (by rfl) T.n_any (by decide +kernel) (pa_cons (pe_lc (own := [("force", 8)]) (g := gName 8) (tt := tYes) rfl sc_is_balanced.nd  (dpi_tup K (pv 6)) (blkOk_by (own := [("force", 8)]) (N := ["system", "forces", "count", "bounds", "pulls", "pull_forces", "bound_forces", "pull", "force"]) (sc := defScope s_is_balanced) (by decide +kernel)) (fun _ _ _ _ _ => (pg_name (i := 8) sc_is_balanced.nd rfl (by first | exact Or.inl rfl | exact Or.inr rfl))) (fun _ _ _ _ _ => pts_nil) (fun _ _ _ _ _ => (pe_cmpR dLt (pv 8) pe_int (nomark _)))) pa_nil)))
    (pss_one (ps_ret pe_bl))
    pss_nil)
   (pss_one (ps_ret (pe_cmpR (dEqD K hr.units) (pe_call (ok_net_forces T) (hr.mono (by omega)) (by rfl) T.g_net_forces T.F_net_forces.kp T.b_net_forces .nil pass0 (pa_cons (pv 2) (pa_cons (pv 4) (pa_cons (pv 5) pa_nil)))) (pe_call (ok_net_forces T) (hr.mono (by omega)) (by rfl) T.g_net_forces T.F_net_forces.kp T.b_net_forces .nil pass0 (pa_cons (pv 2) (pa_cons (pv 3) (pa_cons (pv 6) pa_nil)))) (nomark _)))))))), ?_⟩
    walk_at "rd"
    refine lc_zipR (a := q') (b := tp) (xs := vp) (rs := ps) (fs := pf) (fun r v => .bl (over (r, v))) (fun Qe h => ?_) eq rp etp lpf (by omega) ?_ ?_
    · walk_at "rd"; exact h
    · rintro x r v T' H' Nx E hr s1 ⟨xa, rfl, ex⟩ eT hN
      obtain ⟨s, e, g, w, rfl, _, _, _, _, _, g0, g1, _⟩ := okp r hr
      replace ex : H' xa = some (.tup [.int s, .int e, .int g, .int w]) := ex
      walk_at "rd"
      exact hN _ fun _ _ e => e
    · intro D H1 hD s1 e1
      rw [show (ps.zip pf).map (fun p => V.bl (over (p.1, p.2))) = ((ps.zip pf).map over).map V.bl by rw [List.map_map]; rfl] at e1
      walk_at "rd"
      refine ⟨D, _, rfl, SqL.of e1, ?_⟩
      rw [List.any_map, show (id ∘ over) = over from rfl]
      walk_at "rd"
      · rename_i h1
        have z := q H1 s1
        rw [show balM n bs ps pf bf = false by unfold balM; rw [h1]; rfl] at z
        exact z
      · rename_i h1
        have etb1 := s1 _ _ etb
        refine lc_tmap (a := tb) (xs := bf.map V.int) (fun x => match x with | .int f => .bl (decide (f < 0)) | _ => x) (fun Qe h => ?_) (SqT.of etb1) (by rw [List.length_map]; omega) (fun _ => rfl) ?_ ?_
        · walk_at "rd"; exact h
        · intro i x H' hx s2 Qe hq
          obtain ⟨m, rfl⟩ : ∃ m, x = V.int m := by
            obtain ⟨m, _, e⟩ := List.mem_map.mp (List.mem_of_getElem? hx)
            exact ⟨m, e.symm⟩
          walk_at "rd"
          exact hq _ fun _ _ e => e
        · intro D2 H2 hD2 s2 e2
          rw [show (bf.map V.int).map (fun x => match x with | .int f => .bl (decide (f < 0)) | _ => x) = (bf.map fun f => decide (f < 0)).map V.bl by rw [List.map_map, List.map_map]; rfl] at e2
          have s12 := s1.trans s2
          walk_at "rd"
          refine ⟨D2, _, rfl, SqL.of e2, ?_⟩
          rw [List.any_map, show (id ∘ fun f : Int => decide (f < 0)) = fun f => decide (f < 0) from rfl]
          walk_at "rd"
          · rename_i h2
            have z := q H2 s12
            rw [show balM n bs ps pf bf = false by unfold balM; rw [h2]; cases (ps.zip pf).any over <;> rfl] at z
            exact z
          · rename_i h2
            refine ⟨n, q', tp, vp, ps, pf, rfl, hn, s12 _ _ eq, Paired.mapP rp fun _ _ h => h.same s12, fun r hr => ?_, s12 _ _ etp, lpf, fun H3 l3 s3 h3 e3 => ?_⟩
            · obtain ⟨s, e, g, w, rfl, s0, s1', e0, e1', _⟩ := okp r hr
              exact ⟨s, e, g, [w], rfl, s0, s1', e0, e1'⟩
            · have s13 := s12.trans s3
              walk_at "rd"
              refine ⟨n, p, tb, vb, bs, bf, rfl, hn, s13 _ _ ep, Paired.mapP rb fun _ _ h => h.same s13, fun r hr => ?_, s13 _ _ etb, lbf, fun H4 l4 s4 h4 e4 => ?_⟩
              · obtain ⟨s, e, g, rfl, s0, s1', e0, e1', _⟩ := okb r hr
                exact ⟨s, e, g, [], rfl, s0, s1', e0, e1'⟩
              · refine rv_eqLI (SqL.of (s4 _ _ e3)) (SqL.of e4) ?_
                have z := q H4 (s13.trans s4)
                rw [show balM n bs ps pf bf = decide (netL n ps pf = netL n bs bf) by unfold balM; rw [h1, h2]; rfl] at z
                exact z
end
def spSumAt : Sp := fun vs H Q _ => ∃ (t l : Addr) (vt : List V) (rs : List (List Int)) (fs : List Int) (x : Int), vs = [.ref t, .ref l, .int x] ∧ H t = some (.tup vt) ∧ RowsAt H vt rs ∧ (∀ r ∈ rs, ∃ s e g : Int, ∃ l, r = s :: e :: g :: l) ∧ H l = some (.lst (fs.map V.int)) ∧ fs.length = rs.length ∧ rs.length ≤ 4000 ∧ Q (.int (netAt rs fs x)) H
section
variable {P : Program} {w : World} {K : PySem.W.Frag} {mg : Str → Option Value} {base : Heap}
theorem ok_law_sum_at (T : Txt K mg) : FnOk P w K mg base CX0 1 T.f_law_sum_at T.fd_law_sum_at ["rows", "loads", "x"] spSumAt := by
  refine T.F_law_sum_at.ok sc_law_sum_at (fun vs H Q E h => ?_) (fun cdv A outer s H vs Q E hr h => ?_)
  · obtain ⟨t, l, vt, rs, fs, x, rfl, _⟩ := h
    rfl
  · obtain ⟨t, l, vt, rs, fs, x, rfl, et, rt, ok, el, hl, hz, q⟩ := h
    have lvt := Paired.len rt
    refine ⟨_, (pss_cons (ps_set (i := 3) sc_law_sum_at.nd rfl (by first | exact Or.inl rfl | exact Or.inr rfl) pe_int)
   (pss_cons (ps_for PassesOwn.never rfl (pi_range1 rfl T.n_range (pa_cons (pe_callB (dLen K) (by rfl) T.n_len (by decide +kernel) (pa_cons (pv 0) pa_nil)) pa_nil)) (pg_name (i := 4) sc_law_sum_at.nd rfl (by first | exact Or.inl rfl | exact Or.inr rfl))
    (pss_cons (ps_if (pt_cmpR dEq (pe_ix (dIx K) (pe_ix (dIx K) (pv 0) (pv 4) (fun _ _ => rfl)) pe_int (fun _ _ => rfl)) (pv 2) (nomark _))
     (pss_one (ps_set (i := 3) sc_law_sum_at.nd rfl (by first | exact Or.inl rfl | exact Or.inr rfl) (pe_op (dAdd K) (pv 3) (pe_ix (dIx K) (pv 1) (pv 4) (fun _ _ => rfl)))))
     pss_nil)
    (pss_one (ps_if (pt_cmpR dEq (pe_ix (dIx K) (pe_ix (dIx K) (pv 0) (pv 4) (fun _ _ => rfl)) pe_int (fun _ _ => rfl)) (pv 2) (nomark _))
     (pss_one (ps_set (i := 3) sc_law_sum_at.nd rfl (by first | exact Or.inl rfl | exact Or.inr rfl) (pe_op dSub (pv 3) (pe_ix (dIx K) (pv 1) (pv 4) (fun _ _ => rfl)))))
     pss_nil))))
   (pss_one (ps_ret (pv 3))))), ?_⟩
    walk_at "rd"
    refine ⟨_, rfl, by omega, by omega, ?_⟩
    refine for_range (lo := 0) (n := vt.length) (fun i σ H' => ∃ (x4 : Option V), σ = [some (.ref t), some (.ref l), some (.int x), some (.int (netAt (rs.take i) (fs.take i) x)), x4] ∧ H' = H) ⟨none, by rw [List.take_zero, List.take_zero]; rfl, rfl⟩ ?_ ?_
    · rintro i σ H' hi ⟨x4, rfl, rfl⟩
      rw [show (0 : Int) + (i : Int) = i by omega]
      have hx : vt[i]? = some vt[i] := List.getElem?_eq_getElem hi
      obtain ⟨r, er, xa, exa, ex⟩ := Paired.get1 rt hx
      obtain ⟨s, e, g, r', rfl⟩ := ok r (List.mem_of_getElem? er)
      have ev : fs[i]? = some (fs[i]'(by omega)) := List.getElem?_eq_getElem (by omega)
      generalize fs[i]'(by omega) = v at ev
      have a1 : atI vt (i : Int) = some (.ref xa) := atI_nat (by rw [hx, exa])
      have a2 : atI (fs.map V.int) (i : Int) = some (.int v) := atI_nat (by rw [List.getElem?_map, ev]; rfl)
      have ex1 : H' xa = some (.tup (V.int s :: V.int e :: V.int g :: r'.map V.int)) := ex
      have hi1 : (rs.take i).length = (fs.take i).length := by rw [List.length_take, List.length_take]; omega
      have st := netAt_snoc (rs.take i) (fs.take i) (s :: e :: g :: r') v x hi1
      have tk : netAt (rs.take (i + 1)) (fs.take (i + 1)) x = netAt (rs.take i) (fs.take i) x + ((if e = x then v else 0) - (if s = x then v else 0)) := by
        rw [List.take_add_one, List.take_add_one, er, ev]
        exact st
      walk_at "rd"
      · rename_i h1 h2
        rw [if_pos h1, if_pos h2] at tk
        exact ⟨_, by rw [tk, show netAt (rs.take i) (fs.take i) x + (v - v) = netAt (rs.take i) (fs.take i) x + v - v by omega]; rfl, rfl⟩
      · rename_i h1 h2
        rw [if_pos h1, if_neg h2] at tk
        exact ⟨_, by rw [tk, show netAt (rs.take i) (fs.take i) x + (v - 0) = netAt (rs.take i) (fs.take i) x + v by omega]; rfl, rfl⟩
      · rename_i h1 h2
        rw [if_neg h1, if_pos h2] at tk
        exact ⟨_, by rw [tk, show netAt (rs.take i) (fs.take i) x + (0 - v) = netAt (rs.take i) (fs.take i) x - v by omega]; rfl, rfl⟩
      · rename_i h1 h2
        rw [if_neg h1, if_neg h2] at tk
        exact ⟨_, by rw [tk, show netAt (rs.take i) (fs.take i) x + (0 - 0) = netAt (rs.take i) (fs.take i) x by omega]; rfl, rfl⟩
    · rintro σ H' ⟨x4, rfl, rfl⟩
      rw [List.take_of_length_le (by omega), List.take_of_length_le (by omega)]
      walk_at "rd"
      exact q
end
def spDueWorth : Sp := fun vs H Q _ => ∃ (v : V) (n : Nat) (bs ps : List (List Int)) (u tp tb : Addr) (pf bf : List Int), vs = [v, .ref u] ∧ SysAt H v n bs ps ∧ OkB n bs ∧ OkP n ps ∧ bs.length ≤ 4000 ∧ ps.length ≤ 4000 ∧ H u = some (.lst [.ref tp, .ref tb]) ∧ H tp = some (.lst (pf.map V.int)) ∧ H tb = some (.lst (bf.map V.int)) ∧ pf.length = ps.length ∧ bf.length = bs.length ∧
  ∀ H', Same H H' → Q (.int (wsum bs bf - wsum ps pf)) H'
section
variable {P : Program} {w : World} {K : PySem.W.Frag} {mg : Str → Option Value} {base : Heap}
theorem ok_law_due_worth (T : Txt K mg) : FnOk P w K mg base CX0 1 T.f_law_due_worth T.fd_law_due_worth ["system", "loads"] spDueWorth := by
  refine T.F_law_due_worth.ok sc_law_due_worth (fun vs H Q E h => ?_) (fun cdv A outer s H vs Q E hr h => ?_)
  · obtain ⟨v, n, bs, ps, u, tp, tb, pf, bf, rfl, _⟩ := h
    rfl
  · obtain ⟨v, n, bs, ps, u, tp, tb, pf, bf, rfl, ⟨a, p, q', vb, vp, rfl, ea, ep, rb, eq, rp⟩, okb, okp, lb, lp, eu, etp, etb, lpf, lbf, q⟩ := h
    have lvb := Paired.len rb
    have lvp := Paired.len rp
    refine ⟨_, (pss_cons (ps_setLc (i := 2) (own := [("k", 3)]) (g := gName 3) (tt := tYes) rfl sc_law_due_worth.nd rfl rfl (sw_true rfl rfl rfl (by decide +kernel)) (pi_range1 rfl T.n_range (pa_cons (pe_callB (dLen K) (by rfl) T.n_len (by decide +kernel) (pa_cons (pe_ix (dIx K) (pv 0) pe_int (fun _ _ => rfl)) pa_nil)) pa_nil)) (blkOk_by (own := [("k", 3)]) (N := ["system", "loads", "gains", "k", "losses"]) (sc := defScope s_law_due_worth) (by decide +kernel)) (fun _ _ _ _ _ => (pg_name (i := 3) sc_law_due_worth.nd rfl (by first | exact Or.inl rfl | exact Or.inr rfl))) (fun _ _ _ _ _ => pts_nil) (fun _ _ _ _ _ => (pe_op dMul (pe_ix (dIx K) (pe_ix (dIx K) (pv 1) pe_int (fun _ _ => rfl)) (pv 3) (fun _ _ => rfl)) (pe_ix (dIx K) (pe_ix (dIx K) (pe_ix (dIx K) (pv 0) pe_int (fun _ _ => rfl)) (pv 3) (fun _ _ => rfl)) pe_int (fun _ _ => rfl)))))
   (pss_cons (ps_setLc (i := 4) (own := [("k", 3)]) (g := gName 3) (tt := tYes) rfl sc_law_due_worth.nd rfl rfl (sw_true rfl rfl rfl (by decide +kernel)) (pi_range1 rfl T.n_range (pa_cons (pe_callB (dLen K) (by rfl) T.n_len (by decide +kernel) (pa_cons (pe_ix (dIx K) (pv 0) pe_int (fun _ _ => rfl)) pa_nil)) pa_nil)) (blkOk_by (own := [("k", 3)]) (N := ["system", "loads", "gains", "k", "losses"]) (sc := defScope s_law_due_worth) (by decide +kernel)) (fun _ _ _ _ _ => (pg_name (i := 3) sc_law_due_worth.nd rfl (by first | exact Or.inl rfl | exact Or.inr rfl))) (fun _ _ _ _ _ => pts_nil) (fun _ _ _ _ _ => (pe_op dMul (pe_ix (dIx K) (pe_ix (dIx K) (pv 1) pe_int (fun _ _ => rfl)) (pv 3) (fun _ _ => rfl)) (pe_ix (dIx K) (pe_ix (dIx K) (pe_ix (dIx K) (pv 0) pe_int (fun _ _ => rfl)) (pv 3) (fun _ _ => rfl)) pe_int (fun _ _ => rfl)))))
   (pss_one (ps_ret (pe_op dSub (pe_callB (dSum K rfl) (by rfl) T.n_sum (by decide +kernel) (pa_cons (pv 2) pa_nil)) (pe_callB (dSum K rfl) (by rfl) T.n_sum (by decide +kernel) (pa_cons (pv 4) pa_nil))))))), ?_⟩
    walk_at "rd"
    refine lc_rmap (n := vb.length) (fun k => V.int (bf.getD k 0 * (bs.getD k []).getD 2 0)) (by omega) (fun Qe h => ?_) (fun x => rfl) ?_ ?_
    · walk_at "rd"; exact h
    · rintro i H' hi s1 Qe hN
      have hx : vb[i]? = some vb[i] := List.getElem?_eq_getElem hi
      obtain ⟨r, er, xa, exa, ex⟩ := Paired.get1 rb hx
      obtain ⟨s, e, g, rfl, _, _, _, _, _, g0, g1⟩ := okb r (List.mem_of_getElem? er)
      have ev : bf[i]? = some (bf[i]'(by omega)) := List.getElem?_eq_getElem (by omega)
      have a1 : atI vb (i : Int) = some (.ref xa) := atI_nat (by rw [hx, exa])
      have a2 : atI (bf.map V.int) (i : Int) = some (.int (bf[i]'(by omega))) := atI_nat (by rw [List.getElem?_map, ev]; rfl)
      have ea1 := s1 _ _ ea
      have ep1 := s1 _ _ ep
      have eu1 := s1 _ _ eu
      have etb1 := s1 _ _ etb
      have ex1 : H' xa = some (.tup [.int s, .int e, .int g]) := s1 _ _ ex
      rw [show bf.getD i 0 = bf[i]'(by omega) by rw [List.getD_eq_getElem?_getD, ev]; rfl, show (bs.getD i []) = [s, e, g] by rw [List.getD_eq_getElem?_getD, er]; rfl] at hN
      walk_at "rd"
      exact hN _ fun _ _ e => e
    · intro D H1 hD s1 e1
      rw [lvb, show (List.range bs.length).map (fun k => V.int (bf.getD k 0 * (bs.getD k []).getD 2 0)) = ((List.range bs.length).map fun k => bf.getD k 0 * (bs.getD k []).getD 2 0).map V.int by rw [List.map_map]; rfl, zip_range bs bf lbf] at e1
      have ea1 := s1 _ _ ea
      have eq1 := s1 _ _ eq
      have eu1 := s1 _ _ eu
      have etp1 := s1 _ _ etp
      walk_at "rd"
      refine lc_rmap (n := vp.length) (fun k => V.int (pf.getD k 0 * (ps.getD k []).getD 2 0)) (by omega) (fun Qe h => ?_) (fun x => rfl) ?_ ?_
      · walk_at "rd"; exact h
      · rintro i H' hi s2 Qe hN
        have hx : vp[i]? = some vp[i] := List.getElem?_eq_getElem hi
        obtain ⟨r, er, xa, exa, ex⟩ := Paired.get1 rp hx
        obtain ⟨s, e, g, w, rfl, _, _, _, _, _, g0, g1, _⟩ := okp r (List.mem_of_getElem? er)
        have ev : pf[i]? = some (pf[i]'(by omega)) := List.getElem?_eq_getElem (by omega)
        have a1 : atI vp (i : Int) = some (.ref xa) := atI_nat (by rw [hx, exa])
        have a2 : atI (pf.map V.int) (i : Int) = some (.int (pf[i]'(by omega))) := atI_nat (by rw [List.getElem?_map, ev]; rfl)
        have ea2 := s2 _ _ ea1
        have eq2 := s2 _ _ eq1
        have eu2 := s2 _ _ eu1
        have etp2 := s2 _ _ etp1
        have ex2 : H' xa = some (.tup [.int s, .int e, .int g, .int w]) := s2 _ _ (s1 _ _ ex)
        rw [show pf.getD i 0 = pf[i]'(by omega) by rw [List.getD_eq_getElem?_getD, ev]; rfl, show (ps.getD i []) = [s, e, g, w] by rw [List.getD_eq_getElem?_getD, er]; rfl] at hN
        walk_at "rd"
        exact hN _ fun _ _ e => e
      · intro D2 H2 hD2 s2 e2
        rw [lvp, show (List.range ps.length).map (fun k => V.int (pf.getD k 0 * (ps.getD k []).getD 2 0)) = ((List.range ps.length).map fun k => pf.getD k 0 * (ps.getD k []).getD 2 0).map V.int by rw [List.map_map]; rfl, zip_range ps pf lpf] at e2
        have e1' := s2 _ _ e1
        walk_at "rd"
        refine ⟨D, _, rfl, SqL.of e1', ?_⟩
        walk_at "rd"
        refine ⟨D2, _, rfl, SqL.of e2, ?_⟩
        walk_at "rd"
        exact q H2 (s1.trans s2)
end
def spEven : Sp := fun vs H Q _ => ∃ (v : V) (n : Nat) (bs ps : List (List Int)) (u tp tb : Addr) (pf bf : List Int), vs = [v, .ref u] ∧ SysAt H v n bs ps ∧ OkB n bs ∧ OkP n ps ∧ n ≤ 1000 ∧ bs.length ≤ 4000 ∧ ps.length ≤ 4000 ∧ H u = some (.lst [.ref tp, .ref tb]) ∧ H tp = some (.lst (pf.map V.int)) ∧ H tb = some (.lst (bf.map V.int)) ∧ pf.length = ps.length ∧ bf.length = bs.length ∧
  ∀ b, (b = true ↔ (∀ k, (h : k < ps.length) → (h2 : k < pf.length) → over (ps[k], pf[k]) = false) ∧ (∀ f ∈ bf, 0 ≤ f) ∧ (∀ x : Nat, x < n → netAt ps pf x = netAt bs bf x)) → Q (.bl b) H
section
variable {P : Program} {w : World} {K : PySem.W.Frag} {mg : Str → Option Value} {base : Heap}
theorem ok_law_even (T : Txt K mg) : FnOk P w K mg base CX0 2 T.f_law_even T.fd_law_even ["system", "loads"] spEven := by
  refine T.F_law_even.ok sc_law_even (fun vs H Q E h => ?_) (fun cdv A outer s H vs Q E hr h => ?_)
  · obtain ⟨v, n, bs, ps, u, tp, tb, pf, bf, rfl, _⟩ := h
    rfl
  · obtain ⟨v, n, bs, ps, u, tp, tb, pf, bf, rfl, ⟨a, p, q', vb, vp, rfl, ea, ep, rb, eq, rp⟩, okb, okp, hn, lb, lp, eu, etp, etb, lpf, lbf, q⟩ := h
    have lvb := Paired.len rb
    have lvp := Paired.len rp
    refine ⟨_, (pss_cons (ps_for PassesOwn.never rfl (pi_range1 rfl T.n_range (pa_cons (pe_callB (dLen K) (by rfl) T.n_len (by decide +kernel) (pa_cons (pe_ix (dIx K) (pv 0) pe_int (fun _ _ => rfl)) pa_nil)) pa_nil)) (pg_name (i := 2) sc_law_even.nd rfl (by first | exact Or.inl rfl | exact Or.inr rfl))
    (pss_one (ps_if (pt_cmpR dGt (pe_callB (dMax2 rfl) (by rfl) T.n_max (by decide +kernel) (pa_cons (pe_ix (dIx K) (pe_ix (dIx K) (pv 1) pe_int (fun _ _ => rfl)) (pv 2) (fun _ _ => rfl)) (pa_cons (pe_op dSub pe_int (pe_ix (dIx K) (pe_ix (dIx K) (pv 1) pe_int (fun _ _ => rfl)) (pv 2) (fun _ _ => rfl))) pa_nil))) (pe_ix (dIx K) (pe_ix (dIx K) (pe_ix (dIx K) (pv 0) pe_int (fun _ _ => rfl)) (pv 2) (fun _ _ => rfl)) pe_int (fun _ _ => rfl)) (nomark _))
     (pss_one (ps_ret pe_bl))
     pss_nil)))
   (pss_cons (ps_for PassesOwn.never rfl (dpi_list K (pe_ix (dIx K) (pv 1) pe_int (fun _ _ => rfl))) (pg_name (i := 3) sc_law_even.nd rfl (by first | exact Or.inl rfl | exact Or.inr rfl))
    (pss_one (ps_if (pt_cmpR dLt (pv 3) pe_int (nomark _))
     (pss_one (ps_ret pe_bl))
     pss_nil)))
   (pss_cons (ps_for PassesOwn.never rfl (pi_range1 rfl T.n_range (pa_cons (pe_ix (dIx K) (pv 0) pe_int (fun _ _ => rfl)) pa_nil)) (pg_name (i := 4) sc_law_even.nd rfl (by first | exact Or.inl rfl | exact Or.inr rfl))
    (pss_one (ps_if (pt_cmpR dNe (pe_call (ok_law_sum_at T) (hr.mono (by omega)) (by rfl) T.g_law_sum_at T.F_law_sum_at.kp T.b_law_sum_at .nil pass0 (pa_cons (pe_ix (dIx K) (pv 0) pe_int (fun _ _ => rfl)) (pa_cons (pe_ix (dIx K) (pv 1) pe_int (fun _ _ => rfl)) (pa_cons (pv 4) pa_nil)))) (pe_call (ok_law_sum_at T) (hr.mono (by omega)) (by rfl) T.g_law_sum_at T.F_law_sum_at.kp T.b_law_sum_at .nil pass0 (pa_cons (pe_ix (dIx K) (pv 0) pe_int (fun _ _ => rfl)) (pa_cons (pe_ix (dIx K) (pv 1) pe_int (fun _ _ => rfl)) (pa_cons (pv 4) pa_nil)))) (nomark _))
     (pss_one (ps_ret pe_bl))
     pss_nil)))
   (pss_one (ps_ret pe_bl))))), ?_⟩
    walk_at "rd"
    refine ⟨_, rfl, by omega, by omega, ?_⟩
    refine for_range (lo := 0) (n := vp.length) (fun i σ H' => ∃ (x3 x4 x5 : Option V), σ = [some (.ref a), some (.ref u), x3, x4, x5] ∧ H' = H ∧ ∀ k, k < i → (h : k < ps.length) → (h2 : k < pf.length) → over (ps[k], pf[k]) = false) ⟨none, none, none, rfl, rfl, fun k hk => absurd hk (by omega)⟩ ?_ ?_
    · rintro i σ H' hi ⟨x3, x4, x5, rfl, rfl, ih⟩
      rw [show (0 : Int) + (i : Int) = i by omega]
      have hx : vp[i]? = some vp[i] := List.getElem?_eq_getElem hi
      obtain ⟨r, er, xa, exa, ex⟩ := Paired.get1 rp hx
      obtain ⟨s, e, g, w, rfl, _, _, _, _, _, g0, g1, _⟩ := okp r (List.mem_of_getElem? er)
      have ev : pf[i]? = some (pf[i]'(by omega)) := List.getElem?_eq_getElem (by omega)
      have a1 : atI vp (i : Int) = some (.ref xa) := atI_nat (by rw [hx, exa])
      have a2 : atI (pf.map V.int) (i : Int) = some (.int (pf[i]'(by omega))) := atI_nat (by rw [List.getElem?_map, ev]; rfl)
      have ex1 : H' xa = some (.tup [.int s, .int e, .int g, .int w]) := ex
      walk_at "rd"
      · rename_i h1
        refine q false ⟨fun h => (Bool.false_ne_true h).elim, fun h => ?_⟩
        exfalso
        have hk := h.1 i (by omega) (by omega)
        have er' : ps[i]'(by omega) = [s, e, g, w] := by
          rw [List.getElem?_eq_getElem (by omega)] at er
          exact Option.some.inj er
        rw [er'] at hk
        have hk' : ¬ (w < if pf[i]'(by omega) < 0 then -(pf[i]'(by omega)) else pf[i]'(by omega)) := of_decide_eq_false hk
        apply hk'
        split at h1 <;> split <;> omega
      · rename_i h1
        refine ⟨_, _, _, rfl, rfl, fun k hk h h2 => ?_⟩
        by_cases hki : k = i
        · subst hki
          have er' : ps[k] = [s, e, g, w] := by
            rw [List.getElem?_eq_getElem (by omega)] at er
            exact Option.some.inj er
          rw [er']
          refine decide_eq_false (show ¬ (w < if pf[k] < 0 then -pf[k] else pf[k]) from fun hh => h1 ?_)
          split at hh <;> split <;> omega
        · exact ih k (by omega) h h2
    · rintro σ H' ⟨x3, x4, x5, rfl, rfl, ih⟩
      walk_at "rd"
      refine for_list (K := K) (a := tb) (xs := bf.map V.int) (fun i σ H1 => ∃ (x3 x4 x5 : Option V), σ = [some (.ref a), some (.ref u), x3, x4, x5] ∧ H1 = H' ∧ ∀ f ∈ bf.take i, 0 ≤ f) ⟨_, _, _, rfl, rfl, fun f hf => by rw [List.take_zero] at hf; cases hf⟩ (fun i σ H1 _ h => by obtain ⟨_, _, _, _, rfl, _⟩ := h; exact SqL.of etb) ?_ ?_
      · rintro i x σ H1 hx ⟨x3, x4, x5, rfl, rfl, ih2⟩
        rw [List.getElem?_map] at hx
        obtain ⟨f, ef, rfl⟩ := Option.map_eq_some_iff.mp hx
        walk_at "rd"
        · rename_i h1
          refine q false ⟨fun h => (Bool.false_ne_true h).elim, fun h => ?_⟩
          have := h.2.1 f (List.mem_of_getElem? ef)
          omega
        · rename_i h1
          refine ⟨_, _, _, rfl, rfl, fun f' hf => ?_⟩
          rw [List.take_add_one, ef] at hf
          rcases List.mem_append.mp hf with hf | hf
          · exact ih2 f' hf
          · have : f' = f := by simpa using hf
            omega
      · rintro σ H1 ⟨x3, x4, x5, rfl, rfl, ih2⟩
        rw [List.take_of_length_le (by rw [List.length_map]; omega)] at ih2
        walk_at "rd"
        refine ⟨_, rfl, by omega, by omega, ?_⟩
        refine for_range (lo := 0) (n := n) (fun i σ H2 => ∃ (x3 x4 x5 : Option V), σ = [some (.ref a), some (.ref u), x3, x4, x5] ∧ H2 = H1 ∧ ∀ x : Nat, x < i → netAt ps pf x = netAt bs bf x) ⟨_, _, _, rfl, rfl, fun k hk => absurd hk (by omega)⟩ ?_ ?_
        · rintro i σ H2 hi ⟨x3, x4, x5, rfl, rfl, ih3⟩
          rw [show (0 : Int) + (i : Int) = i by omega]
          walk_at "rd"
          refine ⟨q', tp, vp, ps, pf, i, rfl, eq, rp, fun r hr => ?_, etp, lpf, by omega, ?_⟩
          · obtain ⟨s, e, g, w, rfl, _⟩ := okp r hr
            exact ⟨s, e, g, [w], rfl⟩
          · walk_at "rd"
            refine ⟨p, tb, vb, bs, bf, i, rfl, ep, rb, fun r hr => ?_, etb, lbf, by omega, ?_⟩
            · obtain ⟨s, e, g, rfl, _⟩ := okb r hr
              exact ⟨s, e, g, [], rfl⟩
            · walk_at "rd"
              · rename_i h1
                refine q false ⟨fun h => (Bool.false_ne_true h).elim, fun h => (h1 (h.2.2 i hi)).elim⟩
              · rename_i h1
                refine ⟨_, _, _, rfl, rfl, fun k hk => ?_⟩
                by_cases hki : k = i
                · rw [hki]; exact h1
                · exact ih3 k (by omega)
        · rintro σ H2 ⟨x3, x4, x5, rfl, rfl, ih3⟩
          walk_at "rd"
          refine q true ⟨fun _ => ⟨fun k h h2 => ih k (by omega) h h2, ih2, ih3⟩, fun _ => rfl⟩
end
/-- what is_balanced answers and what _law_even asks are the same -/
theorem balM_iff {n : Nat} {bs ps : List (List Int)} {pf bf : List Int} (hp : pf.length = ps.length) : balM n bs ps pf bf = true ↔ (∀ k, (h : k < ps.length) → (h2 : k < pf.length) → over (ps[k], pf[k]) = false) ∧ (∀ f ∈ bf, 0 ≤ f) ∧ (∀ x : Nat, x < n → netAt ps pf x = netAt bs bf x) := by
  unfold balM
  rw [Bool.and_eq_true, Bool.and_eq_true, Bool.not_eq_true', Bool.not_eq_true', List.any_eq_false, List.any_eq_false, decide_eq_true_iff]
  constructor
  · rintro ⟨⟨h1, h2⟩, h3⟩
    refine ⟨fun k h h' => ?_, fun f hf => ?_, fun x hx => ?_⟩
    · have := h1 (ps[k], pf[k]) (List.mem_iff_getElem.mpr ⟨k, by rw [List.length_zip]; omega, List.getElem_zip⟩)
      exact Bool.eq_false_iff.mpr this
    · have := h2 f hf
      have : ¬ f < 0 := fun hh => this (decide_eq_true hh)
      omega
    · exact List.map_inj_left.mp h3 x (List.mem_range.mpr hx)
  · rintro ⟨h1, h2, h3⟩
    refine ⟨⟨fun p hp' => ?_, fun f hf hh => ?_⟩, ?_⟩
    · obtain ⟨k, hk, rfl⟩ := List.mem_iff_getElem.mp hp'
      rw [List.length_zip] at hk
      rw [List.getElem_zip]
      exact Bool.eq_false_iff.mp (h1 k (by omega) (by omega))
    · have := of_decide_eq_true hh
      have := h2 f hf
      omega
    · exact List.map_inj_left.mpr fun x hx => h3 x (List.mem_range.mp hx)
def spRing : Sp := fun vs H Q _ => ∃ (b c : Addr) (cs : List Int) (n : Nat) (lb lp : Addr) (vb vp : List V) (bs ps : List (List Int × Int)), vs = [.ref b, .int n, .ref lb, .ref lp] ∧ 2 ≤ n ∧ n ≤ 1000 ∧ BagAt b c cs H ∧ H lb = some (.lst vb) ∧ H lp = some (.lst vp) ∧ lb ≠ b ∧ lb ≠ c ∧ lp ≠ b ∧ lp ≠ c ∧ lb ≠ lp ∧ Paired (TnF H) vb bs ∧ Paired (TnF H) vp ps ∧ OkB n (bs.map Prod.fst) ∧ OkP n (ps.map Prod.fst) ∧ bs.length ≤ 100 ∧ ps.length ≤ 100 ∧
  ∀ H' vb' vp' bs' ps', OffS [b, lb, lp] H H' → BagAt b c cs H' → H' lb = some (.lst vb') → H' lp = some (.lst vp') → Paired (TnF H') vb' bs' → Paired (TnF H') vp' ps' → OkB n (bs'.map Prod.fst) → OkP n (ps'.map Prod.fst) → bs'.length ≤ bs.length + 5 → ps'.length ≤ ps.length + 5 → Q .non H'
theorem ring_ends {zs : List V} {n : Nat} (nd : zs.Nodup) (hz : ∀ z ∈ zs, ∃ x : Int, z = .int x ∧ 0 ≤ x ∧ x < n) (h2 : 2 ≤ zs.length) {i : Nat} (hi : i < zs.length) :
    ∃ s e : Int, atI zs ((i : Int) - 1) = some (.int s) ∧ atI zs (i : Int) = some (.int e) ∧ 0 ≤ s ∧ s < n ∧ 0 ≤ e ∧ e < n ∧ s ≠ e := by
  have key : ∀ j : Nat, (hj : j < zs.length) → j ≠ i → atI zs ((i : Int) - 1) = zs[j]? → ∃ s e : Int, atI zs ((i : Int) - 1) = some (.int s) ∧ atI zs (i : Int) = some (.int e) ∧ 0 ≤ s ∧ s < n ∧ 0 ≤ e ∧ e < n ∧ s ≠ e := by
    intro j hj ne ea
    obtain ⟨s, es, s0, s1⟩ := hz _ (List.getElem_mem hj)
    obtain ⟨e, ee, e0, e1⟩ := hz _ (List.getElem_mem hi)
    refine ⟨s, e, by rw [ea, List.getElem?_eq_getElem hj, es], by rw [atI_nat (List.getElem?_eq_getElem hi), ee], s0, s1, e0, e1, fun h => ne ?_⟩
    rw [h, ← ee] at es
    exact (List.getElem_inj nd).mp es
  by_cases h0 : i = 0
  · subst h0
    refine key (zs.length - 1) (by omega) (by omega) ?_
    unfold atI ixN
    rw [if_neg (by omega), if_pos (by omega), show ((((0 : Nat) : Int) - 1 + (zs.length : Int)).toNat) = zs.length - 1 by omega]
    rfl
  · refine key (i - 1) (by omega) (by omega) ?_
    rw [show ((i : Int) - 1) = ((i - 1 : Nat) : Int) by omega]
    exact (atI_nat (List.getElem?_eq_getElem (by omega))).trans (List.getElem?_eq_getElem (by omega)).symm
theorem ring_line {ys : List V} {n k : Nat} (p : ys.Perm (rgV 0 (n : Int))) (hk : k ≤ n) : (ys.take k).Nodup ∧ (∀ z ∈ ys.take k, ∃ x : Int, z = .int x ∧ 0 ≤ x ∧ x < n) ∧ (ys.take k).length = k := by
  rw [rg_ints, List.map_map] at p
  have nd : ys.Nodup := by
    refine (List.Perm.nodup_iff p).mpr ?_
    refine List.Pairwise.map _ (fun a b h e => h ?_) List.nodup_range
    have : V.int (a : Int) = V.int (b : Int) := e
    have := V.int.inj this
    omega
  refine ⟨(List.take_sublist k ys).nodup nd, fun z hz => ?_, ?_⟩
  · obtain ⟨i, hi, rfl⟩ := List.mem_map.mp (p.mem_iff.mp (List.mem_of_mem_take hz))
    have := List.mem_range.mp hi
    exact ⟨(i : Int), rfl, by omega, by omega⟩
  · rw [List.length_take, p.length_eq, List.length_map, List.length_range]; omega
theorem okb_snoc {n : Nat} {bs : List (List Int × Int)} {r : List Int} {f : Int} (h : OkB n (bs.map Prod.fst)) (s e g : Int) (hr : r = [s, e, g]) (s0 : 0 ≤ s) (s1 : s < n) (e0 : 0 ≤ e) (e1 : e < n) (ne : s ≠ e) (g0 : -1000000 ≤ g) (g1 : g ≤ 1000000) : OkB n ((bs ++ [(r, f)]).map Prod.fst) := by
  intro x hx
  rw [List.map_append] at hx
  rcases List.mem_append.mp hx with hx | hx
  · exact h x hx
  · rw [List.mem_singleton.mp hx, hr]
    exact ⟨s, e, g, rfl, s0, s1, e0, e1, ne, by omega, by omega⟩
theorem okp_snoc {n : Nat} {bs : List (List Int × Int)} {r : List Int} {f : Int} (h : OkP n (bs.map Prod.fst)) (s e g w : Int) (hr : r = [s, e, g, w]) (s0 : 0 ≤ s) (s1 : s < n) (e0 : 0 ≤ e) (e1 : e < n) (ne : s ≠ e) (g0 : -1000000 ≤ g) (g1 : g ≤ 1000000) (w0 : 0 ≤ w) (w1 : w ≤ 99) : OkP n ((bs ++ [(r, f)]).map Prod.fst) := by
  intro x hx
  rw [List.map_append] at hx
  rcases List.mem_append.mp hx with hx | hx
  · exact h x hx
  · rw [List.mem_singleton.mp hx, hr]
    exact ⟨s, e, g, w, rfl, s0, s1, e0, e1, ne, by omega, by omega, w0, w1⟩
section
variable {P : Program} {w : World} {K : PySem.W.Frag} {mg : Str → Option Value} {base : Heap}
theorem ok_law_ring_added (T : Txt K mg) : FnOk P w K mg base CX0 4 T.f_law_ring_added T.fd_law_ring_added ["bag", "count", "bound_rows", "pull_rows"] spRing := by
  refine T.F_law_ring_added.ok sc_law_ring_added (fun vs H Q E h => ?_) (fun cdv A outer s H vs Q E hr h => ?_)
  · obtain ⟨b, c, cs, n, lb, lp, vb, vp, bs, ps, rfl, _⟩ := h
    rfl
  · obtain ⟨b, c, cs, n, lb, lp, vb, vp, bs, ps, rfl, n2, n3, B, eb, ep, lbb, lbc, lpb, lpc, lbp, pb, pp, okb, okp, zb, zp, q⟩ := h
    refine ⟨_, (pss_cons (ps_set (i := 4) sc_law_ring_added.nd rfl (by first | exact Or.inl rfl | exact Or.inr rfl) (pe_slice (dSl K) (pe_call (ok_law_shuffle T) (hr.mono (by omega)) (by rfl) T.g_law_shuffle T.F_law_shuffle.kp T.b_law_shuffle .nil pass0 (pa_cons (pv 0) (pa_cons (pe_listRg rfl (by rfl) T.n_list (prg_1 (by rfl) T.n_range (pv 1))) pa_nil))) po_none (po_some (pe_op (dAdd K) pe_int (pe_call (ok_law_draw T) (hr.mono (by omega)) (by rfl) T.g_law_draw T.F_law_draw.kp T.b_law_draw .nil pass0 (pa_cons (pv 0) (pa_cons (pe_op dSub (pe_callB (dMin2 rfl) (by rfl) T.n_min (by decide +kernel) (pa_cons (pv 1) (pa_cons pe_int pa_nil))) pe_int) pa_nil)))))))
   (pss_cons (ps_set (i := 5) sc_law_ring_added.nd rfl (by first | exact Or.inl rfl | exact Or.inr rfl) (pe_call (ok_law_force T) (hr.mono (by omega)) (by rfl) T.g_law_force T.F_law_force.kp T.b_law_force .nil pass0 (pa_cons (pv 0) pa_nil)))
   (C8.pss_cut (ps_if (pt_cmpR dGt (pe_call (ok_law_draw T) (hr.mono (by omega)) (by rfl) T.g_law_draw T.F_law_draw.kp T.b_law_draw .nil pass0 (pa_cons (pv 0) (pa_cons pe_int pa_nil))) pe_int (nomark _))
    (pss_one (ps_set (i := 5) sc_law_ring_added.nd rfl (by first | exact Or.inl rfl | exact Or.inr rfl) (pe_callB dAbs (by rfl) T.n_abs (by decide +kernel) (pa_cons (pv 5) pa_nil))))
    pss_nil)
   (pss_one (ps_for PassesOwn.never rfl (pi_range1 rfl T.n_range (pa_cons (pe_callB (dLen K) (by rfl) T.n_len (by decide +kernel) (pa_cons (pv 4) pa_nil)) pa_nil)) (pg_name (i := 6) sc_law_ring_added.nd rfl (by first | exact Or.inl rfl | exact Or.inr rfl))
    (pss_cons (ps_set (i := 7) sc_law_ring_added.nd rfl (by first | exact Or.inl rfl | exact Or.inr rfl) (pe_ix (dIx K) (pv 4) (pe_op dSub (pv 6) pe_int) (fun _ _ => rfl)))
    (pss_cons (ps_set (i := 8) sc_law_ring_added.nd rfl (by first | exact Or.inl rfl | exact Or.inr rfl) (pe_ix (dIx K) (pv 4) (pv 6) (fun _ _ => rfl)))
    (pss_cons (ps_set (i := 9) sc_law_ring_added.nd rfl (by first | exact Or.inl rfl | exact Or.inr rfl) (pe_call (ok_law_gap T) (hr.mono (by omega)) (by rfl) T.g_law_gap T.F_law_gap.kp T.b_law_gap .nil pass0 (pa_cons (pv 0) pa_nil)))
    (pss_cons (ps_set (i := 10) sc_law_ring_added.nd rfl (by first | exact Or.inl rfl | exact Or.inr rfl) (pe_call (ok_law_limit T) (hr.mono (by omega)) (by rfl) T.g_law_limit T.F_law_limit.kp T.b_law_limit .nil pass0 (pa_cons (pv 0) (pa_cons (pv 5) pa_nil))))
    (pss_cons (ps_set (i := 11) sc_law_ring_added.nd rfl (by first | exact Or.inl rfl | exact Or.inr rfl) (pe_call (ok_law_draw T) (hr.mono (by omega)) (by rfl) T.g_law_draw T.F_law_draw.kp T.b_law_draw .nil pass0 (pa_cons (pv 0) (pa_cons pe_int pa_nil))))
    (pss_one (ps_if (pt_cmpR dEq (pv 11) pe_int (nomark _))
     (pss_one (ps_expr (pe_bm PySem.F.plainAttrs_list PySem.F.slot_list_append PySem.F.type_list_append mt_append (pv 2) (pa_cons (pe_tup (pa_cons (pe_tup (pa_cons (pv 7) (pa_cons (pv 8) (pa_cons (pv 9) pa_nil)))) (pa_cons (pv 5) pa_nil))) pa_nil))))
     (pss_one (ps_if (pt_cmpR dEq (pv 11) pe_int (nomark _))
      (pss_one (ps_expr (pe_bm PySem.F.plainAttrs_list PySem.F.slot_list_append PySem.F.type_list_append mt_append (pv 3) (pa_cons (pe_tup (pa_cons (pe_tup (pa_cons (pv 7) (pa_cons (pv 8) (pa_cons (pv 9) (pa_cons (pv 10) pa_nil))))) (pa_cons (pe_op dSub pe_int (pv 5)) pa_nil))) pa_nil))))
      (pss_one (ps_expr (pe_bm PySem.F.plainAttrs_list PySem.F.slot_list_append PySem.F.type_list_append mt_append (pv 3) (pa_cons (pe_tup (pa_cons (pe_tup (pa_cons (pv 8) (pa_cons (pv 7) (pa_cons (pv 9) (pa_cons (pv 10) pa_nil))))) (pa_cons (pv 5) pa_nil))) pa_nil)))))))))))))))))), ?_⟩
    walk_at "rd"
    refine ⟨.of_le (by omega) (by omega) (by omega) (by omega), fun r hr0 => ?_⟩
    refine ⟨b, c, cs, r, rgV 0 n, rfl, .inl (SqL.of upd_same), B.ne hr0, by rw [rgV_length]; omega, B.new hr0, fun H1 l ys f1 B1 el lb' lc' ln pm => ?_⟩
    walk_at "rd"
    refine ⟨b, c, cs, _, rfl, by split <;> omega, Int.lt_of_le_of_lt (show _ ≤ (10000 : Int) by split <;> omega) (by decide), B1, fun H2 r f2 B2 r0 r1 => ?_⟩
    obtain ⟨k, rfl⟩ := Int.eq_ofNat_of_zero_le r0
    have el2 := f2.get lb' el
    have hk : 2 + k ≤ n := by split at r1 <;> omega
    have hk5 : 2 + k ≤ 5 := by split at r1 <;> omega
    obtain ⟨nd, hz, hzl⟩ := ring_line pm hk
    walk_at "rd"
    rename_i t ht
    rw [show (2 : Int) + (k : Int) = ((2 + k : Nat) : Int) by omega, cut_take]
    generalize ys.take (2 + k) = zs at nd hz hzl
    have tb := B2.ne ht
    have tc := B2.ne2 ht
    have F2 : OffS [b, lb, lp] H H2 := ((OffS.of_off ((Off.refl b H).new hr0) (by simp)).off (by simp) f1).off (by simp) f2
    have o2 : Off b H H2 := (((Off.refl b H).new hr0).trans f1).trans f2
    have eb2 := o2.get lbb eb
    have ep2 := o2.get lpb ep
    have tlb : t ≠ lb := (ne_of_none eb2 ht).symm
    have tlp : t ≠ lp := (ne_of_none ep2 ht).symm
    have T2 : TS H H2 := Off.ts o2 B.lst
    refine ⟨b, c, cs, rfl, B2.new ht, fun H3 am f3 B3 => ?_⟩
    walk_at "rd"
    refine ⟨fun σ H' => ∃ am : Int, σ = [some (.ref b), some (.int n), some (.ref lb), some (.ref lp), some (.ref t), some (.int am), none, none, none, none, none, none] ∧ Off b (upd H2 t (.lst zs)) H' ∧ BagAt b c cs H', ?_, ?_⟩
    · walk_at "rd"
      refine ⟨b, c, cs, 3, rfl, by decide, by decide, B3, fun H4 r f4 B4 r0 r1 => ?_⟩
      walk_at "rd"
      all_goals exact ⟨_, rfl, f3.trans f4, B4⟩
    · rintro σ H4 ⟨am, rfl, f4, B4⟩
      have et4 : H4 t = some (.lst zs) := f4.get tb upd_same
      walk_at "rd"
      refine ⟨_, rfl, by omega, by omega, ?_⟩
      have inS : ∀ x, Off b (upd H2 t (.lst zs)) x → OffS [b, lb, lp] H x := fun x f => (F2.new ht).off (by simp) f
      have base4 : TS H H4 := T2.trans (((TS.refl H2).new ht).trans (Off.ts f4 (by obtain ⟨xs, e⟩ := B2.lst; exact ⟨xs, hp_new ht e⟩)))
      refine for_range (lo := 0) (n := zs.length) (fun i σ H' => ∃ (x6 x7 x8 x9 x10 x11 : Option V) (vb' vp' : List V) (bs' ps' : List (List Int × Int)), σ = [some (.ref b), some (.int n), some (.ref lb), some (.ref lp), some (.ref t), some (.int am), x6, x7, x8, x9, x10, x11] ∧
        OffS [b, lb, lp] H H' ∧ BagAt b c cs H' ∧ H' t = some (.lst zs) ∧ H' lb = some (.lst vb') ∧ H' lp = some (.lst vp') ∧ Paired (TnF H') vb' bs' ∧ Paired (TnF H') vp' ps' ∧ OkB n (bs'.map Prod.fst) ∧ OkP n (ps'.map Prod.fst) ∧ bs'.length ≤ bs.length + i ∧ ps'.length ≤ ps.length + i)
        ⟨none, none, none, none, none, none, vb, vp, bs, ps, rfl, inS _ f4, B4, et4, f4.get lbb (hp_new ht eb2), f4.get lpb (hp_new ht ep2), Paired.mapP pb fun _ _ h => h.ts base4, Paired.mapP pp fun _ _ h => h.ts base4, okb, okp, Nat.le_refl _, Nat.le_refl _⟩ ?_ ?_
      · rintro i σ H5 hi ⟨x6, x7, x8, x9, x10, x11, vb', vp', bs', ps', rfl, F5, B5, et5, eb5, ep5, pb5, pp5, okb5, okp5, zb5, zp5⟩
        rw [show (0 : Int) + (i : Int) = i by omega]
        obtain ⟨s, e, as, ae, s0, s1, e0, e1, ne⟩ := ring_ends nd hz (by omega) hi
        have lvb := Paired.len pb5
        have lvp := Paired.len pp5
        walk_at "rd"
        refine ⟨b, c, cs, rfl, B5, fun H6 g f6 B6 g0 g1 => ?_⟩
        walk_at "rd"
        refine ⟨b, c, cs, am, rfl, B6, fun H7 li f7 B7 l0 l1 => ?_⟩
        walk_at "rd"
        refine ⟨b, c, cs, 3, rfl, by decide, by decide, B7, fun H8 r f8 B8 r0 r1 => ?_⟩
        have g8 : Off b H5 H8 := (f6.trans f7).trans f8
        have T8 : TS H5 H8 := Off.ts g8 B5.lst
        have F8 : OffS [b, lb, lp] H H8 := F5.off (by simp) g8
        have et8 := g8.get tb et5
        have eb8 := g8.get lbb eb5
        have ep8 := g8.get lpb ep5
        walk_at "rd"
        · rename_i p1 h1 p2 h2
          have p2b : p2 ≠ lb := (ne_of_none (hp_new h1 eb8) h2).symm
          have p1b : p1 ≠ lb := (ne_of_none eb8 h1).symm
          have T9 : ∀ o2, TS H5 (upd (upd (upd H8 p1 _) p2 o2) _ (.lst (vb' ++ [.ref p2]))) := fun o2 => T8.trans ((((TS.refl H8).new h1).new h2).put (hp_new h2 (hp_new h1 eb8)))
          exact ⟨_, _, _, _, _, _, vb' ++ [.ref p2], vp', bs' ++ [([s, e, g], am)], ps', rfl, ((F8.new h1).new h2).set (by simp), ((B8.new h1).new h2).put lbb lbc, hp_set tlb (hp_new h2 (hp_new h1 et8)), upd_same, hp_set lbp.symm (hp_new h2 (hp_new h1 ep8)),
            Paired.snoc (Paired.mapP pb5 fun _ _ h => h.ts (T9 _)) ⟨p2, .ref p1, rfl, hp_set p2b upd_same, p1, rfl, hp_set p1b (hp_new h2 upd_same)⟩, Paired.mapP pp5 fun _ _ h => h.ts (T9 _),
            okb_snoc okb5 s e g rfl s0 s1 e0 e1 ne g0 g1, okp5, by simp; omega, by omega⟩
        · rename_i p1 h1 p2 h2
          have p2b : p2 ≠ lp := (ne_of_none (hp_new h1 ep8) h2).symm
          have p1b : p1 ≠ lp := (ne_of_none ep8 h1).symm
          have T9 : ∀ o2, TS H5 (upd (upd (upd H8 p1 _) p2 o2) _ (.lst (vp' ++ [.ref p2]))) := fun o2 => T8.trans ((((TS.refl H8).new h1).new h2).put (hp_new h2 (hp_new h1 ep8)))
          exact ⟨_, _, _, _, _, _, vb', vp' ++ [.ref p2], bs', ps' ++ [([s, e, g, li], 0 - am)], rfl, ((F8.new h1).new h2).set (by simp), ((B8.new h1).new h2).put lpb lpc, hp_set tlp (hp_new h2 (hp_new h1 et8)), hp_set lbp (hp_new h2 (hp_new h1 eb8)), upd_same,
            Paired.mapP pb5 fun _ _ h => h.ts (T9 _), Paired.snoc (Paired.mapP pp5 fun _ _ h => h.ts (T9 _)) ⟨p2, .ref p1, rfl, hp_set p2b upd_same, p1, rfl, hp_set p1b (hp_new h2 upd_same)⟩,
            okb5, okp_snoc okp5 s e g li rfl s0 s1 e0 e1 ne g0 g1 l0 l1, by omega, by simp; omega⟩
        · rename_i p1 h1 p2 h2
          have p2b : p2 ≠ lp := (ne_of_none (hp_new h1 ep8) h2).symm
          have p1b : p1 ≠ lp := (ne_of_none ep8 h1).symm
          have T9 : ∀ o2, TS H5 (upd (upd (upd H8 p1 _) p2 o2) _ (.lst (vp' ++ [.ref p2]))) := fun o2 => T8.trans ((((TS.refl H8).new h1).new h2).put (hp_new h2 (hp_new h1 ep8)))
          exact ⟨_, _, _, _, _, _, vb', vp' ++ [.ref p2], bs', ps' ++ [([e, s, g, li], am)], rfl, ((F8.new h1).new h2).set (by simp), ((B8.new h1).new h2).put lpb lpc, hp_set tlp (hp_new h2 (hp_new h1 et8)), hp_set lbp (hp_new h2 (hp_new h1 eb8)), upd_same,
            Paired.mapP pb5 fun _ _ h => h.ts (T9 _), Paired.snoc (Paired.mapP pp5 fun _ _ h => h.ts (T9 _)) ⟨p2, .ref p1, rfl, hp_set p2b upd_same, p1, rfl, hp_set p1b (hp_new h2 upd_same)⟩,
            okb5, okp_snoc okp5 e s g li rfl e0 e1 s0 s1 ne.symm g0 g1 l0 l1, by omega, by simp; omega⟩
      · rintro σ H5 ⟨x6, x7, x8, x9, x10, x11, vb', vp', bs', ps', rfl, F5, B5, et5, eb5, ep5, pb5, pp5, okb5, okp5, zb5, zp5⟩
        walk_at "rd"
        exact q H5 vb' vp' bs' ps' F5 B5 eb5 ep5 pb5 pp5 okb5 okp5 (by omega) (by omega)
end
def spLoaded : Sp := fun vs H Q _ => ∃ (b c : Addr) (cs : List Int) (v : V) (n : Nat) (bs ps : List (List Int)), vs = [.ref b, v] ∧ 2 ≤ n ∧ n ≤ 1000 ∧ BagAt b c cs H ∧ SysAt H v n bs ps ∧ OkB n bs ∧ OkP n ps ∧ bs.length ≤ 4000 ∧ ps.length ≤ 4000 ∧
  ∀ H' r v' u tp tb bs' ps' (pf bf : List Int), Off b H H' → BagAt b c cs H' → H' r = some (.tup [v', .ref u]) → SysAt H' v' n bs' ps' → OkB n bs' → OkP n ps' → bs'.length ≤ 100 → ps'.length ≤ 100 → H' u = some (.lst [.ref tp, .ref tb]) → H' tp = some (.lst (pf.map V.int)) → H' tb = some (.lst (bf.map V.int)) → tp ≠ tb → tp ≠ b → tp ≠ c → tb ≠ b → tb ≠ c → u ≠ b → u ≠ tp → u ≠ tb → pf.length = ps'.length → bf.length = bs'.length → Q (.ref r) H'
section
variable {P : Program} {w : World} {K : PySem.W.Frag} {mg : Str → Option Value} {base : Heap}
theorem ok_law_loaded (T : Txt K mg) : FnOk P w K mg base CX0 5 T.f_law_loaded T.fd_law_loaded ["bag", "system"] spLoaded := by
  refine T.F_law_loaded.ok sc_law_loaded (fun vs H Q E h => ?_) (fun cdv A outer s H vs Q E hr h => ?_)
  · obtain ⟨b, c, cs, v, n, bs, ps, rfl, _⟩ := h
    rfl
  · obtain ⟨b, c, cs, v, n, bs, ps, rfl, n2, n3, B, ⟨a, p, q', vb, vp, rfl, ea, ep, rb, eq, rp⟩, okb, okp, zb, zp, q⟩ := h
    have lvb := Paired.len rb
    have lvp := Paired.len rp
    refine ⟨_, (pss_cons (ps_setLc (i := 2) (own := [("b", 3)]) (g := gName 3) (tt := tYes) rfl sc_law_loaded.nd rfl rfl (sw_true rfl rfl rfl (by decide +kernel)) (dpi_tup K (pe_slice (dSlTA K) (pe_ix (dIx K) (pv 1) pe_int (fun _ _ => rfl)) po_none (po_some pe_int))) (blkOk_by (own := [("b", 3)]) (N := ["bag", "system", "bound_rows", "b", "pull_rows", "p", "turn", "told", "row"]) (sc := defScope s_law_loaded) (by decide +kernel)) (fun _ _ _ _ _ => (pg_name (i := 3) sc_law_loaded.nd rfl (by first | exact Or.inl rfl | exact Or.inr rfl))) (fun _ _ _ _ _ => pts_nil) (fun _ _ _ _ _ => (pe_tup (pa_cons (pv 3) (pa_cons pe_int pa_nil)))))
   (pss_cons (ps_setLc (i := 4) (own := [("p", 5)]) (g := gName 5) (tt := tYes) rfl sc_law_loaded.nd rfl rfl (sw_true rfl rfl rfl (by decide +kernel)) (dpi_tup K (pe_slice (dSlTA K) (pe_ix (dIx K) (pv 1) pe_int (fun _ _ => rfl)) po_none (po_some pe_int))) (blkOk_by (own := [("p", 5)]) (N := ["bag", "system", "bound_rows", "b", "pull_rows", "p", "turn", "told", "row"]) (sc := defScope s_law_loaded) (by decide +kernel)) (fun _ _ _ _ _ => (pg_name (i := 5) sc_law_loaded.nd rfl (by first | exact Or.inl rfl | exact Or.inr rfl))) (fun _ _ _ _ _ => pts_nil) (fun _ _ _ _ _ => (pe_tup (pa_cons (pv 5) (pa_cons pe_int pa_nil)))))
   (pss_cons (ps_for PassesOwn.never rfl (pi_range1 rfl T.n_range (pa_cons (pe_op (dAdd K) pe_int (pe_call (ok_law_draw T) (hr.mono (by omega)) (by rfl) T.g_law_draw T.F_law_draw.kp T.b_law_draw .nil pass0 (pa_cons (pv 0) (pa_cons pe_int pa_nil)))) pa_nil)) (pg_name (i := 6) sc_law_loaded.nd rfl (by first | exact Or.inl rfl | exact Or.inr rfl))
    (pss_one (ps_expr (pe_call (ok_law_ring_added T) (hr.mono (by omega)) (by rfl) T.g_law_ring_added T.F_law_ring_added.kp T.b_law_ring_added .nil pass0 (pa_cons (pv 0) (pa_cons (pe_ix (dIx K) (pv 1) pe_int (fun _ _ => rfl)) (pa_cons (pv 2) (pa_cons (pv 4) pa_nil))))))))
   (pss_cons (ps_set (i := 2) sc_law_loaded.nd rfl (by first | exact Or.inl rfl | exact Or.inr rfl) (pe_call (ok_law_shuffle T) (hr.mono (by omega)) (by rfl) T.g_law_shuffle T.F_law_shuffle.kp T.b_law_shuffle .nil pass0 (pa_cons (pv 0) (pa_cons (pv 2) pa_nil))))
   (pss_cons (ps_set (i := 4) sc_law_loaded.nd rfl (by first | exact Or.inl rfl | exact Or.inr rfl) (pe_call (ok_law_shuffle T) (hr.mono (by omega)) (by rfl) T.g_law_shuffle T.F_law_shuffle.kp T.b_law_shuffle .nil pass0 (pa_cons (pv 0) (pa_cons (pv 4) pa_nil))))
   (pss_cons (ps_set (i := 7) sc_law_loaded.nd rfl (by first | exact Or.inl rfl | exact Or.inr rfl) (pe_tup (pa_cons (pe_ix (dIx K) (pv 1) pe_int (fun _ _ => rfl)) (pa_cons (pe_callTy (dTuple K) (by rfl) T.n_tuple (by decide +kernel) (pa_cons (pe_lc (own := [("row", 8)]) (g := gName 8) (tt := tYes) rfl sc_law_loaded.nd  (dpi_list K (pv 2)) (blkOk_by (own := [("row", 8)]) (N := ["bag", "system", "bound_rows", "b", "pull_rows", "p", "turn", "told", "row"]) (sc := defScope s_law_loaded) (by decide +kernel)) (fun _ _ _ _ _ => (pg_name (i := 8) sc_law_loaded.nd rfl (by first | exact Or.inl rfl | exact Or.inr rfl))) (fun _ _ _ _ _ => pts_nil) (fun _ _ _ _ _ => (pe_ix (dIx K) (pv 8) pe_int (fun _ _ => rfl)))) pa_nil)) (pa_cons (pe_callTy (dTuple K) (by rfl) T.n_tuple (by decide +kernel) (pa_cons (pe_lc (own := [("row", 8)]) (g := gName 8) (tt := tYes) rfl sc_law_loaded.nd  (dpi_list K (pv 4)) (blkOk_by (own := [("row", 8)]) (N := ["bag", "system", "bound_rows", "b", "pull_rows", "p", "turn", "told", "row"]) (sc := defScope s_law_loaded) (by decide +kernel)) (fun _ _ _ _ _ => (pg_name (i := 8) sc_law_loaded.nd rfl (by first | exact Or.inl rfl | exact Or.inr rfl))) (fun _ _ _ _ _ => pts_nil) (fun _ _ _ _ _ => (pe_ix (dIx K) (pv 8) pe_int (fun _ _ => rfl)))) pa_nil)) pa_nil)))))
   (pss_one (ps_ret (pe_tup (pa_cons (pv 7) (pa_cons (pe_lst (pa_cons (pe_lc (own := [("row", 8)]) (g := gName 8) (tt := tYes) rfl sc_law_loaded.nd  (dpi_list K (pv 4)) (blkOk_by (own := [("row", 8)]) (N := ["bag", "system", "bound_rows", "b", "pull_rows", "p", "turn", "told", "row"]) (sc := defScope s_law_loaded) (by decide +kernel)) (fun _ _ _ _ _ => (pg_name (i := 8) sc_law_loaded.nd rfl (by first | exact Or.inl rfl | exact Or.inr rfl))) (fun _ _ _ _ _ => pts_nil) (fun _ _ _ _ _ => (pe_ix (dIx K) (pv 8) pe_int (fun _ _ => rfl)))) (pa_cons (pe_lc (own := [("row", 8)]) (g := gName 8) (tt := tYes) rfl sc_law_loaded.nd  (dpi_list K (pv 2)) (blkOk_by (own := [("row", 8)]) (N := ["bag", "system", "bound_rows", "b", "pull_rows", "p", "turn", "told", "row"]) (sc := defScope s_law_loaded) (by decide +kernel)) (fun _ _ _ _ _ => (pg_name (i := 8) sc_law_loaded.nd rfl (by first | exact Or.inl rfl | exact Or.inr rfl))) (fun _ _ _ _ _ => pts_nil) (fun _ _ _ _ _ => (pe_ix (dIx K) (pv 8) pe_int (fun _ _ => rfl)))) pa_nil))) pa_nil))))))))))), ?_⟩
    walk_at "rd"
    refine rd_lc ?_
    walk_at "rd"
    refine rv_slTA ep fun a1 H1 s1 e1 => ?_
    rw [show (some (30 : Int)) = some ((30 : Nat) : Int) from rfl, cut_take] at e1
    walk_at "rd"
    refine lc_pureT (walk_tup (K := K) (a := a1) (xs := vb.take 30)) (bs.take 30) (fun H y r => TnF H y (r, 0)) (by rw [List.length_take, List.length_take, lvb]) (by rw [List.length_take]; omega) (fun H' s => SqT.of (s _ _ e1)) same_at (fun H1 H2 y r t h => h.ts t) ?_ ?_
    · rintro i r x H' H2 Nx E er s s2 ⟨rfl, hx⟩ hN
      obtain ⟨r', er', hr'⟩ := Paired.get1 (Paired.take 30 rb) hx
      rw [er] at er'
      cases er'
      walk_at "rd"
      rename_i t ht
      exact hN _ _ (same_upd ht) ⟨t, x, rfl, upd_same, hr'.same ((s1.trans s).trans (same_upd ht))⟩
    · intro l1 ys1 H2 hl1 s2 e2 pr1
      replace pr1 : Paired (TnF H2) ys1 ((bs.take 30).map fun r => (r, (0 : Int))) := Paired.map2 _ pr1
      have s12 := s1.trans s2
      have ea2 := s12 _ _ ea
      have eq2 := s12 _ _ eq
      walk_at "rd"
      refine rd_lc ?_
      walk_at "rd"
      refine rv_slTA eq2 fun a2 H3 s3 e3 => ?_
      rw [show (some (30 : Int)) = some ((30 : Nat) : Int) from rfl, cut_take] at e3
      walk_at "rd"
      refine lc_pureT (walk_tup (K := K) (a := a2) (xs := vp.take 30)) (ps.take 30) (fun H y r => TnF H y (r, 0)) (by rw [List.length_take, List.length_take, lvp]) (by rw [List.length_take]; omega) (fun H' s => SqT.of (s _ _ e3)) same_at (fun H1 H2 y r t h => h.ts t) ?_ ?_
      · rintro i r x H' H4 Nx E er s s4 ⟨rfl, hx⟩ hN
        obtain ⟨r', er', hr'⟩ := Paired.get1 (Paired.take 30 rp) hx
        rw [er] at er'
        cases er'
        walk_at "rd"
        rename_i t ht
        exact hN _ _ (same_upd ht) ⟨t, x, rfl, upd_same, hr'.same (((s12.trans s3).trans s).trans (same_upd ht))⟩
      · intro l2 ys2 H4 hl2 s4 e4 pr2
        replace pr2 : Paired (TnF H4) ys2 ((ps.take 30).map fun r => (r, (0 : Int))) := Paired.map2 _ pr2
        have s14 := (s12.trans s3).trans s4
        have B4 := B.same s14
        have e24 := (s3.trans s4) _ _ e2
        have pr1' : Paired (TnF H4) ys1 ((bs.take 30).map fun r => (r, (0 : Int))) := Paired.mapP pr1 fun _ _ h => h.same (s3.trans s4)
        have l1n : H l1 = none := s1.free hl1
        have l2n : H l2 = none := (s12.trans s3).free hl2
        have l12 : l1 ≠ l2 := ne_of_none (s3 _ _ e2) hl2
        have fst1 : ∀ l : List (List Int), (l.map fun r => (r, (0 : Int))).map Prod.fst = l := fun l => by rw [List.map_map]; exact List.map_id' l
        walk_at "rd"
        refine ⟨b, c, cs, 2, rfl, by decide, by decide, B4, fun H5 r5 f5 B5 r50 r51 => ?_⟩
        walk_at "rd"
        refine ⟨_, rfl, by omega, by omega, ?_⟩
        have lb1 : l1 ≠ b := B.ne l1n
        have lc1 : l1 ≠ c := B.ne2 l1n
        have lb2 : l2 ≠ b := B.ne l2n
        have lc2 : l2 ≠ c := B.ne2 l2n
        have T5 : TS H4 H5 := Off.ts f5 B4.lst
        have S4 : ∀ H' : Hp, OffS [b, l1, l2] H4 H' → TS H4 H' := fun H' f => f.ts (by
          intro x hx
          simp only [List.mem_cons, List.not_mem_nil, or_false] at hx
          rcases hx with rfl | rfl | rfl
          · exact B4.lst
          · exact ⟨_, e24⟩
          · exact ⟨_, e4⟩)
        refine for_range (lo := 0) (n := (1 + r5).toNat) (fun i σ H' => ∃ (x6 : Option V) (vb' vp' : List V) (bs' ps' : List (List Int × Int)), σ = [some (.ref b), some (.ref a), some (.ref l1), none, some (.ref l2), none, x6, none, none] ∧ OffS [b, l1, l2] H4 H' ∧ BagAt b c cs H' ∧ H' l1 = some (.lst vb') ∧ H' l2 = some (.lst vp') ∧ Paired (TnF H') vb' bs' ∧ Paired (TnF H') vp' ps' ∧ OkB n (bs'.map Prod.fst) ∧ OkP n (ps'.map Prod.fst) ∧ bs'.length ≤ 30 + 5 * i ∧ ps'.length ≤ 30 + 5 * i)
          ⟨none, ys1, ys2, _, _, rfl, OffS.of_off f5 (by simp), B5, f5.get lb1 e24, f5.get lb2 e4, Paired.mapP pr1' fun _ _ h => h.ts T5, Paired.mapP pr2 fun _ _ h => h.ts T5, by rw [fst1]; exact fun r hr => okb r (List.mem_of_mem_take hr), by rw [fst1]; exact fun r hr => okp r (List.mem_of_mem_take hr), by rw [List.length_map, List.length_take]; omega, by rw [List.length_map, List.length_take]; omega⟩ ?_ ?_
        · rintro i σ H6 hi ⟨x6, vb', vp', bs', ps', rfl, f6, B6, e61, e62, pb6, pp6, okb6, okp6, zb6, zp6⟩
          have ea6 := S4 _ f6 _ _ (s14 _ _ ea)
          walk_at "rd"
          refine ⟨b, c, cs, n, l1, l2, vb', vp', bs', ps', rfl, n2, n3, B6, e61, e62, lb1, lc1, lb2, lc2, l12, pb6, pp6, okb6, okp6, by omega, by omega, fun H7 vb'' vp'' bs'' ps'' f7 B7 e71 e72 pb7 pp7 okb7 okp7 zb7 zp7 => ?_⟩
          walk_at "rd"
          exact ⟨_, vb'', vp'', bs'', ps'', rfl, f6.trans f7, B7, e71, e72, pb7, pp7, okb7, okp7, by omega, by omega⟩
        · rintro σ H6 ⟨x6, vb', vp', bs', ps', rfl, f6, B6, e61, e62, pb6, pp6, okb6, okp6, zb6, zp6⟩
          have lvb6 := Paired.len pb6
          have lvp6 := Paired.len pp6
          have ea6 := S4 _ f6 _ _ (s14 _ _ ea)
          have o6 : Off b H H6 := f6.to (Off.of_same s14) (by
            intro x hx
            simp only [List.mem_cons, List.not_mem_nil, or_false] at hx
            rcases hx with rfl | rfl | rfl
            · exact .inl rfl
            · exact .inr l1n
            · exact .inr l2n)
          walk_at "rd"
          refine ⟨b, c, cs, l1, vb', rfl, .inl (SqL.of e61), lb1, by omega, B6, fun H7 m1 zs1 f7 B7 em1 m1b m1c m1n pm1 => ?_⟩
          have T7 : TS H6 H7 := Off.ts f7 B6.lst
          obtain ⟨rs1, pr71, pq1⟩ := Paired.perm pm1 (Paired.mapP pb6 fun _ _ h => h.ts T7)
          have e72 := f7.get lb2 e62
          walk_at "rd"
          refine ⟨b, c, cs, l2, vp', rfl, .inl (SqL.of e72), lb2, by omega, B7, fun H8 m2 zs2 f8 B8 em2 m2b m2c m2n pm2 => ?_⟩
          have T8 : TS H7 H8 := Off.ts f8 B7.lst
          obtain ⟨rs2, pr82, pq2⟩ := Paired.perm pm2 (Paired.mapP pp6 fun _ _ h => h.ts (T7.trans T8))
          have pr81 : Paired (TnF H8) zs1 rs1 := Paired.mapP pr71 fun _ _ h => h.ts T8
          have em18 := f8.get m1b em1
          have o8 : Off b H H8 := (o6.trans f7).trans f8
          have ea8 := T8 _ _ (T7 _ _ ea6)
          have lz1 : zs1.length = rs1.length := Paired.len pr81
          have lz2 : zs2.length = rs2.length := Paired.len pr82
          have l1r : rs1.length ≤ 40 := by rw [pq1.length_eq]; omega
          have l2r : rs2.length ≤ 40 := by rw [pq2.length_eq]; omega
          walk_at "rd"
          refine rd_lc ?_
          walk_at "rd"
          refine lc_pureT (walk_list (K := K) (a := m1) (xs := zs1)) rs1 (fun H y r => Tn H y r.1) lz1 (by omega) (fun H' s => SqL.of (s _ _ em18)) same_at (fun H1 H2 y r t h => h.ts t) ?_ ?_
          · rintro i r x H' H9 Nx E er s s2 ⟨rfl, hx⟩ hN
            obtain ⟨r', er', t, y, rfl, et, ht⟩ := Paired.get1 pr81 hx
            rw [er] at er'
            cases er'
            have et9 := s _ _ et
            walk_at "rd"
            exact hN _ _ (fun _ _ e => e) (ht.same s)
          · intro d1 ws1 H9 hd1 s9 ed1 pw1
            walk_at "rd"
            rename_i t1 ht1
            have s9' := s9.trans (same_upd ht1 (o := .tup ws1))
            have em29 := s9' _ _ em2
            refine rd_lc ?_
            walk_at "rd"
            refine lc_pureT (walk_list (K := K) (a := m2) (xs := zs2)) rs2 (fun H y r => Tn H y r.1) lz2 (by omega) (fun H' s => SqL.of (s _ _ em29)) same_at (fun H1 H2 y r t h => h.ts t) ?_ ?_
            · rintro i r x H' H10 Nx E er s s2 ⟨rfl, hx⟩ hN
              obtain ⟨r', er', t, y, rfl, et, ht⟩ := Paired.get1 pr82 hx
              rw [er] at er'
              cases er'
              have et9 := s _ _ (s9' _ _ et)
              walk_at "rd"
              exact hN _ _ (fun _ _ e => e) (ht.same (s9'.trans s))
            · intro d2 ws2 H10 hd2 s10 ed2 pw2
              walk_at "rd"
              rename_i t2 ht2 tt ht3
              have s11 := (s10.trans (same_upd ht2 (o := .tup ws2))).trans (same_upd ht3 (o := .tup [.int n, .ref t1, .ref t2]))
              have sall := s9'.trans s11
              have em2a := sall _ _ em2
              have SYS : SysAt (upd (upd H10 t2 (.tup ws2)) tt (.tup [.int n, .ref t1, .ref t2])) (.ref tt) n (rs1.map Prod.fst) (rs2.map Prod.fst) :=
                ⟨tt, t1, t2, ws1, ws2, rfl, upd_same, s11 _ _ upd_same, Paired.map2 _ (Paired.mapP pw1 fun _ _ h => h.same ((same_upd ht1).trans s11)), same_upd ht3 _ _ upd_same, Paired.map2 _ (Paired.mapP pw2 fun _ _ h => h.same ((same_upd ht2).trans (same_upd ht3)))⟩
              refine rd_lc ?_
              walk_at "rd"
              refine lc_pureT (walk_list (K := K) (a := m2) (xs := zs2)) rs2 (fun H y r => y = .int r.2) lz2 (by omega) (fun H' s => SqL.of (s _ _ em2a)) same_at (fun H1 H2 y r t h => h) ?_ ?_
              · rintro i r x H' H12 Nx E er s s2 ⟨rfl, hx⟩ hN
                obtain ⟨r', er', t, y, rfl, et, ht⟩ := Paired.get1 pr82 hx
                rw [er] at er'
                cases er'
                have et9 := s _ _ (sall _ _ et)
                walk_at "rd"
                exact hN _ _ (fun _ _ e => e) rfl
              · intro d3 ws3 H12 hd3 s12 ed3 pw3
                have e3 := Paired.fn (fun r : List Int × Int => V.int r.2) pw3
                subst e3
                have em1a := s12 _ _ (sall _ _ em18)
                walk_at "rd"
                refine rd_lc ?_
                walk_at "rd"
                refine lc_pureT (walk_list (K := K) (a := m1) (xs := zs1)) rs1 (fun H y r => y = .int r.2) lz1 (by omega) (fun H' s => SqL.of (s _ _ em1a)) same_at (fun H1 H2 y r t h => h) ?_ ?_
                · rintro i r x H' H13 Nx E er s s2 ⟨rfl, hx⟩ hN
                  obtain ⟨r', er', t, y, rfl, et, ht⟩ := Paired.get1 pr81 hx
                  rw [er] at er'
                  cases er'
                  have et9 := s _ _ (s12 _ _ (sall _ _ et))
                  walk_at "rd"
                  exact hN _ _ (fun _ _ e => e) rfl
                · intro d4 ws4 H13 hd4 s13 ed4 pw4
                  have e4 := Paired.fn (fun r : List Int × Int => V.int r.2) pw4
                  subst e4
                  walk_at "rd"
                  rename_i u hu r hr1
                  have sN := ((s12.trans s13).trans (same_upd hu (o := .lst [.ref d3, .ref d4]))).trans (same_upd hr1 (o := .tup [.ref tt, .ref u]))
                  have B10 : BagAt b c cs (upd (upd H10 t2 (.tup ws2)) tt (.tup [.int n, .ref t1, .ref t2])) := B8.same sall
                  have B12 : BagAt b c cs H12 := B10.same s12
                  have B13 : BagAt b c cs H13 := B12.same s13
                  have mm : ∀ l : List (List Int × Int), (l.map fun r : List Int × Int => V.int r.2) = (l.map Prod.snd).map V.int := fun l => by rw [List.map_map]; rfl
                  rw [mm] at ed3 ed4
                  have ed3' := s13 _ _ ed3
                  refine q _ r (.ref tt) u d3 d4 (rs1.map Prod.fst) (rs2.map Prod.fst) (rs2.map Prod.snd) (rs1.map Prod.snd) (o8.trans (Off.of_same (sall.trans sN))) (B10.same sN) upd_same (SYS.ts (.of_same sN)) (fun r hr => okb6 r ((pq1.map Prod.fst).mem_iff.mp hr)) (fun r hr => okp6 r ((pq2.map Prod.fst).mem_iff.mp hr))
                    (by rw [List.length_map]; omega) (by rw [List.length_map]; omega) (hp_new hr1 upd_same) (hp_new hr1 (hp_new hu ed3')) (hp_new hr1 (hp_new hu ed4)) (ne_of_none ed3 hd4) (B10.ne hd3) (B10.ne2 hd3) (B12.ne hd4) (B12.ne2 hd4) (B13.ne hu) (ne_of_none ed3' hu).symm (ne_of_none ed4 hu).symm (by rw [List.length_map, List.length_map]) (by rw [List.length_map, List.length_map])
end
def spBent : Sp := fun vs H Q _ => ∃ (b c : Addr) (cs : List Int) (u tp tb : Addr) (pf bf : List Int), vs = [.ref b, .ref u] ∧ BagAt b c cs H ∧ H u = some (.lst [.ref tp, .ref tb]) ∧ u ≠ b ∧ H tp = some (.lst (pf.map V.int)) ∧ H tb = some (.lst (bf.map V.int)) ∧ tp ≠ b ∧ tp ≠ c ∧ tb ≠ b ∧ tb ≠ c ∧ tp ≠ tb ∧ pf.length ≤ 100 ∧ bf.length ≤ 100 ∧
  ∀ H' (pf' bf' : List Int), OffS [b, tp, tb] H H' → BagAt b c cs H' → H' tp = some (.lst (pf'.map V.int)) → H' tb = some (.lst (bf'.map V.int)) → pf'.length = pf.length → bf'.length = bf.length → Q .non H'
section
variable {P : Program} {w : World} {K : PySem.W.Frag} {mg : Str → Option Value} {base : Heap}
theorem ok_law_bent (T : Txt K mg) : FnOk P w K mg base CX0 2 T.f_law_bent T.fd_law_bent ["bag", "loads"] spBent := by
  refine T.F_law_bent.ok sc_law_bent (fun vs H Q E h => ?_) (fun cdv A outer s H vs Q E hr h => ?_)
  · obtain ⟨b, c, cs, u, tp, tb, pf, bf, rfl, _⟩ := h
    rfl
  · obtain ⟨b, c, cs, u, tp, tb, pf, bf, rfl, B, eu, ub, etp, etb, tpb, tpc, tbb, tbc, ntb, zp, zb, q⟩ := h
    refine ⟨_, (pss_cons (ps_set (i := 2) sc_law_bent.nd rfl (by first | exact Or.inl rfl | exact Or.inr rfl) (pe_ix (dIx K) (pv 1) (pe_call (ok_law_draw T) (hr.mono (by omega)) (by rfl) T.g_law_draw T.F_law_draw.kp T.b_law_draw .nil pass0 (pa_cons (pv 0) (pa_cons pe_int pa_nil))) (fun _ _ => rfl)))
   (pss_one (ps_if (PW.pt (pw_and (pt_cmpR dGt (pe_callB (dLen K) (by rfl) T.n_len (by decide +kernel) (pa_cons (pv 2) pa_nil)) pe_int (nomark _)) (pw_and1 (pt_cmpR dEq (pe_call (ok_law_draw T) (hr.mono (by omega)) (by rfl) T.g_law_draw T.F_law_draw.kp T.b_law_draw .nil pass0 (pa_cons (pv 0) (pa_cons pe_int pa_nil))) pe_int (nomark _)))))
    (pss_cons (ps_set (i := 3) sc_law_bent.nd rfl (by first | exact Or.inl rfl | exact Or.inr rfl) (pe_call (ok_law_draw T) (hr.mono (by omega)) (by rfl) T.g_law_draw T.F_law_draw.kp T.b_law_draw .nil pass0 (pa_cons (pv 0) (pa_cons (pe_callB (dLen K) (by rfl) T.n_len (by decide +kernel) (pa_cons (pv 2) pa_nil)) pa_nil))))
    (pss_one (ps_if (pt_cmpR dGt (pe_ix (dIx K) (pv 2) (pv 3) (fun _ _ => rfl)) pe_int (nomark _))
     (pss_one (ps_asg (pe_op dSub (pe_ix (dIx K) (pv 2) (pv 3) (fun _ _ => rfl)) pe_int) (pg_sub (pv 2) (pv 3) set_list)))
     (pss_one (ps_asg (pe_op (dAdd K) (pe_ix (dIx K) (pv 2) (pv 3) (fun _ _ => rfl)) pe_int) (pg_sub (pv 2) (pv 3) set_list))))))
    pss_nil))), ?_⟩
    walk_at "rd"
    refine ⟨b, c, cs, 2, rfl, by decide, by decide, B, fun H1 r f1 B1 r0 r1 => ?_⟩
    have eu1 := f1.get ub eu
    have etp1 := f1.get tpb etp
    have etb1 := f1.get tbb etb
    have F1 : OffS [b, tp, tb] H H1 := OffS.of_off f1 (by simp)
    have step : ∀ (x : Addr) (fs : List Int), H1 x = some (.lst (fs.map V.int)) → x ≠ b → x ≠ c → fs.length ≤ 100 → (∀ H' (fs' : List Int), OffS [b, x] H1 H' → BagAt b c cs H' → H' x = some (.lst (fs'.map V.int)) → fs'.length = fs.length → Q .non H') → True := fun _ _ _ _ _ _ _ => trivial
    have hv : atI [V.ref tp, V.ref tb] r = some (.ref (if r = 0 then tp else tb)) := by
      rcases (show r = 0 ∨ r = 1 by omega) with rfl | rfl
      · rw [if_pos rfl]; rfl
      · rw [if_neg (by decide)]; rfl
    have go : ∃ (x : Addr) (fs : List Int), (if r = 0 then tp else tb) = x ∧ H1 x = some (.lst (fs.map V.int)) ∧ x ≠ b ∧ x ≠ c ∧ fs.length ≤ 100 ∧ ∀ H' (fs' : List Int), OffS [b, x] H1 H' → BagAt b c cs H' → H' x = some (.lst (fs'.map V.int)) → fs'.length = fs.length → Q .non H' := by
      rcases (show r = 0 ∨ r = 1 by omega) with rfl | rfl
      · refine ⟨tp, pf, if_pos rfl, etp1, tpb, tpc, zp, fun H' fs' f B' e l => q H' fs' bf (F1.trans fun a o n e => f a o (fun m => n ?_) e) B' e (f tb _ (by simp [tbb, ntb.symm]) etb1) l rfl⟩
        simp only [List.mem_cons, List.not_mem_nil, or_false] at m ⊢
        rcases m with m | m <;> simp [m]
      · refine ⟨tb, bf, if_neg (by decide), etb1, tbb, tbc, zb, fun H' fs' f B' e l => q H' pf fs' (F1.trans fun a o n e => f a o (fun m => n ?_) e) B' (f tp _ (by simp [tpb, ntb]) etp1) e rfl l⟩
        simp only [List.mem_cons, List.not_mem_nil, or_false] at m ⊢
        rcases m with m | m <;> simp [m]
    obtain ⟨x, fs, hx, ex, xb, xc, zf, q2⟩ := go
    rw [hx] at hv
    clear step q eu
    walk_at "rd"
    · refine ⟨b, c, cs, 2, rfl, by decide, by decide, B1, fun H2 r2 f2 B2 r20 r21 => ?_⟩
      have ex2 := f2.get xb ex
      walk_at "rd"
      · refine ⟨b, c, cs, _, rfl, by assumption, Int.lt_of_le_of_lt (show _ ≤ (10000 : Int) by rw [List.length_map]; omega) (by decide), B2, fun H3 r3 f3 B3 r30 r31 => ?_⟩
        obtain ⟨k, rfl⟩ := Int.eq_ofNat_of_zero_le r30
        rw [List.length_map] at r31
        have hk : k < fs.length := by omega
        have ex3 := f3.get xb ex2
        have ev : fs[k]? = some fs[k] := List.getElem?_eq_getElem hk
        have a1 : atI (fs.map V.int) (k : Int) = some (.int fs[k]) := atI_nat (by rw [List.getElem?_map, ev]; rfl)
        walk_at "rd"
        · refine rv_setL ex3 (by rw [List.length_map]; exact ixN_of hk) ?_
          rw [setm_int]
          walk_at "rd"
          exact q2 _ _ (((OffS.of_off f2 (by simp)).off (by simp) f3).set (by simp)) (B3.put xb xc) upd_same (by rw [List.length_set])
        · refine rv_setL ex3 (by rw [List.length_map]; exact ixN_of hk) ?_
          rw [setm_int]
          walk_at "rd"
          exact q2 _ _ (((OffS.of_off f2 (by simp)).off (by simp) f3).set (by simp)) (B3.put xb xc) upd_same (by rw [List.length_set])
      · exact q2 _ fs (OffS.of_off f2 (by simp)) B2 ex2 rfl
    · exact q2 _ fs (OffS.refl _ _) B1 ex rfl
end
section
variable {P : Program} {w : World} {K : PySem.W.Frag} {mg : Str → Option Value} {base : Heap}
theorem ok_law_any_system (T : Txt K mg) : FnOk P w K mg base CX0 3 T.f_law_any_system T.fd_law_any_system ["bag", "most"] spSystem := by
  refine T.F_law_any_system.ok sc_law_any_system (fun vs H Q E h => ?_) (fun cdv A outer s H vs Q E hr h => ?_)
  · obtain ⟨b, c, cs, m, rfl, _⟩ := h
    rfl
  · obtain ⟨b, c, cs, m, rfl, hm, B, q⟩ := h
    refine ⟨_, (pss_cons (ps_set (i := 2) sc_law_any_system.nd rfl (by first | exact Or.inl rfl | exact Or.inr rfl) (pe_op (dAdd K) pe_int (pe_call (ok_law_draw T) (hr.mono (by omega)) (by rfl) T.g_law_draw T.F_law_draw.kp T.b_law_draw .nil pass0 (pa_cons (pv 0) (pa_cons pe_int pa_nil)))))
   (C8.pss_cut (ps_if (pt_cmpR dEq (pe_call (ok_law_draw T) (hr.mono (by omega)) (by rfl) T.g_law_draw T.F_law_draw.kp T.b_law_draw .nil pass0 (pa_cons (pv 0) (pa_cons pe_int pa_nil))) pe_int (nomark _))
    (pss_one (ps_set (i := 2) sc_law_any_system.nd rfl (by first | exact Or.inl rfl | exact Or.inr rfl) (pe_call (ok_law_draw T) (hr.mono (by omega)) (by rfl) T.g_law_draw T.F_law_draw.kp T.b_law_draw .nil pass0 (pa_cons (pv 0) (pa_cons (pe_op (dAdd K) (pv 1) pe_int) pa_nil)))))
    pss_nil)
   (pss_cons (ps_if (pt_cmpR dLt (pv 2) pe_int (nomark _))
    (pss_one (ps_ret (pe_tup (pa_cons (pv 2) (pa_cons (pe_tup pa_nil) (pa_cons (pe_tup pa_nil) pa_nil))))))
    pss_nil)
   (pss_cons (ps_set (i := 3) sc_law_any_system.nd rfl (by first | exact Or.inl rfl | exact Or.inr rfl) (pe_callB (dMax2 rfl) (by rfl) T.n_max (by decide +kernel) (pa_cons pe_int (pa_cons (pe_op dMul pe_int (pv 2)) pa_nil))))
   (C8.pss_cut (ps_if (pt_cmpR dEq (pe_call (ok_law_draw T) (hr.mono (by omega)) (by rfl) T.g_law_draw T.F_law_draw.kp T.b_law_draw .nil pass0 (pa_cons (pv 0) (pa_cons pe_int pa_nil))) pe_int (nomark _))
    (pss_one (ps_set (i := 3) sc_law_any_system.nd rfl (by first | exact Or.inl rfl | exact Or.inr rfl) pe_int))
    pss_nil)
   (pss_cons (ps_set (i := 4) sc_law_any_system.nd rfl (by first | exact Or.inl rfl | exact Or.inr rfl) (pe_cmpR dEq (pe_call (ok_law_draw T) (hr.mono (by omega)) (by rfl) T.g_law_draw T.F_law_draw.kp T.b_law_draw .nil pass0 (pa_cons (pv 0) (pa_cons pe_int pa_nil))) pe_int (nomark _)))
   (pss_cons (ps_set (i := 5) sc_law_any_system.nd rfl (by first | exact Or.inl rfl | exact Or.inr rfl) (pe_ix (dIx K) (pe_lst (pa_cons pe_int (pa_cons pe_int (pa_cons pe_int (pa_cons pe_int pa_nil))))) (pe_call (ok_law_draw T) (hr.mono (by omega)) (by rfl) T.g_law_draw T.F_law_draw.kp T.b_law_draw .nil pass0 (pa_cons (pv 0) (pa_cons pe_int pa_nil))) (fun _ _ => rfl)))
   (pss_cons (ps_setLc (i := 6) (own := [("x", 7)]) (g := gName 7) (tt := tYes) rfl sc_law_any_system.nd rfl rfl (sw_true rfl rfl rfl (by decide +kernel)) (pi_range1 rfl T.n_range (pa_cons (pv 2) pa_nil)) (blkOk_by (own := [("x", 7)]) (N := ["bag", "most", "count", "rows", "wild", "stretch", "hidden", "x", "bounds", "k", "ends", "gap", "less", "pulls", "bounds_told", "heavy"]) (sc := defScope s_law_any_system) (by decide +kernel)) (fun _ _ _ _ _ => (pg_name (i := 7) sc_law_any_system.nd rfl (by first | exact Or.inl rfl | exact Or.inr rfl))) (fun _ _ _ _ _ => pts_nil) (fun _ _ _ _ _ => (pe_op dMul (pv 5) (pe_call (ok_law_draw T) (hr.mono (by omega)) (by rfl) T.g_law_draw T.F_law_draw.kp T.b_law_draw .nil pass0 (pa_cons (pv 0) (pa_cons pe_int pa_nil))))))
   (pss_cons (ps_set (i := 8) sc_law_any_system.nd rfl (by first | exact Or.inl rfl | exact Or.inr rfl) (pe_lst pa_nil))
   (pss_cons (ps_for PassesOwn.never rfl (pi_range1 rfl T.n_range (pa_cons (pe_call (ok_law_draw T) (hr.mono (by omega)) (by rfl) T.g_law_draw T.F_law_draw.kp T.b_law_draw .nil pass0 (pa_cons (pv 0) (pa_cons (pv 3) pa_nil))) pa_nil)) (pg_name (i := 9) sc_law_any_system.nd rfl (by first | exact Or.inl rfl | exact Or.inr rfl))
    (pss_cons (ps_set (i := 10) sc_law_any_system.nd rfl (by first | exact Or.inl rfl | exact Or.inr rfl) (pe_call (ok_law_ends T) (hr.mono (by omega)) (by rfl) T.g_law_ends T.F_law_ends.kp T.b_law_ends .nil pass0 (pa_cons (pv 0) (pa_cons (pv 2) pa_nil))))
    (pss_cons (ps_set (i := 11) sc_law_any_system.nd rfl (by first | exact Or.inl rfl | exact Or.inr rfl) (pe_call (ok_law_gap T) (hr.mono (by omega)) (by rfl) T.g_law_gap T.F_law_gap.kp T.b_law_gap .nil pass0 (pa_cons (pv 0) pa_nil)))
    (pss_cons (ps_set (i := 12) sc_law_any_system.nd rfl (by first | exact Or.inl rfl | exact Or.inr rfl) (pe_ix (dIx K) (pe_lst (pa_cons pe_int (pa_cons pe_int (pa_cons pe_int (pa_cons (pe_callB dAbs (by rfl) T.n_abs (by decide +kernel) (pa_cons (pv 11) pa_nil)) pa_nil))))) (pe_call (ok_law_draw T) (hr.mono (by omega)) (by rfl) T.g_law_draw T.F_law_draw.kp T.b_law_draw .nil pass0 (pa_cons (pv 0) (pa_cons pe_int pa_nil))) (fun _ _ => rfl)))
    (pss_cons (ps_if (pt_not (pt_val (pv 4)))
     (pss_one (ps_set (i := 11) sc_law_any_system.nd rfl (by first | exact Or.inl rfl | exact Or.inr rfl) (pe_callB (dMax2 rfl) (by rfl) T.n_max (by decide +kernel) (pa_cons (pe_op dSub pe_int pe_int) (pa_cons (pe_op dSub (pe_op dSub (pe_ix (dIx K) (pv 6) (pe_ix (dIx K) (pv 10) pe_int (fun _ _ => rfl)) (fun _ _ => rfl)) (pe_ix (dIx K) (pv 6) (pe_ix (dIx K) (pv 10) pe_int (fun _ _ => rfl)) (fun _ _ => rfl))) (pv 12)) pa_nil)))))
     pss_nil)
    (pss_one (ps_expr (pe_bm PySem.F.plainAttrs_list PySem.F.slot_list_append PySem.F.type_list_append mt_append (pv 8) (pa_cons (pe_tup (pa_cons (pe_ix (dIx K) (pv 10) pe_int (fun _ _ => rfl)) (pa_cons (pe_ix (dIx K) (pv 10) pe_int (fun _ _ => rfl)) (pa_cons (pv 11) pa_nil)))) pa_nil)))))))))
   (pss_cons (ps_set (i := 13) sc_law_any_system.nd rfl (by first | exact Or.inl rfl | exact Or.inr rfl) (pe_lst pa_nil))
   (pss_cons (ps_set (i := 14) sc_law_any_system.nd rfl (by first | exact Or.inl rfl | exact Or.inr rfl) (pe_call (ok_law_doubled T) (hr.mono (by omega)) (by rfl) T.g_law_doubled T.F_law_doubled.kp T.b_law_doubled .nil pass0 (pa_cons (pv 0) (pa_cons (pv 8) pa_nil))))
   (pss_cons (ps_for PassesOwn.never rfl (pi_range1 rfl T.n_range (pa_cons (pe_call (ok_law_draw T) (hr.mono (by omega)) (by rfl) T.g_law_draw T.F_law_draw.kp T.b_law_draw .nil pass0 (pa_cons (pv 0) (pa_cons (pv 3) pa_nil))) pa_nil)) (pg_name (i := 9) sc_law_any_system.nd rfl (by first | exact Or.inl rfl | exact Or.inr rfl))
    (pss_cons (ps_set (i := 10) sc_law_any_system.nd rfl (by first | exact Or.inl rfl | exact Or.inr rfl) (pe_call (ok_law_ends T) (hr.mono (by omega)) (by rfl) T.g_law_ends T.F_law_ends.kp T.b_law_ends .nil pass0 (pa_cons (pv 0) (pa_cons (pv 2) pa_nil))))
    (pss_cons (ps_set (i := 11) sc_law_any_system.nd rfl (by first | exact Or.inl rfl | exact Or.inr rfl) (pe_call (ok_law_gap T) (hr.mono (by omega)) (by rfl) T.g_law_gap T.F_law_gap.kp T.b_law_gap .nil pass0 (pa_cons (pv 0) pa_nil)))
    (pss_cons (ps_set (i := 15) sc_law_any_system.nd rfl (by first | exact Or.inl rfl | exact Or.inr rfl) (pe_ix (dIx K) (pe_lst (pa_cons pe_int (pa_cons pe_int (pa_cons pe_int (pa_cons (pe_call (ok_law_draw T) (hr.mono (by omega)) (by rfl) T.g_law_draw T.F_law_draw.kp T.b_law_draw .nil pass0 (pa_cons (pv 0) (pa_cons pe_int pa_nil))) pa_nil))))) (pe_call (ok_law_draw T) (hr.mono (by omega)) (by rfl) T.g_law_draw T.F_law_draw.kp T.b_law_draw .nil pass0 (pa_cons (pv 0) (pa_cons pe_int pa_nil))) (fun _ _ => rfl)))
    (pss_one (ps_expr (pe_bm PySem.F.plainAttrs_list PySem.F.slot_list_append PySem.F.type_list_append mt_append (pv 13) (pa_cons (pe_tup (pa_cons (pe_ix (dIx K) (pv 10) pe_int (fun _ _ => rfl)) (pa_cons (pe_ix (dIx K) (pv 10) pe_int (fun _ _ => rfl)) (pa_cons (pv 11) (pa_cons (pv 15) pa_nil))))) pa_nil))))))))
   (pss_one (ps_ret (pe_tup (pa_cons (pv 2) (pa_cons (pv 14) (pa_cons (pe_call (ok_law_doubled T) (hr.mono (by omega)) (by rfl) T.g_law_doubled T.F_law_doubled.kp T.b_law_doubled .nil pass0 (pa_cons (pv 0) (pa_cons (pv 13) pa_nil))) pa_nil))))))))))))))))))), ?_⟩
    walk_at "rd"
    refine ⟨b, c, cs, 5, rfl, by decide, by decide, B, fun H1 r f1 B1 r0 r1 => ?_⟩
    obtain ⟨k, rfl⟩ := Int.eq_ofNat_of_zero_le r0
    walk_at "rd"
    refine ⟨fun σ H' => ∃ n : Nat, σ = [some (.ref b), some (.int m), some (.int n), none, none, none, none, none, none, none, none, none, none, none, none, none] ∧ Off b H H' ∧ BagAt b c cs H' ∧ n ≤ 1000, ?_, ?_⟩
    · walk_at "rd"
      refine ⟨b, c, cs, 16, rfl, by decide, by decide, B1, fun H2 r f2 B2 r0 r1 => ?_⟩
      walk_at "rd"
      · refine ⟨b, c, cs, _, rfl, by omega, Int.lt_of_le_of_lt (show (m : Int) + 1 ≤ 2000 by omega) (by decide), B2, fun H3 r f3 B3 r0 r1 => ?_⟩
        obtain ⟨k, rfl⟩ := Int.eq_ofNat_of_zero_le r0
        walk_at "rd"
        exact ⟨k, rfl, (f1.trans f2).trans f3, B3, by omega⟩
      · exact ⟨2 + k, rfl, f1.trans f2, B2, by omega⟩
    · rintro σ H2 ⟨n, rfl, f2, B2, hn⟩
      walk_at "rd"
      · rename_i p1 hp1 p2 hp2 p3 hp3
        have n13 : p1 ≠ p3 := ne_of_none (hp_new hp2 upd_same) hp3
        have n23 : p2 ≠ p3 := ne_of_none upd_same hp3
        exact q _ _ n [] [] (((f2.new hp1).new hp2).new hp3) (((B2.new hp1).new hp2).new hp3) ⟨p3, p1, p2, [], [], rfl, upd_same, hp_set n13 (hp_new hp2 upd_same), .nil, hp_set n23 upd_same, .nil⟩ (fun _ h => nomatch h) (fun _ h => nomatch h) hn (Nat.zero_le _) (Nat.zero_le _)
      · rename_i hn2
        refine ⟨fun σ H' => ∃ R : Int, σ = [some (.ref b), some (.int m), some (.int n), some (.int R), none, none, none, none, none, none, none, none, none, none, none, none] ∧ Off b H H' ∧ BagAt b c cs H' ∧ 0 < R ∧ R ≤ 2900, ?_, ?_⟩
        · walk_at "rd"
          refine ⟨b, c, cs, 16, rfl, by decide, by decide, B2, fun H3 r f3 B3 r0 r1 => ?_⟩
          walk_at "rd"
          · exact ⟨_, rfl, f2.trans f3, B3, by decide, by decide⟩
          · exact ⟨_, rfl, f2.trans f3, B3, by split <;> omega, by split <;> omega⟩
        · rintro σ H3 ⟨R, rfl, f3, B3, R0, R1⟩
          walk_at "rd"
          refine ⟨b, c, cs, 3, rfl, by decide, by decide, B3, fun H4 r4 f4 B4 _ _ => ?_⟩
          walk_at "rd"
          rename_i p hp
          refine ⟨b, c, cs, 4, rfl, by decide, by decide, B4.new hp, fun H5 r5 f5 B5 r50 r51 => ?_⟩
          have g5 : OffG b H H5 := ((f3.trans f4).new hp).trans f5
          obtain ⟨v, hv, st, rfl, st0, st1⟩ := at_all (xs := [.int 1, .int 1, .int 1, .int 50000]) (P := fun v => ∃ i : Int, v = .int i ∧ 0 ≤ i ∧ i ≤ 50000) (by
            intro v hv
            simp only [List.mem_cons, List.not_mem_nil, or_false] at hv
            rcases hv with rfl | rfl | rfl | rfl <;> exact ⟨_, rfl, by decide, by decide⟩) r50 r51
          walk_at "rd"
          refine lc_draw (b := b) (c := c) (cs := cs) (n := n) (fun y => ∃ i : Int, y = .int i ∧ 0 ≤ i ∧ i ≤ 500000) (by omega) (fun Qe h => ?_) B5 (fun _ => rfl) ?_ ?_
          · walk_at "rd"; exact h
          · intro i H6 hi f6 B6 Qe hq
            walk_at "rd"
            refine ⟨b, c, cs, 10, rfl, by decide, by decide, B6, fun H7 r f7 B7 r0 r1 => ?_⟩
            walk_at "rd"
            refine hq _ _ f7 B7 ⟨_, rfl, Int.mul_nonneg st0 r0, ?_⟩
            have := Int.mul_le_mul st1 (show r ≤ 10 by omega) r0 (by decide)
            omega
          · intro h ys H6 hh f6 B6 e6 hly hP
            obtain ⟨hid, rfl, hhid⟩ : ∃ hid : List Int, ys = hid.map V.int ∧ ∀ i ∈ hid, 0 ≤ i ∧ i ≤ 500000 := by
              clear e6 hly
              induction ys with
              | nil => exact ⟨[], rfl, fun _ h => nomatch h⟩
              | cons y r ih =>
                obtain ⟨l, rfl, hl⟩ := ih fun y hy => hP y (List.mem_cons_of_mem _ hy)
                obtain ⟨i, rfl, h0, h1⟩ := hP y (List.mem_cons_self ..)
                exact ⟨i :: l, rfl, fun j hj => by
                  rcases List.mem_cons.mp hj with rfl | hj
                  · exact ⟨h0, h1⟩
                  · exact hl j hj⟩
            have hlen : hid.length = n := by simpa using hly
            have hget : ∀ k, 0 ≤ hid.getD k 0 ∧ hid.getD k 0 ≤ 500000 := fun k => by
              rw [List.getD_eq_getElem?_getD]
              cases e : hid[k]? with
              | none => exact ⟨by decide, by decide⟩
              | some x => exact hhid x (List.mem_of_getElem? e)
            have g6 : OffG b H H6 := Off.trans g5 f6
            have hb : h ≠ b := B5.ne hh
            have hc : h ≠ c := B5.ne2 hh
            have h0 : H h = none := Off.fresh g5 hb hh
            walk_at "rd"
            rename_i l hl
            have lb : l ≠ b := B6.ne hl
            have lc : l ≠ c := B6.ne2 hl
            have hnl : h ≠ l := ne_of_none e6 hl
            have l0 : H l = none := Off.fresh g6 lb hl
            refine ⟨b, c, cs, R, rfl, R0, Int.lt_of_le_of_lt (show R ≤ 3000 by omega) (by decide), B6.new hl, fun H7 r7 f7 B7 r70 r71 => ?_⟩
            obtain ⟨k7, rfl⟩ := Int.eq_ofNat_of_zero_le r70
            refine ⟨_, rfl, by omega, by omega, ?_⟩
            refine for_range (lo := 0) (n := k7) (fun i σ H' => ∃ (x9 x10 x11 x12 : Option V) (vs : List V) (rs : List (List Int)), σ = [some (.ref b), some (.int m), some (.int n), some (.int R), some (.bl (decide (r4 = 0))), some (.int st), some (.ref h), none, some (.ref l), x9, x10, x11, x12, none, none, none] ∧
              Off b H H' ∧ BagAt b c cs H' ∧ H' h = some (.lst (hid.map V.int)) ∧ H' l = some (.lst vs) ∧ RowsAt H' vs rs ∧ OkB n rs ∧ rs.length = i)
              ⟨none, none, none, none, [], [], rfl, (Off.new g6 hl).trans f7, B7, f7.get hb (hp_new hl e6), f7.get lb upd_same, .nil, OkB.nil n, rfl⟩ ?_ ?_
            · rintro i σ H8 hi ⟨x9, x10, x11, x12, vs, rs, rfl, f8, B8, eh8, el8, rw8, ok8, len8⟩
              have lenv := Paired.len rw8
              walk_at "rd"
              refine ⟨b, c, cs, n, rfl, by omega, by omega, B8, fun H9 a s e f9 B9 ea9 s0 s1 e0 e1 sne => ?_⟩
              walk_at "rd"
              refine ⟨b, c, cs, rfl, B9, fun H10 g f10 B10 g0 g1 => ?_⟩
              walk_at "rd"
              rename_i p hp
              refine ⟨b, c, cs, 4, rfl, by decide, by decide, B10.new hp, fun H11 r11 f11 B11 r110 r111 => ?_⟩
              obtain ⟨v, hv, ls, rfl, ls0, ls1⟩ := at_all (xs := [.int 0, .int 0, .int 1, .int (if g < 0 then -g else g)]) (P := fun v => ∃ i : Int, v = .int i ∧ 0 ≤ i ∧ i ≤ 1000000) (by
                intro v hv
                simp only [List.mem_cons, List.not_mem_nil, or_false] at hv
                rcases hv with rfl | rfl | rfl | rfl
                · exact ⟨_, rfl, by decide, by decide⟩
                · exact ⟨_, rfl, by decide, by decide⟩
                · exact ⟨_, rfl, by decide, by decide⟩
                · exact ⟨_, rfl, by split <;> omega, by split <;> omega⟩) r110 r111
              have g11 : OffG b H8 H11 := ((f9.trans f10).new hp).trans f11
              have t11 : TS H8 H11 := B8.ts g11
              have ea11 : H11 a = some (.tup [.int s, .int e]) := ((B9.ts ((f10.new hp).trans f11))) _ _ ea9
              have eh11 := Off.get g11 hb eh8
              have el11 := Off.get g11 lb el8
              have hls : e < ((hid.map V.int).length : Int) := by rw [List.length_map, hlen]; exact e1
              have hls2 : s < ((hid.map V.int).length : Int) := by rw [List.length_map, hlen]; exact s1
              have k1 := hget e.toNat
              have k2 := hget s.toNat
              have fin : ∀ (G : Int) (t : Addr) (x : V), -1000000000 ≤ G → G ≤ 1000000000 → H11 t = none → ∃ (x9 x10 x11 x12 : Option V) (vs' : List V) (rs' : List (List Int)), [some (.ref b), some (.int m), some (.int n), some (.int R), some (.bl (decide (r4 = 0))), some (.int st), some (.ref h), none, some (.ref l), some x, some (.ref a), some (.int G), some (.int ls), none, none, none] = [some (.ref b), some (.int m), some (.int n), some (.int R), some (.bl (decide (r4 = 0))), some (.int st), some (.ref h), none, some (.ref l), x9, x10, x11, x12, none, none, none] ∧
                  Off b H (upd (upd H11 t (.tup [.int s, .int e, .int G])) l (.lst (vs ++ [.ref t]))) ∧ BagAt b c cs (upd (upd H11 t (.tup [.int s, .int e, .int G])) l (.lst (vs ++ [.ref t]))) ∧ (upd (upd H11 t (.tup [.int s, .int e, .int G])) l (.lst (vs ++ [.ref t]))) h = some (.lst (hid.map V.int)) ∧ (upd (upd H11 t (.tup [.int s, .int e, .int G])) l (.lst (vs ++ [.ref t]))) l = some (.lst vs') ∧ RowsAt (upd (upd H11 t (.tup [.int s, .int e, .int G])) l (.lst (vs ++ [.ref t]))) vs' rs' ∧ OkB n rs' ∧ rs'.length = i + 1 := by
                intro G t x G0 G1 ht
                have tl : t ≠ l := (ne_of_none el11 ht).symm
                refine ⟨_, _, _, _, vs ++ [.ref t], rs ++ [[s, e, G]], rfl, ((f8.trans g11).new ht).mut l0, (B11.new ht).put lb lc, hp_set hnl (hp_new ht eh11), upd_same, ?_, ?_, by simp [len8]⟩
                · exact (rw8.ts ((t11.new ht).put (hp_new ht el11))).snoc ⟨t, rfl, hp_set tl upd_same⟩
                · intro r hr
                  rcases List.mem_append.mp hr with hr | hr
                  · exact ok8 r hr
                  · exact ⟨s, e, G, List.mem_singleton.mp hr, s0, s1, e0, e1, sne, G0, G1⟩
              walk_at "rd"
              · exact fin _ _ _ (by split <;> omega) (by split <;> omega) (by assumption)
              · exact fin _ _ _ (by omega) (by omega) (by assumption)
            · rintro σ H8 ⟨x9, x10, x11, x12, vs, rs, rfl, f8, B8, eh8, el8, rw8, ok8, len8⟩
              have lenv := Paired.len rw8
              walk_at "rd"
              rename_i pl hpl
              have plb : pl ≠ b := B8.ne hpl
              have plc : pl ≠ c := B8.ne2 hpl
              have lpl : l ≠ pl := ne_of_none el8 hpl
              have hpln : h ≠ pl := ne_of_none eh8 hpl
              have pl0 : H pl = none := f8.fresh plb hpl
              refine ⟨b, c, cs, l, vs, rfl, B8.new hpl, hp_new hpl el8, lb, lc, by omega, fun H9 a9 ys9 o9 B9 t9 ea9 hy9 => ?_⟩
              have g9 : OffG b H H9 := o9.off (f8.new hpl) l0
              have epl9 := o9 _ _ plb lpl.symm upd_same
              obtain ⟨bs, rb9, hbs⟩ := (rw8.ts (((TS.refl H8).new hpl).trans t9)).dbl hy9
              obtain ⟨okb, lenb⟩ := ok8.dbl hbs
              walk_at "rd"
              refine ⟨b, c, cs, R, rfl, R0, Int.lt_of_le_of_lt (show R ≤ 3000 by omega) (by decide), B9, fun H10 r10 f10 B10 r100 r101 => ?_⟩
              obtain ⟨k10, rfl⟩ := Int.eq_ofNat_of_zero_le r100
              refine ⟨_, rfl, by omega, by omega, ?_⟩
              refine for_range (lo := 0) (n := k10) (fun i σ H' => ∃ (x9 x10 x11 x12 x15 : Option V) (vs' : List V) (ps : List (List Int)), σ = [some (.ref b), some (.int m), some (.int n), some (.int R), some (.bl (decide (r4 = 0))), some (.int st), some (.ref h), none, some (.ref l), x9, x10, x11, x12, some (.ref pl), some (.ref a9), x15] ∧
                Off b H H' ∧ BagAt b c cs H' ∧ H' pl = some (.lst vs') ∧ RowsAt H' vs' ps ∧ OkP n ps ∧ ps.length = i ∧ TS H9 H')
                ⟨_, _, _, _, _, [], [], rfl, Off.trans g9 f10, B10, f10.get plb epl9, .nil, OkP.nil n, rfl, B9.ts f10⟩ ?_ ?_
              · rintro i σ H11 hi ⟨x9, x10, x11, x12, x15, vs', ps, rfl, f11, B11, ep11, rw11, ok11, len11, t11⟩
                have lenv' := Paired.len rw11
                walk_at "rd"
                refine ⟨b, c, cs, n, rfl, by omega, by omega, B11, fun H12 a s e f12 B12 ea12 s0 s1 e0 e1 sne => ?_⟩
                walk_at "rd"
                refine ⟨b, c, cs, rfl, B12, fun H13 g f13 B13 g0 g1 => ?_⟩
                walk_at "rd"
                refine ⟨b, c, cs, 100, rfl, by decide, by decide, B13, fun H14 r14 f14 B14 r140 r141 => ?_⟩
                walk_at "rd"
                rename_i p hp
                refine ⟨b, c, cs, 4, rfl, by decide, by decide, B14.new hp, fun H15 r15 f15 B15 r150 r151 => ?_⟩
                obtain ⟨v, hv, hw, rfl, hw0, hw1⟩ := at_all (xs := [.int 0, .int 1, .int 2, .int r14]) (P := fun v => ∃ i : Int, v = .int i ∧ 0 ≤ i ∧ i ≤ 99) (by
                  intro v hv
                  simp only [List.mem_cons, List.not_mem_nil, or_false] at hv
                  rcases hv with rfl | rfl | rfl | rfl
                  · exact ⟨_, rfl, by decide, by decide⟩
                  · exact ⟨_, rfl, by decide, by decide⟩
                  · exact ⟨_, rfl, by decide, by decide⟩
                  · exact ⟨_, rfl, by omega, by omega⟩) r150 r151
                have g15 : OffG b H11 H15 := (((f12.trans f13).trans f14).new hp).trans f15
                have t15 : TS H11 H15 := B11.ts g15
                have ea15 : H15 a = some (.tup [.int s, .int e]) := (B12.ts (((f13.trans f14).new hp).trans f15)) _ _ ea12
                have ep15 := Off.get g15 plb ep11
                walk_at "rd"
                rename_i t ht
                have tl : t ≠ pl := (ne_of_none ep15 ht).symm
                refine ⟨_, _, _, _, _, vs' ++ [.ref t], ps ++ [[s, e, g, hw]], rfl, ((Off.trans f11 g15).new ht).mut pl0, (B15.new ht).put plb plc, upd_same, ?_, ?_, by simp [len11], (t11.trans ((t15.new ht).put (hp_new ht ep15)))⟩
                · exact (rw11.ts ((t15.new ht).put (hp_new ht ep15))).snoc ⟨t, rfl, hp_set tl upd_same⟩
                · intro r hr
                  rcases List.mem_append.mp hr with hr | hr
                  · exact ok11 r hr
                  · exact ⟨s, e, g, hw, List.mem_singleton.mp hr, s0, s1, e0, e1, sne, by omega, by omega, hw0, hw1⟩
              · rintro σ H11 ⟨x9, x10, x11, x12, x15, vs', ps, rfl, f11, B11, ep11, rw11, ok11, len11, t11⟩
                have lenv' := Paired.len rw11
                walk_at "rd"
                refine ⟨b, c, cs, pl, vs', rfl, B11, ep11, plb, plc, by omega, fun H12 a12 ys12 o12 B12 t12 ea12 hy12 => ?_⟩
                obtain ⟨ps', rp12, hps⟩ := (rw11.ts t12).dbl hy12
                obtain ⟨okp, lenp⟩ := ok11.dbl hps
                walk_at "rd"
                rename_i p hp
                have t9' := t11.trans t12
                have na : a9 ≠ p := ne_of_none (t9' _ _ ea9) hp
                have na2 : a12 ≠ p := ne_of_none ea12 hp
                exact q _ _ n bs ps' ((o12.off f11 pl0).new hp) (B12.new hp) ⟨p, a9, a12, ys9, ys12, rfl, upd_same, hp_set na (t9' _ _ ea9), rb9.ts ((t9').new hp), hp_set na2 ea12, rp12.ts ((TS.refl _).new hp)⟩ okb okp hn (by omega) (by omega)
end
section
variable {P : Program} {w : World} {K : PySem.W.Frag} {mg : Str → Option Value} {base : Heap}
theorem ints_pair {α : Type} : ∀ {ys : List V} {ps : List α}, Paired (fun y _ => ∃ i : Int, y = V.int i) ys ps → ∃ l : List Int, ys = l.map V.int ∧ l.length = ps.length
  | _, _, .nil => ⟨[], rfl, rfl⟩
  | _, _, .cons ⟨i, h⟩ t => by
    obtain ⟨l, e, n⟩ := ints_pair t
    exact ⟨i :: l, by rw [h, e]; rfl, by simp [n]⟩
theorem zeros (n : Nat) : (List.range n).map (fun _ => V.int 0) = (List.replicate n (0 : Int)).map V.int := by
  rw [List.map_const', List.length_range, List.map_replicate]
def spLaw (K : PySem.W.Frag) : Sp := fun vs H Q _ => ∃ (a : Addr) (ns : List Int), vs = [.ref a] ∧ SqL K H a (ns.map V.int) ∧ ns.length ≤ 63 ∧ ∀ H', Q (.bl true) H'
theorem ok_law (T : Txt K mg) {f : Addr} {fd : FuncData} (F : Fun K "law" "law" s_law f fd) : FnOk P w K mg base CX0 6 f fd ["script"] (spLaw K) := by
  refine F.ok sc_law (fun vs H Q E h => ?_) (fun cdv A outer s H vs Q E hr h => ?_)
  · obtain ⟨a, ns, rfl, _⟩ := h
    rfl
  · obtain ⟨a, ns, rfl, hS, hlen, q⟩ := h
    refine ⟨_, (pss_cons (ps_set (i := 1) sc_law.nd rfl (by first | exact Or.inl rfl | exact Or.inr rfl) (pe_call (ok_law_bag T) (hr.mono (by omega)) (by rfl) T.g_law_bag T.F_law_bag.kp T.b_law_bag .nil pass0 (pa_cons (pv 0) pa_nil)))
   (pss_cons (ps_set (i := 2) sc_law.nd rfl (by first | exact Or.inl rfl | exact Or.inr rfl) (pe_call (ok_law_any_system T) (hr.mono (by omega)) (by rfl) T.g_law_any_system T.F_law_any_system.kp T.b_law_any_system .nil pass0 (pa_cons (pv 1) (pa_cons pe_int pa_nil))))
   (C8.pss_cut (ps_if (PW.pt (pw_and (pt_cmpR dGe (pe_ix (dIx K) (pv 2) pe_int (fun _ _ => rfl)) pe_int (nomark _)) (pw_and1 (pt_cmpR dGt (pe_call (ok_law_draw T) (hr.mono (by omega)) (by rfl) T.g_law_draw T.F_law_draw.kp T.b_law_draw .nil pass0 (pa_cons (pv 1) (pa_cons pe_int pa_nil))) pe_int (nomark _)))))
    (pss_cons (ps_set (i := 3) sc_law.nd rfl (by first | exact Or.inl rfl | exact Or.inr rfl) (pe_call (ok_law_loaded T) (hr.mono (by omega)) (by rfl) T.g_law_loaded T.F_law_loaded.kp T.b_law_loaded .nil pass0 (pa_cons (pv 1) (pa_cons (pv 2) pa_nil))))
    (pss_cons (ps_set (i := 2) sc_law.nd rfl (by first | exact Or.inl rfl | exact Or.inr rfl) (pe_ix (dIx K) (pv 3) pe_int (fun _ _ => rfl)))
    (pss_cons (ps_set (i := 4) sc_law.nd rfl (by first | exact Or.inl rfl | exact Or.inr rfl) (pe_ix (dIx K) (pv 3) pe_int (fun _ _ => rfl)))
    (pss_one (ps_expr (pe_call (ok_law_bent T) (hr.mono (by omega)) (by rfl) T.g_law_bent T.F_law_bent.kp T.b_law_bent .nil pass0 (pa_cons (pv 1) (pa_cons (pv 4) pa_nil))))))))
    (pss_one (ps_set (i := 4) sc_law.nd rfl (by first | exact Or.inl rfl | exact Or.inr rfl) (pe_lst (pa_cons (pe_lc (own := [("p", 5)]) (g := gName 5) (tt := tYes) rfl sc_law.nd  (dpi_tup K (pe_ix (dIx K) (pv 2) pe_int (fun _ _ => rfl))) (blkOk_by (own := [("p", 5)]) (N := ["script", "bag", "system", "pair", "loads", "p", "b", "still", "forces", "told", "value"]) (sc := defScope s_law) (by decide +kernel)) (fun _ _ _ _ _ => (pg_name (i := 5) sc_law.nd rfl (by first | exact Or.inl rfl | exact Or.inr rfl))) (fun _ _ _ _ _ => pts_nil) (fun _ _ _ _ _ => (pe_call (ok_law_force T) (hr.mono (by omega)) (by rfl) T.g_law_force T.F_law_force.kp T.b_law_force .nil pass0 (pa_cons (pv 1) pa_nil)))) (pa_cons (pe_lc (own := [("b", 6)]) (g := gName 6) (tt := tYes) rfl sc_law.nd  (dpi_tup K (pe_ix (dIx K) (pv 2) pe_int (fun _ _ => rfl))) (blkOk_by (own := [("b", 6)]) (N := ["script", "bag", "system", "pair", "loads", "p", "b", "still", "forces", "told", "value"]) (sc := defScope s_law) (by decide +kernel)) (fun _ _ _ _ _ => (pg_name (i := 6) sc_law.nd rfl (by first | exact Or.inl rfl | exact Or.inr rfl))) (fun _ _ _ _ _ => pts_nil) (fun _ _ _ _ _ => (pe_call (ok_law_force T) (hr.mono (by omega)) (by rfl) T.g_law_force T.F_law_force.kp T.b_law_force .nil pass0 (pa_cons (pv 1) pa_nil)))) pa_nil))))))
   (pss_cons (ps_set (i := 7) sc_law.nd rfl (by first | exact Or.inl rfl | exact Or.inr rfl) (pe_lst (pa_cons (pe_lc (own := [("p", 5)]) (g := gName 5) (tt := tYes) rfl sc_law.nd  (dpi_tup K (pe_ix (dIx K) (pv 2) pe_int (fun _ _ => rfl))) (blkOk_by (own := [("p", 5)]) (N := ["script", "bag", "system", "pair", "loads", "p", "b", "still", "forces", "told", "value"]) (sc := defScope s_law) (by decide +kernel)) (fun _ _ _ _ _ => (pg_name (i := 5) sc_law.nd rfl (by first | exact Or.inl rfl | exact Or.inr rfl))) (fun _ _ _ _ _ => pts_nil) (fun _ _ _ _ _ => pe_int)) (pa_cons (pe_lc (own := [("b", 6)]) (g := gName 6) (tt := tYes) rfl sc_law.nd  (dpi_tup K (pe_ix (dIx K) (pv 2) pe_int (fun _ _ => rfl))) (blkOk_by (own := [("b", 6)]) (N := ["script", "bag", "system", "pair", "loads", "p", "b", "still", "forces", "told", "value"]) (sc := defScope s_law) (by decide +kernel)) (fun _ _ _ _ _ => (pg_name (i := 6) sc_law.nd rfl (by first | exact Or.inl rfl | exact Or.inr rfl))) (fun _ _ _ _ _ => pts_nil) (fun _ _ _ _ _ => pe_int)) pa_nil))))
   (pss_cons (ps_for PassesOwn.never rfl (dpi_list K (pe_lst (pa_cons (pv 4) (pa_cons (pv 7) (pa_cons (pv 4) pa_nil))))) (pg_name (i := 8) sc_law.nd rfl (by first | exact Or.inl rfl | exact Or.inr rfl))
    (pss_cons (ps_set (i := 9) sc_law.nd rfl (by first | exact Or.inl rfl | exact Or.inr rfl) (pe_call (ok_is_balanced T) (hr.mono (by omega)) (by rfl) T.g_is_balanced T.F_is_balanced.kp T.b_is_balanced .nil pass0 (pa_cons (pv 2) (pa_cons (pe_tup (pa_cons (pe_callTy (dTuple K) (by rfl) T.n_tuple (by decide +kernel) (pa_cons (pe_ix (dIx K) (pv 8) pe_int (fun _ _ => rfl)) pa_nil)) (pa_cons (pe_callTy (dTuple K) (by rfl) T.n_tuple (by decide +kernel) (pa_cons (pe_ix (dIx K) (pv 8) pe_int (fun _ _ => rfl)) pa_nil)) pa_nil))) pa_nil))))
    (pss_cons (ps_if (PW.pt (pw_or (pt_not (pt_val (pe_callB (dIsi K) (by rfl) T.n_isinstance (by decide +kernel) (pa_cons (pv 9) (pa_cons (pe_bltn (v := .ty "bool") (u := .type "bool") (by rfl) T.n_bool (by decide +kernel) rfl) pa_nil))))) (pw_or1 (pt_cmpR dNe (pv 9) (pe_call (ok_law_even T) (hr.mono (by omega)) (by rfl) T.g_law_even T.F_law_even.kp T.b_law_even .nil pass0 (pa_cons (pv 2) (pa_cons (pv 8) pa_nil))) (nomark _)))))
     (pss_one (ps_ret pe_bl))
     pss_nil)
    (pss_cons (ps_set (i := 10) sc_law.nd rfl (by first | exact Or.inl rfl | exact Or.inr rfl) (pe_call (ok_worth T) (hr.mono (by omega)) (by rfl) T.g_worth T.F_worth.kp T.b_worth .nil pass0 (pa_cons (pv 2) (pa_cons (pe_tup (pa_cons (pe_callTy (dTuple K) (by rfl) T.n_tuple (by decide +kernel) (pa_cons (pe_ix (dIx K) (pv 8) pe_int (fun _ _ => rfl)) pa_nil)) (pa_cons (pe_callTy (dTuple K) (by rfl) T.n_tuple (by decide +kernel) (pa_cons (pe_ix (dIx K) (pv 8) pe_int (fun _ _ => rfl)) pa_nil)) pa_nil))) pa_nil))))
    (pss_one (ps_if (PW.pt (pw_or (pt_not (pt_val (pe_call (ok_law_whole T) (hr.mono (by omega)) (by rfl) T.g_law_whole T.F_law_whole.kp T.b_law_whole .nil pass0 (pa_cons (pv 10) pa_nil)))) (pw_or1 (pt_cmpR dNe (pv 10) (pe_call (ok_law_due_worth T) (hr.mono (by omega)) (by rfl) T.g_law_due_worth T.F_law_due_worth.kp T.b_law_due_worth .nil pass0 (pa_cons (pv 2) (pa_cons (pv 8) pa_nil))) (nomark _)))))
     (pss_one (ps_ret pe_bl))
     pss_nil))))))
   (pss_one (ps_ret pe_bl))))))), ?_⟩
    walk_at "rd"
    refine ⟨a, ns, rfl, hS, hlen, fun H1 b c cs s1 hb B => ?_⟩
    walk_at "rd"
    refine ⟨b, c, cs, 16, rfl, by decide, B, fun H2 v n bs ps f2 B2 S2 okb okp hn lbs lps => ?_⟩
    obtain ⟨sa, sp, sq, vb, vp, rfl, esa, esp, rb, esq, rp⟩ := id S2
    have lvb := Paired.len rb
    have lvp := Paired.len rp
    walk_at "rd"
    refine ⟨fun σ H' => ∃ (x3 : Option V) (v : V) (bs ps : List (List Int)) (u tp tb : Addr) (pf bf : List Int), σ = [some (.ref a), some (.ref b), some v, x3, some (.ref u), none, none, none, none, none, none] ∧ SysAt H' v n bs ps ∧ OkB n bs ∧ OkP n ps ∧ bs.length ≤ 3000 ∧ ps.length ≤ 3000 ∧ H' u = some (.lst [.ref tp, .ref tb]) ∧ H' tp = some (.lst (pf.map V.int)) ∧ H' tb = some (.lst (bf.map V.int)) ∧ pf.length = ps.length ∧ bf.length = bs.length, ?_, ?_⟩
    · walk_at "rd"
      · refine ⟨b, c, cs, 3, rfl, by decide, by decide, B2, fun H3 r3 f3 B3 r30 r31 => ?_⟩
        have T3 := Off.ts f3 B2.lst
        have S3 := S2.ts T3
        have esa3 := T3 _ _ esa
        have esp3 := T3 _ _ esp
        have esq3 := T3 _ _ esq
        walk_at "rd"
        · refine ⟨b, c, cs, .ref sa, n, bs, ps, rfl, by omega, hn, B3, S3, okb, okp, by omega, by omega, fun H4 r v' u tp tb bs' ps' pf bf f4 B4 er S4 okb4 okp4 zb4 zp4 eu etp etb ntb tpb tpc tbb tbc ub utp utb lpf lbf => ?_⟩
          walk_at "rd"
          refine ⟨b, c, cs, u, tp, tb, pf, bf, rfl, B4, eu, ub, etp, etb, tpb, tpc, tbb, tbc, ntb, by omega, by omega, fun H5 pf' bf' f5 B5 etp5 etb5 l1 l2 => ?_⟩
          walk_at "rd"
          exact ⟨_, v', bs', ps', u, tp, tb, pf', bf', rfl, S4.ts (f5.ts (by
            intro x hx
            simp only [List.mem_cons, List.not_mem_nil, or_false] at hx
            rcases hx with rfl | rfl | rfl
            · exact B4.lst
            · exact ⟨_, etp⟩
            · exact ⟨_, etb⟩)), okb4, okp4, by omega, by omega, f5 _ _ (by simp [ub, utp, utb]) eu, etp5, etb5, by omega, by omega⟩
        · refine rd_lc ?_
          walk_at "rd"
          refine lc_drawT (walk_tup (K := K) (a := sq) (xs := vp)) ps (fun H y r => ∃ i : Int, y = .int i) lvp (by omega) B3 (fun H' f => SqT.of ((Off.ts f B3.lst) _ _ esq3)) same_at (fun _ _ _ _ _ h => h) ?_ ?_
          · rintro i r x H' H5 Qe E er f B5 s2 ⟨rfl, hx⟩ hN
            walk_at "rd"
            exact ⟨b, c, cs, rfl, B5, fun H6 k f6 B6 => hN _ _ f6 B6 ⟨k, rfl⟩⟩
          · intro d1 ys1 H5 hd1 f5 B5 e5 d1b d1c p1
            obtain ⟨pf, rfl, lpf⟩ := ints_pair p1
            have T5 := Off.ts f5 B3.lst
            have esa5 := T5 _ _ esa3
            have esp5 := T5 _ _ esp3
            walk_at "rd"
            refine rd_lc ?_
            walk_at "rd"
            refine lc_drawT (walk_tup (K := K) (a := sp) (xs := vb)) bs (fun H y r => ∃ i : Int, y = .int i) lvb (by omega) B5 (fun H' f => SqT.of ((Off.ts f B5.lst) _ _ esp5)) same_at (fun _ _ _ _ _ h => h) ?_ ?_
            · rintro i r x H' H6 Qe E er f B6 s2 ⟨rfl, hx⟩ hN
              walk_at "rd"
              exact ⟨b, c, cs, rfl, B6, fun H7 k f7 B7 => hN _ _ f7 B7 ⟨k, rfl⟩⟩
            · intro d2 ys2 H6 hd2 f6 B6 e6 d2b d2c p2
              obtain ⟨bf, rfl, lbf⟩ := ints_pair p2
              walk_at "rd"
              rename_i u hu
              exact ⟨_, .ref sa, bs, ps, u, d1, d2, pf, bf, rfl, S3.ts ((T5.trans (Off.ts f6 B5.lst)).new hu), okb, okp, lbs, lps, upd_same, hp_new hu (f6.get d1b e5), hp_new hu e6, lpf, lbf⟩
      · refine rd_lc ?_
        walk_at "rd"
        refine lc_drawT (walk_tup (K := K) (a := sq) (xs := vp)) ps (fun H y r => ∃ i : Int, y = .int i) lvp (by omega) B2 (fun H' f => SqT.of ((Off.ts f B2.lst) _ _ esq)) same_at (fun _ _ _ _ _ h => h) ?_ ?_
        · rintro i r x H' H5 Qe E er f B5 s2 ⟨rfl, hx⟩ hN
          walk_at "rd"
          exact ⟨b, c, cs, rfl, B5, fun H6 k f6 B6 => hN _ _ f6 B6 ⟨k, rfl⟩⟩
        · intro d1 ys1 H5 hd1 f5 B5 e5 d1b d1c p1
          obtain ⟨pf, rfl, lpf⟩ := ints_pair p1
          have T5 := Off.ts f5 B2.lst
          have esa5 := T5 _ _ esa
          have esp5 := T5 _ _ esp
          walk_at "rd"
          refine rd_lc ?_
          walk_at "rd"
          refine lc_drawT (walk_tup (K := K) (a := sp) (xs := vb)) bs (fun H y r => ∃ i : Int, y = .int i) lvb (by omega) B5 (fun H' f => SqT.of ((Off.ts f B5.lst) _ _ esp5)) same_at (fun _ _ _ _ _ h => h) ?_ ?_
          · rintro i r x H' H6 Qe E er f B6 s2 ⟨rfl, hx⟩ hN
            walk_at "rd"
            exact ⟨b, c, cs, rfl, B6, fun H7 k f7 B7 => hN _ _ f7 B7 ⟨k, rfl⟩⟩
          · intro d2 ys2 H6 hd2 f6 B6 e6 d2b d2c p2
            obtain ⟨bf, rfl, lbf⟩ := ints_pair p2
            walk_at "rd"
            rename_i u hu
            exact ⟨_, .ref sa, bs, ps, u, d1, d2, pf, bf, rfl, S2.ts ((T5.trans (Off.ts f6 B5.lst)).new hu), okb, okp, lbs, lps, upd_same, hp_new hu (f6.get d1b e5), hp_new hu e6, lpf, lbf⟩
    · rintro σ H3 ⟨x3, v, bs, ps, u, tp, tb, pf, bf, rfl, S3, okb, okp, zb, zp, eu, etp, etb, lpf, lbf⟩
      obtain ⟨ta, tp', tq', vb3, vp3, rfl, eta, etp3, rb3, etq3, rp3⟩ := id S3
      have lvb3 := Paired.len rb3
      have lvp3 := Paired.len rp3
      walk_at "rd"
      refine rd_lc ?_
      walk_at "rd"
      refine lc_pureF (walk_tup (K := K) (a := tq') (xs := vp3)) (fun _ => true) (fun _ => .int 0) (by omega) (fun H' s => SqT.of (s _ _ etq3)) same_at ?_ ?_
      · rintro i x H' H4 Nx E hi s s2 ⟨rfl, hx⟩ hN _
        walk_at "rd"
        exact hN rfl _ (fun _ _ e => e)
      · intro d1 H4 hd1 s4 e4
        rw [ftrue, zeros vp3.length, lvp3] at e4
        have eta4 := s4 _ _ eta
        have etp4 := s4 _ _ etp3
        walk_at "rd"
        refine rd_lc ?_
        walk_at "rd"
        refine lc_pureF (walk_tup (K := K) (a := tp') (xs := vb3)) (fun _ => true) (fun _ => .int 0) (by omega) (fun H' s => SqT.of (s _ _ etp4)) same_at ?_ ?_
        · rintro i x H' H5 Nx E hi s s2 ⟨rfl, hx⟩ hN _
          walk_at "rd"
          exact hN rfl _ (fun _ _ e => e)
        · intro d2 H5 hd2 s5 e5
          rw [ftrue, zeros vb3.length, lvb3] at e5
          walk_at "rd"
          rename_i st hst p hp
          have s35 := ((s4.trans s5).trans (same_upd hst (o := .lst [.ref d1, .ref d2]))).trans (same_upd hp (o := .lst [.ref u, .ref st, .ref u]))
          have s55 := (same_upd hst (o := .lst [.ref d1, .ref d2])).trans (same_upd hp (o := .lst [.ref u, .ref st, .ref u]))
          have S6 := S3.ts (.of_same s35)
          have mem : ∀ x ∈ [V.ref u, V.ref st, V.ref u], ∃ (l l0 l1 : Addr) (pf bf : List Int), x = .ref l ∧ (upd (upd H5 st (.lst [.ref d1, .ref d2])) p (.lst [.ref u, .ref st, .ref u])) l = some (.lst [.ref l0, .ref l1]) ∧ (upd (upd H5 st (.lst [.ref d1, .ref d2])) p (.lst [.ref u, .ref st, .ref u])) l0 = some (.lst (pf.map V.int)) ∧ (upd (upd H5 st (.lst [.ref d1, .ref d2])) p (.lst [.ref u, .ref st, .ref u])) l1 = some (.lst (bf.map V.int)) ∧ pf.length = ps.length ∧ bf.length = bs.length := by
            intro x hx
            simp only [List.mem_cons, List.not_mem_nil, or_false] at hx
            rcases hx with rfl | rfl | rfl
            · exact ⟨u, tp, tb, pf, bf, rfl, s35 _ _ eu, s35 _ _ etp, s35 _ _ etb, lpf, lbf⟩
            · exact ⟨st, d1, d2, _, _, rfl, hp_new hp upd_same, s55 _ _ (s5 _ _ e4), s55 _ _ e5, List.length_replicate .., List.length_replicate ..⟩
            · exact ⟨u, tp, tb, pf, bf, rfl, s35 _ _ eu, s35 _ _ etp, s35 _ _ etb, lpf, lbf⟩
          have epl : (upd (upd H5 st (.lst [.ref d1, .ref d2])) p (.lst [.ref u, .ref st, .ref u])) p = some (.lst [.ref u, .ref st, .ref u]) := upd_same
          generalize (upd (upd H5 st (.lst [.ref d1, .ref d2])) p (.lst [.ref u, .ref st, .ref u])) = H6 at *
          refine for_list (K := K) (a := p) (xs := [.ref u, .ref st, .ref u]) (fun i σ H' => ∃ (x8 x9 x10 : Option V), σ = [some (.ref a), some (.ref b), some (.ref ta), x3, some (.ref u), none, none, some (.ref st), x8, x9, x10] ∧ Same H6 H') ⟨none, none, none, rfl, fun _ _ e => e⟩ (fun i σ H' _ h => by obtain ⟨_, _, _, _, s⟩ := h; exact SqL.of (s _ _ epl)) ?_ ?_
          · rintro i x σ H7 hi ⟨x8, x9, x10, rfl, s7⟩
            obtain ⟨l, l0, l1, pf, bf, rfl, el, el0, el1, lpf, lbf⟩ := mem x (List.mem_of_getElem? hi)
            have S7 := S6.ts (.of_same s7)
            have el7 := s7 _ _ el
            have el07 := s7 _ _ el0
            have el17 := s7 _ _ el1
            walk_at "rd"
            rename_i t0 ht0 t1 ht1 t2 ht2
            have s8 := ((same_upd ht0).trans (same_upd ht1)).trans (same_upd ht2 (o := .tup [.ref t0, .ref t1]))
            refine ⟨.ref ta, n, bs, ps, t2, t0, t1, pf, bf, rfl, S7.ts (.of_same s8), okb, okp, hn, by omega, by omega, upd_same, hp_new ht2 (hp_new ht1 upd_same), hp_new ht2 upd_same, lpf, lbf, fun H9 s9 => ?_⟩
            have s79 := s8.trans s9
            walk_at "rd"
            · exact absurd ‹(!true) = true› (by decide)
            · refine ⟨.ref ta, n, bs, ps, l, l0, l1, pf, bf, rfl, S7.ts (.of_same s79), okb, okp, hn, by omega, by omega, s79 _ _ el7, s79 _ _ el07, s79 _ _ el17, lpf, lbf, fun k hk => ?_⟩
              have hk2 : balM n bs ps pf bf = k := by
                have := balM_iff (n := n) (bs := bs) (ps := ps) (pf := pf) (bf := bf) lpf
                cases k
                · exact Bool.eq_false_iff.mpr fun h => Bool.false_ne_true (hk.mpr (this.mp h))
                · exact this.mpr (hk.mp rfl)
              walk_at "rd"
              · exact absurd hk2 ‹_›
              · have S9 := S7.ts (.of_same s79)
                have el9 := s79 _ _ el7
                have el09 := s79 _ _ el07
                have el19 := s79 _ _ el17
                walk_at "rd"
                rename_i t3 ht3 t4 ht4 t5 ht5
                have s10 := ((same_upd ht3).trans (same_upd ht4)).trans (same_upd ht5 (o := .tup [.ref t3, .ref t4]))
                refine ⟨.ref ta, n, bs, ps, t5, t3, t4, pf, bf, rfl, S9.ts (.of_same s10), okb, okp, by omega, by omega, upd_same, hp_new ht5 (hp_new ht4 upd_same), hp_new ht5 upd_same, lpf, lbf, fun H11 s11 => ?_⟩
                have s911 := s10.trans s11
                walk_at "rd"
                refine ⟨_, rfl, ?_⟩
                walk_at "rd"
                · exact absurd ‹(!true) = true› (by decide)
                · refine ⟨.ref ta, n, bs, ps, l, l0, l1, pf, bf, rfl, S9.ts (.of_same s911), okb, okp, by omega, by omega, s911 _ _ el9, s911 _ _ el09, s911 _ _ el19, lpf, lbf, fun H12 s12 => ?_⟩
                  walk_at "rd"
                  · exact absurd rfl ‹_›
                  · exact ⟨_, _, _, rfl, ((s7.trans s79).trans s911).trans s12⟩
          · rintro σ H7 ⟨x8, x9, x10, rfl, s7⟩
            walk_at "rd"
            exact q _
end
theorem all_mk {l : PySem.W.OpenLaw} {w : World} {K : PySem.W.Frag} {h : Heap} {mg : Str → Option Value} {fa f0 f1 f2 f3 f4 f5 f6 f7 f8 f9 f10 f11 f12 f13 f14 f15 f16 f17 f18 f19 f20 : Addr} (X : K.In h) (G : h.Ns mainGlobals mg) (hfa : mg "law" = some (.ref fa))
    {od0 an0 od1 an1 od2 an2 od3 an3 od4 an4 od5 an5 od6 an6 od7 an7 od8 an8 od9 an9 od10 an10 od11 an11 od12 an12 od13 an13 od14 an14 od15 an15 od16 an16 od17 an17 od18 an18 od19 an19 od20 an20 : Option Addr} {sl0 sl1 sl2 sl3 sl4 sl5 sl6 sl7 sl8 sl9 sl10 sl11 sl12 sl13 sl14 sl15 sl16 sl17 sl18 sl19 sl20 : Array (Option Value)} {oc0 kV0 dc0 pm0 cd0 ct0 oc1 kV1 dc1 pm1 cd1 ct1 oc2 kV2 dc2 pm2 cd2 ct2 oc3 kV3 dc3 pm3 cd3 ct3 oc4 kV4 dc4 pm4 cd4 ct4 oc5 kV5 dc5 pm5 cd5 ct5 oc6 kV6 dc6 pm6 cd6 ct6 oc7 kV7 dc7 pm7 cd7 ct7 oc8 kV8 dc8 pm8 cd8 ct8 oc9 kV9 dc9 pm9 cd9 ct9 oc10 kV10 dc10 pm10 cd10 ct10 oc11 kV11 dc11 pm11 cd11 ct11 oc12 kV12 dc12 pm12 cd12 ct12 oc13 kV13 dc13 pm13 cd13 ct13 oc14 kV14 dc14 pm14 cd14 ct14 oc15 kV15 dc15 pm15 cd15 ct15 oc16 kV16 dc16 pm16 cd16 ct16 oc17 kV17 dc17 pm17 cd17 ct17 oc18 kV18 dc18 pm18 cd18 ct18 oc19 kV19 dc19 pm19 cd19 ct19 oc20 kV20 dc20 pm20 cd20 ct20 : Value}
    (a0 : PySem.W.nsIn K mainGlobals "is_balanced" = some (some (.ref f0))) (l0 : K.lookup f0 = some ⟨oc0, od0, .func (PySem.W.fnOf "is_balanced" "is_balanced" (defArgs s_is_balanced) (defBody s_is_balanced) (defScope s_is_balanced) .none kV0 dc0 pm0 an0 cd0 ct0), sl0⟩) (c0 : PySem.W.codeIn K cd0 "is_balanced" = true) (k0 : PySem.W.keepIn K (.ref f0) = true)
    (a1 : PySem.W.nsIn K mainGlobals "worth" = some (some (.ref f1))) (l1 : K.lookup f1 = some ⟨oc1, od1, .func (PySem.W.fnOf "worth" "worth" (defArgs s_worth) (defBody s_worth) (defScope s_worth) .none kV1 dc1 pm1 an1 cd1 ct1), sl1⟩) (c1 : PySem.W.codeIn K cd1 "worth" = true) (k1 : PySem.W.keepIn K (.ref f1) = true)
    (a2 : PySem.W.nsIn K mainGlobals "_net_forces" = some (some (.ref f2))) (l2 : K.lookup f2 = some ⟨oc2, od2, .func (PySem.W.fnOf "_net_forces" "_net_forces" (defArgs s_net_forces) (defBody s_net_forces) (defScope s_net_forces) .none kV2 dc2 pm2 an2 cd2 ct2), sl2⟩) (c2 : PySem.W.codeIn K cd2 "_net_forces" = true) (k2 : PySem.W.keepIn K (.ref f2) = true)
    (a3 : PySem.W.nsIn K mainGlobals "_law_bag" = some (some (.ref f3))) (l3 : K.lookup f3 = some ⟨oc3, od3, .func (PySem.W.fnOf "_law_bag" "_law_bag" (defArgs s_law_bag) (defBody s_law_bag) (defScope s_law_bag) .none kV3 dc3 pm3 an3 cd3 ct3), sl3⟩) (c3 : PySem.W.codeIn K cd3 "_law_bag" = true) (k3 : PySem.W.keepIn K (.ref f3) = true)
    (a4 : PySem.W.nsIn K mainGlobals "_law_draw" = some (some (.ref f4))) (l4 : K.lookup f4 = some ⟨oc4, od4, .func (PySem.W.fnOf "_law_draw" "_law_draw" (defArgs s_law_draw) (defBody s_law_draw) (defScope s_law_draw) .none kV4 dc4 pm4 an4 cd4 ct4), sl4⟩) (c4 : PySem.W.codeIn K cd4 "_law_draw" = true) (k4 : PySem.W.keepIn K (.ref f4) = true)
    (a5 : PySem.W.nsIn K mainGlobals "_law_whole" = some (some (.ref f5))) (l5 : K.lookup f5 = some ⟨oc5, od5, .func (PySem.W.fnOf "_law_whole" "_law_whole" (defArgs s_law_whole) (defBody s_law_whole) (defScope s_law_whole) .none kV5 dc5 pm5 an5 cd5 ct5), sl5⟩) (c5 : PySem.W.codeIn K cd5 "_law_whole" = true) (k5 : PySem.W.keepIn K (.ref f5) = true)
    (a6 : PySem.W.nsIn K mainGlobals "_law_shuffle" = some (some (.ref f6))) (l6 : K.lookup f6 = some ⟨oc6, od6, .func (PySem.W.fnOf "_law_shuffle" "_law_shuffle" (defArgs s_law_shuffle) (defBody s_law_shuffle) (defScope s_law_shuffle) .none kV6 dc6 pm6 an6 cd6 ct6), sl6⟩) (c6 : PySem.W.codeIn K cd6 "_law_shuffle" = true) (k6 : PySem.W.keepIn K (.ref f6) = true)
    (a7 : PySem.W.nsIn K mainGlobals "_law_gap" = some (some (.ref f7))) (l7 : K.lookup f7 = some ⟨oc7, od7, .func (PySem.W.fnOf "_law_gap" "_law_gap" (defArgs s_law_gap) (defBody s_law_gap) (defScope s_law_gap) .none kV7 dc7 pm7 an7 cd7 ct7), sl7⟩) (c7 : PySem.W.codeIn K cd7 "_law_gap" = true) (k7 : PySem.W.keepIn K (.ref f7) = true)
    (a8 : PySem.W.nsIn K mainGlobals "_law_ends" = some (some (.ref f8))) (l8 : K.lookup f8 = some ⟨oc8, od8, .func (PySem.W.fnOf "_law_ends" "_law_ends" (defArgs s_law_ends) (defBody s_law_ends) (defScope s_law_ends) .none kV8 dc8 pm8 an8 cd8 ct8), sl8⟩) (c8 : PySem.W.codeIn K cd8 "_law_ends" = true) (k8 : PySem.W.keepIn K (.ref f8) = true)
    (a9 : PySem.W.nsIn K mainGlobals "_law_doubled" = some (some (.ref f9))) (l9 : K.lookup f9 = some ⟨oc9, od9, .func (PySem.W.fnOf "_law_doubled" "_law_doubled" (defArgs s_law_doubled) (defBody s_law_doubled) (defScope s_law_doubled) .none kV9 dc9 pm9 an9 cd9 ct9), sl9⟩) (c9 : PySem.W.codeIn K cd9 "_law_doubled" = true) (k9 : PySem.W.keepIn K (.ref f9) = true)
    (a10 : PySem.W.nsIn K mainGlobals "_law_any_system" = some (some (.ref f10))) (l10 : K.lookup f10 = some ⟨oc10, od10, .func (PySem.W.fnOf "_law_any_system" "_law_any_system" (defArgs s_law_any_system) (defBody s_law_any_system) (defScope s_law_any_system) .none kV10 dc10 pm10 an10 cd10 ct10), sl10⟩) (c10 : PySem.W.codeIn K cd10 "_law_any_system" = true) (k10 : PySem.W.keepIn K (.ref f10) = true)
    (a11 : PySem.W.nsIn K mainGlobals "_law_signed" = some (some (.ref f11))) (l11 : K.lookup f11 = some ⟨oc11, od11, .func (PySem.W.fnOf "_law_signed" "_law_signed" (defArgs s_law_signed) (defBody s_law_signed) (defScope s_law_signed) .none kV11 dc11 pm11 an11 cd11 ct11), sl11⟩) (c11 : PySem.W.codeIn K cd11 "_law_signed" = true) (k11 : PySem.W.keepIn K (.ref f11) = true)
    (a12 : PySem.W.nsIn K mainGlobals "_law_force" = some (some (.ref f12))) (l12 : K.lookup f12 = some ⟨oc12, od12, .func (PySem.W.fnOf "_law_force" "_law_force" (defArgs s_law_force) (defBody s_law_force) (defScope s_law_force) .none kV12 dc12 pm12 an12 cd12 ct12), sl12⟩) (c12 : PySem.W.codeIn K cd12 "_law_force" = true) (k12 : PySem.W.keepIn K (.ref f12) = true)
    (a13 : PySem.W.nsIn K mainGlobals "_law_limit" = some (some (.ref f13))) (l13 : K.lookup f13 = some ⟨oc13, od13, .func (PySem.W.fnOf "_law_limit" "_law_limit" (defArgs s_law_limit) (defBody s_law_limit) (defScope s_law_limit) .none kV13 dc13 pm13 an13 cd13 ct13), sl13⟩) (c13 : PySem.W.codeIn K cd13 "_law_limit" = true) (k13 : PySem.W.keepIn K (.ref f13) = true)
    (a14 : PySem.W.nsIn K mainGlobals "_law_ring_added" = some (some (.ref f14))) (l14 : K.lookup f14 = some ⟨oc14, od14, .func (PySem.W.fnOf "_law_ring_added" "_law_ring_added" (defArgs s_law_ring_added) (defBody s_law_ring_added) (defScope s_law_ring_added) .none kV14 dc14 pm14 an14 cd14 ct14), sl14⟩) (c14 : PySem.W.codeIn K cd14 "_law_ring_added" = true) (k14 : PySem.W.keepIn K (.ref f14) = true)
    (a15 : PySem.W.nsIn K mainGlobals "_law_loaded" = some (some (.ref f15))) (l15 : K.lookup f15 = some ⟨oc15, od15, .func (PySem.W.fnOf "_law_loaded" "_law_loaded" (defArgs s_law_loaded) (defBody s_law_loaded) (defScope s_law_loaded) .none kV15 dc15 pm15 an15 cd15 ct15), sl15⟩) (c15 : PySem.W.codeIn K cd15 "_law_loaded" = true) (k15 : PySem.W.keepIn K (.ref f15) = true)
    (a16 : PySem.W.nsIn K mainGlobals "_law_bent" = some (some (.ref f16))) (l16 : K.lookup f16 = some ⟨oc16, od16, .func (PySem.W.fnOf "_law_bent" "_law_bent" (defArgs s_law_bent) (defBody s_law_bent) (defScope s_law_bent) .none kV16 dc16 pm16 an16 cd16 ct16), sl16⟩) (c16 : PySem.W.codeIn K cd16 "_law_bent" = true) (k16 : PySem.W.keepIn K (.ref f16) = true)
    (a17 : PySem.W.nsIn K mainGlobals "_law_sum_at" = some (some (.ref f17))) (l17 : K.lookup f17 = some ⟨oc17, od17, .func (PySem.W.fnOf "_law_sum_at" "_law_sum_at" (defArgs s_law_sum_at) (defBody s_law_sum_at) (defScope s_law_sum_at) .none kV17 dc17 pm17 an17 cd17 ct17), sl17⟩) (c17 : PySem.W.codeIn K cd17 "_law_sum_at" = true) (k17 : PySem.W.keepIn K (.ref f17) = true)
    (a18 : PySem.W.nsIn K mainGlobals "_law_even" = some (some (.ref f18))) (l18 : K.lookup f18 = some ⟨oc18, od18, .func (PySem.W.fnOf "_law_even" "_law_even" (defArgs s_law_even) (defBody s_law_even) (defScope s_law_even) .none kV18 dc18 pm18 an18 cd18 ct18), sl18⟩) (c18 : PySem.W.codeIn K cd18 "_law_even" = true) (k18 : PySem.W.keepIn K (.ref f18) = true)
    (a19 : PySem.W.nsIn K mainGlobals "_law_due_worth" = some (some (.ref f19))) (l19 : K.lookup f19 = some ⟨oc19, od19, .func (PySem.W.fnOf "_law_due_worth" "_law_due_worth" (defArgs s_law_due_worth) (defBody s_law_due_worth) (defScope s_law_due_worth) .none kV19 dc19 pm19 an19 cd19 ct19), sl19⟩) (c19 : PySem.W.codeIn K cd19 "_law_due_worth" = true) (k19 : PySem.W.keepIn K (.ref f19) = true)
    (a20 : PySem.W.nsIn K mainGlobals "law" = some (some (.ref f20))) (l20 : K.lookup f20 = some ⟨oc20, od20, .func (PySem.W.fnOf "law" "law" (defArgs s_law) (defBody s_law) (defScope s_law) .none kV20 dc20 pm20 an20 cd20 ct20), sl20⟩) (c20 : PySem.W.codeIn K cd20 "law" = true) (k20 : PySem.W.keepIn K (.ref f20) = true)
    (z_abs : PySem.W.nsIn K mainGlobals "abs" = some none)
    (z_any : PySem.W.nsIn K mainGlobals "any" = some none)
    (z_bool : PySem.W.nsIn K mainGlobals "bool" = some none)
    (z_int : PySem.W.nsIn K mainGlobals "int" = some none)
    (z_isinstance : PySem.W.nsIn K mainGlobals "isinstance" = some none)
    (z_len : PySem.W.nsIn K mainGlobals "len" = some none)
    (z_list : PySem.W.nsIn K mainGlobals "list" = some none)
    (z_max : PySem.W.nsIn K mainGlobals "max" = some none)
    (z_min : PySem.W.nsIn K mainGlobals "min" = some none)
    (z_range : PySem.W.nsIn K mainGlobals "range" = some none)
    (z_sum : PySem.W.nsIn K mainGlobals "sum" = some none)
    (z_tuple : PySem.W.nsIn K mainGlobals "tuple" = some none)
    (z_zip : PySem.W.nsIn K mainGlobals "zip" = some none)
    : ∃ fd : FuncData, (∀ (s : Shared) (v : Value), BindsTo s fd ⟨[v], []⟩ [("script", v)]) ∧ ∀ base : Heap, K.In base → base.Ns mainGlobals mg → FnOk l.prog w K mg base CX0 6 fa fd ["script"] (spLaw K) := by
  have e := hfa.symm.trans (PySem.W.mg_of X G a20)
  cases e
  have F0 := fun_mk (st := s_is_balanced) l0 c0 k0
  have b0 := F0.binds (ps := ["system", "forces"]) fun _ _ _ _ _ _ us hl => match us, hl with | [_, _], _ => rfl
  have F1 := fun_mk (st := s_worth) l1 c1 k1
  have b1 := F1.binds (ps := ["system", "forces"]) fun _ _ _ _ _ _ us hl => match us, hl with | [_, _], _ => rfl
  have F2 := fun_mk (st := s_net_forces) l2 c2 k2
  have b2 := F2.binds (ps := ["count", "threads", "forces"]) fun _ _ _ _ _ _ us hl => match us, hl with | [_, _, _], _ => rfl
  have F3 := fun_mk (st := s_law_bag) l3 c3 k3
  have b3 := F3.binds (ps := ["script"]) fun _ _ _ _ _ _ us hl => match us, hl with | [_], _ => rfl
  have F4 := fun_mk (st := s_law_draw) l4 c4 k4
  have b4 := F4.binds (ps := ["bag", "many"]) fun _ _ _ _ _ _ us hl => match us, hl with | [_, _], _ => rfl
  have F5 := fun_mk (st := s_law_whole) l5 c5 k5
  have b5 := F5.binds (ps := ["got"]) fun _ _ _ _ _ _ us hl => match us, hl with | [_], _ => rfl
  have F6 := fun_mk (st := s_law_shuffle) l6 c6 k6
  have b6 := F6.binds (ps := ["bag", "things"]) fun _ _ _ _ _ _ us hl => match us, hl with | [_, _], _ => rfl
  have F7 := fun_mk (st := s_law_gap) l7 c7 k7
  have b7 := F7.binds (ps := ["bag"]) fun _ _ _ _ _ _ us hl => match us, hl with | [_], _ => rfl
  have F8 := fun_mk (st := s_law_ends) l8 c8 k8
  have b8 := F8.binds (ps := ["bag", "count"]) fun _ _ _ _ _ _ us hl => match us, hl with | [_, _], _ => rfl
  have F9 := fun_mk (st := s_law_doubled) l9 c9 k9
  have b9 := F9.binds (ps := ["bag", "rows"]) fun _ _ _ _ _ _ us hl => match us, hl with | [_, _], _ => rfl
  have F10 := fun_mk (st := s_law_any_system) l10 c10 k10
  have b10 := F10.binds (ps := ["bag", "most"]) fun _ _ _ _ _ _ us hl => match us, hl with | [_, _], _ => rfl
  have F11 := fun_mk (st := s_law_signed) l11 c11 k11
  have b11 := F11.binds (ps := ["bag", "many"]) fun _ _ _ _ _ _ us hl => match us, hl with | [_, _], _ => rfl
  have F12 := fun_mk (st := s_law_force) l12 c12 k12
  have b12 := F12.binds (ps := ["bag"]) fun _ _ _ _ _ _ us hl => match us, hl with | [_], _ => rfl
  have F13 := fun_mk (st := s_law_limit) l13 c13 k13
  have b13 := F13.binds (ps := ["bag", "amount"]) fun _ _ _ _ _ _ us hl => match us, hl with | [_, _], _ => rfl
  have F14 := fun_mk (st := s_law_ring_added) l14 c14 k14
  have b14 := F14.binds (ps := ["bag", "count", "bound_rows", "pull_rows"]) fun _ _ _ _ _ _ us hl => match us, hl with | [_, _, _, _], _ => rfl
  have F15 := fun_mk (st := s_law_loaded) l15 c15 k15
  have b15 := F15.binds (ps := ["bag", "system"]) fun _ _ _ _ _ _ us hl => match us, hl with | [_, _], _ => rfl
  have F16 := fun_mk (st := s_law_bent) l16 c16 k16
  have b16 := F16.binds (ps := ["bag", "loads"]) fun _ _ _ _ _ _ us hl => match us, hl with | [_, _], _ => rfl
  have F17 := fun_mk (st := s_law_sum_at) l17 c17 k17
  have b17 := F17.binds (ps := ["rows", "loads", "x"]) fun _ _ _ _ _ _ us hl => match us, hl with | [_, _, _], _ => rfl
  have F18 := fun_mk (st := s_law_even) l18 c18 k18
  have b18 := F18.binds (ps := ["system", "loads"]) fun _ _ _ _ _ _ us hl => match us, hl with | [_, _], _ => rfl
  have F19 := fun_mk (st := s_law_due_worth) l19 c19 k19
  have b19 := F19.binds (ps := ["system", "loads"]) fun _ _ _ _ _ _ us hl => match us, hl with | [_, _], _ => rfl
  have T : Txt K mg := { f_is_balanced := _, fd_is_balanced := _, F_is_balanced := F0, g_is_balanced := PySem.W.mg_of X G a0, b_is_balanced := b0, f_worth := _, fd_worth := _, F_worth := F1, g_worth := PySem.W.mg_of X G a1, b_worth := b1, f_net_forces := _, fd_net_forces := _, F_net_forces := F2, g_net_forces := PySem.W.mg_of X G a2, b_net_forces := b2, f_law_bag := _, fd_law_bag := _, F_law_bag := F3, g_law_bag := PySem.W.mg_of X G a3, b_law_bag := b3, f_law_draw := _, fd_law_draw := _, F_law_draw := F4, g_law_draw := PySem.W.mg_of X G a4, b_law_draw := b4, f_law_whole := _, fd_law_whole := _, F_law_whole := F5, g_law_whole := PySem.W.mg_of X G a5, b_law_whole := b5, f_law_shuffle := _, fd_law_shuffle := _, F_law_shuffle := F6, g_law_shuffle := PySem.W.mg_of X G a6, b_law_shuffle := b6, f_law_gap := _, fd_law_gap := _, F_law_gap := F7, g_law_gap := PySem.W.mg_of X G a7, b_law_gap := b7, f_law_ends := _, fd_law_ends := _, F_law_ends := F8, g_law_ends := PySem.W.mg_of X G a8, b_law_ends := b8, f_law_doubled := _, fd_law_doubled := _, F_law_doubled := F9, g_law_doubled := PySem.W.mg_of X G a9, b_law_doubled := b9, f_law_any_system := _, fd_law_any_system := _, F_law_any_system := F10, g_law_any_system := PySem.W.mg_of X G a10, b_law_any_system := b10, f_law_signed := _, fd_law_signed := _, F_law_signed := F11, g_law_signed := PySem.W.mg_of X G a11, b_law_signed := b11, f_law_force := _, fd_law_force := _, F_law_force := F12, g_law_force := PySem.W.mg_of X G a12, b_law_force := b12, f_law_limit := _, fd_law_limit := _, F_law_limit := F13, g_law_limit := PySem.W.mg_of X G a13, b_law_limit := b13, f_law_ring_added := _, fd_law_ring_added := _, F_law_ring_added := F14, g_law_ring_added := PySem.W.mg_of X G a14, b_law_ring_added := b14, f_law_loaded := _, fd_law_loaded := _, F_law_loaded := F15, g_law_loaded := PySem.W.mg_of X G a15, b_law_loaded := b15, f_law_bent := _, fd_law_bent := _, F_law_bent := F16, g_law_bent := PySem.W.mg_of X G a16, b_law_bent := b16, f_law_sum_at := _, fd_law_sum_at := _, F_law_sum_at := F17, g_law_sum_at := PySem.W.mg_of X G a17, b_law_sum_at := b17, f_law_even := _, fd_law_even := _, F_law_even := F18, g_law_even := PySem.W.mg_of X G a18, b_law_even := b18, f_law_due_worth := _, fd_law_due_worth := _, F_law_due_worth := F19, g_law_due_worth := PySem.W.mg_of X G a19, b_law_due_worth := b19, n_abs := PySem.W.mg_none_of X G z_abs, n_any := PySem.W.mg_none_of X G z_any, n_bool := PySem.W.mg_none_of X G z_bool, n_int := PySem.W.mg_none_of X G z_int, n_isinstance := PySem.W.mg_none_of X G z_isinstance, n_len := PySem.W.mg_none_of X G z_len, n_list := PySem.W.mg_none_of X G z_list, n_max := PySem.W.mg_none_of X G z_max, n_min := PySem.W.mg_none_of X G z_min, n_range := PySem.W.mg_none_of X G z_range, n_sum := PySem.W.mg_none_of X G z_sum, n_tuple := PySem.W.mg_none_of X G z_tuple, n_zip := PySem.W.mg_none_of X G z_zip }
  exact ⟨PySem.W.fnOf "law" "law" (defArgs s_law) (defBody s_law) (defScope s_law) .none kV20 dc20 pm20 an20 cd20 ct20, fun s v => .of_eq rfl, fun base _ _ => ok_law T (fun_mk (st := s_law) l20 c20 k20)⟩
end K37
open PySem PySem.W PyProof.Rows
set_option maxHeartbeats 0 in
set_option maxRecDepth 100000 in
theorem PySem.Challenge.cw_drawnlayers_k37_balanced_and_worth_holds : PySem.Challenge.rw_drawnlayers_k37_balanced_and_worth.Holds := by
  w_on; o_law; k_head; (case hw => w_witness2)
  k_fill
  refine L2.walk_of (l := PySem.Challenge.rw_drawnlayers_k37_balanced_and_worth) (n := 63) (k := 6) (x := "script") (CX := fun _ => L2.CX0) (sp := fun w => K37.spLaw _) rfl (by decide) rfl ⟨rfl, by decide, by decide⟩ (fun w h Y => PySem.W.kIn_of Y) ?F (fun _ _ a ns hl _ hS => ⟨a, ns, rfl, hS, hl, fun _ => rfl⟩) (fun _ _ _ _ _ z => z)
  case F =>
    intro w mg fa h KX G hmg
    refine' K37.all_mk KX G hmg ?a0 ?l0 ?c0 ?k0 ?a1 ?l1 ?c1 ?k1 ?a2 ?l2 ?c2 ?k2 ?a3 ?l3 ?c3 ?k3 ?a4 ?l4 ?c4 ?k4 ?a5 ?l5 ?c5 ?k5 ?a6 ?l6 ?c6 ?k6 ?a7 ?l7 ?c7 ?k7 ?a8 ?l8 ?c8 ?k8 ?a9 ?l9 ?c9 ?k9 ?a10 ?l10 ?c10 ?k10 ?a11 ?l11 ?c11 ?k11 ?a12 ?l12 ?c12 ?k12 ?a13 ?l13 ?c13 ?k13 ?a14 ?l14 ?c14 ?k14 ?a15 ?l15 ?c15 ?k15 ?a16 ?l16 ?c16 ?k16 ?a17 ?l17 ?c17 ?k17 ?a18 ?l18 ?c18 ?k18 ?a19 ?l19 ?c19 ?k19 ?a20 ?l20 ?c20 ?k20 ?z_abs ?z_any ?z_bool ?z_int ?z_isinstance ?z_len ?z_list ?z_max ?z_min ?z_range ?z_sum ?z_tuple ?z_zip
    (case a0 => k_is)
    (case l0 => k_is)
    (case c0 => k_is)
    (case k0 => k_is)
    (case a1 => k_is)
    (case l1 => k_is)
    (case c1 => k_is)
    (case k1 => k_is)
    (case a2 => k_is)
    (case l2 => k_is)
    (case c2 => k_is)
    (case k2 => k_is)
    (case a3 => k_is)
    (case l3 => k_is)
    (case c3 => k_is)
    (case k3 => k_is)
    (case a4 => k_is)
    (case l4 => k_is)
    (case c4 => k_is)
    (case k4 => k_is)
    (case a5 => k_is)
    (case l5 => k_is)
    (case c5 => k_is)
    (case k5 => k_is)
    (case a6 => k_is)
    (case l6 => k_is)
    (case c6 => k_is)
    (case k6 => k_is)
    (case a7 => k_is)
    (case l7 => k_is)
    (case c7 => k_is)
    (case k7 => k_is)
    (case a8 => k_is)
    (case l8 => k_is)
    (case c8 => k_is)
    (case k8 => k_is)
    (case a9 => k_is)
    (case l9 => k_is)
    (case c9 => k_is)
    (case k9 => k_is)
    (case a10 => k_is)
    (case l10 => k_is)
    (case c10 => k_is)
    (case k10 => k_is)
    (case a11 => k_is)
    (case l11 => k_is)
    (case c11 => k_is)
    (case k11 => k_is)
    (case a12 => k_is)
    (case l12 => k_is)
    (case c12 => k_is)
    (case k12 => k_is)
    (case a13 => k_is)
    (case l13 => k_is)
    (case c13 => k_is)
    (case k13 => k_is)
    (case a14 => k_is)
    (case l14 => k_is)
    (case c14 => k_is)
    (case k14 => k_is)
    (case a15 => k_is)
    (case l15 => k_is)
    (case c15 => k_is)
    (case k15 => k_is)
    (case a16 => k_is)
    (case l16 => k_is)
    (case c16 => k_is)
    (case k16 => k_is)
    (case a17 => k_is)
    (case l17 => k_is)
    (case c17 => k_is)
    (case k17 => k_is)
    (case a18 => k_is)
    (case l18 => k_is)
    (case c18 => k_is)
    (case k18 => k_is)
    (case a19 => k_is)
    (case l19 => k_is)
    (case c19 => k_is)
    (case k19 => k_is)
    (case a20 => k_is)
    (case l20 => k_is)
    (case c20 => k_is)
    (case k20 => k_is)
    (case z_abs => k_is)
    (case z_any => k_is)
    (case z_bool => k_is)
    (case z_int => k_is)
    (case z_isinstance => k_is)
    (case z_len => k_is)
    (case z_list => k_is)
    (case z_max => k_is)
    (case z_min => k_is)
    (case z_range => k_is)
    (case z_sum => k_is)
    (case z_tuple => k_is)
    (case z_zip => k_is)
