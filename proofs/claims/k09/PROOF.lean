import PyProof.Rows.All
import Wide.All
import OpenK.AllK
import Wide.FinOn
import HandS.ForMost
import HandS.Wide
import HandS.IsInst
import HandS.Codes
import HandS.SortInts
import HandS.Defaults
import HandS.Style
import PyProof.EnumMake
import HandS.Zip
import HandS.Conv
import HandS.TupAny
import HandS.Walk
import PySem.Challenge.RW_drawnlayers_k09_rings_of_arcs
set_option Elab.async false
set_option linter.all false
set_option maxRecDepth 100000
set_option maxHeartbeats 4000000
--! ROW drawnlayers_k09_rings_of_arcs
--! NS K09
--! _first_arcs iter:enumerate(arcs) tup
--! _onward_arcs neD:[stepisnotNoneforstepinonward]!=alive yes
--! _ring_from dict:place yes
--! _law_arcs cut2 yes
--! _law_arcs cut4 yes
--! _law_arcs cut5 yes
--! _law_has_ring iter:arcs tup
--! _law_is_ring iter:ring tup
--! * _law_same 7
--! law cat:arcs[:cut]+arcs[cut+1:] yes
--! law sl:arcs[:cut] tup
--! law sl:arcs[cut+1:] tup
--! NS K09
namespace D0
open PySem PySem.Spec PyProof.Rows L2
/-! ### operators by the shape of the values -/
def rAddD (K : PySem.W.Frag) : R2 := fun x y H Q => rI0 (fun i j => .int (i + j)) x y H Q ∨ (∃ i j, x = .str i ∧ y = .str j ∧ i.length + j.length ≤ sizeLine ∧ Q (.str (i ++ j)) H) ∨ rCat x y H Q ∨ rCatT K x y H Q
def rMulD : R2 := fun x y H Q => rI CMul (fun i j => .int (i * j)) x y H Q ∨ rRep x y H Q
def rLtD : R2 := rI0 fun i j => .bl (decide (i < j))
def rLeD : R2 := rI0 fun i j => .bl (decide (i ≤ j))
def rGtD : R2 := rI0 fun i j => .bl (decide (j < i))
def rGeD : R2 := rI0 fun i j => .bl (decide (j ≤ i))
def rSubD : R2 := rI0 fun i j => .int (i - j)
def rModD : R2 := rI (fun _ j => j ≠ 0) fun i j => .int (i.fmod j)
def rDivD : R2 := rI CDivW fun i j => .int (i / j)
def rPowD : R2 := rI CPow fun i j => .int (i ^ j.toNat)
def rStrIn (neg : Bool) : R2 := fun x y H Q => ∃ (c : Nat) (z : Str), x = .str ⟨#[c]⟩ ∧ y = .str z ∧ Q (.bl (if neg then !decide (c ∈ z.cps.toList) else decide (c ∈ z.cps.toList))) H
def rInD (K : PySem.W.Frag) (neg : Bool) : R2 := fun x y H Q => rIn K neg x y H Q ∨ rStrIn neg x y H Q
def rIxD (K : PySem.W.Frag) : R2 := fun x y H Q => rIxL K x y H Q ∨ rIxT K x y H Q ∨ rIxS x y H Q
def rIntD : List V → Hp → VK → Prop := fun xs H Q => (∃ i, xs = [.int i] ∧ Q (.int i) H) ∨ ∃ k, xs = [.bl k] ∧ Q (.int (if k then 1 else 0)) H
def rLenD (K : PySem.W.Frag) : List V → Hp → VK → Prop := fun xs H Q => ∃ x n, xs = [x] ∧ LenV K x H n ∧ Q (.int n) H
def rAbsD : List V → Hp → VK → Prop := fun xs H Q => ∃ i, xs = [.int i] ∧ Q (.int (if i < 0 then -i else i)) H
def rMax2D : List V → Hp → VK → Prop := fun xs H Q => ∃ i j, xs = [.int i, .int j] ∧ Q (.int (if j > i then j else i)) H
def rMin2D : List V → Hp → VK → Prop := fun xs H Q => ∃ i j, xs = [.int i, .int j] ∧ Q (.int (if j < i then j else i)) H
def rOrdD : List V → Hp → VK → Prop := fun xs H Q => ∃ x, xs = [.str x] ∧ x.length = 1 ∧ Q (.int (x.cps.getD 0 0 : Nat)) H
section
variable {X : Cx} (K : PySem.W.Frag)
theorem dAdd (hK : X.K = K := by rfl) : OpR X (binaryOp .Add) (rAddD K) := by subst hK; exact op_add.or (op_add_str.or (op_cat.or op_catT))
theorem dSub : OpR X (binaryOp .Sub) rSubD := op_sub
theorem dMul : OpR X (binaryOp .Mult) rMulD := op_mul.or op_rep
theorem dMod : OpR X (binaryOp .Mod) rModD := op_modN
theorem dDiv : OpR X (binaryOp .FloorDiv) rDivD := op_fdivW
theorem dPow : OpR X (binaryOp .Pow) rPowD := op_pow
theorem dLt : OpR X (compareOp .Lt) rLtD := op_lt
theorem dLe : OpR X (compareOp .LtE) rLeD := op_le
theorem dGt : OpR X (compareOp .Gt) rGtD := op_gt
theorem dGe : OpR X (compareOp .GtE) rGeD := op_ge
theorem dEq : OpR X (compareOp .Eq) rEq := op_eq
theorem dNe : OpR X (compareOp .NotEq) rNe := op_ne
theorem dIn (hK : X.K = K := by rfl) : OpR X (compareOp .In) (rInD K false) := by subst hK; exact op_in_seq.or op_in_sign
theorem dNin (hK : X.K = K := by rfl) : OpR X (compareOp .NotIn) (rInD K true) := by subst hK; exact op_notIn_seq.or op_notIn_sign
theorem dIx (hK : X.K = K := by rfl) : IxR X (rIxD K) := by subst hK; exact ix_list.or (ix_tup.or ix_str)
theorem dInt : CallR X (.type "int") rIntD := call_int1
theorem dLen (hK : X.K = K := by rfl) : CallR X (.builtin "len") (rLenD K) := by subst hK; exact call_len
theorem dAbs : CallR X (.builtin "abs") rAbsD := call_abs
theorem dMax2 (hc : X.calm = true) : CallR X (.builtin "max") rMax2D := call_max2 hc
theorem dMin2 (hc : X.calm = true) : CallR X (.builtin "min") rMin2D := call_min2 hc
theorem dOrd : CallR X (.builtin "ord") rOrdD := call_ord
theorem dSum (hc : X.calm = true) (hK : X.K = K := by rfl) : CallR X (.builtin "sum") (rSum K) := by subst hK; exact cr_sum hc
theorem dAll (hc : X.calm = true) (hK : X.K = K := by rfl) : CallR X (.builtin "all") (rAll K) := by subst hK; exact cr_all hc
theorem dAny (hc : X.calm = true) (hK : X.K = K := by rfl) : CallR X (.builtin "any") (rAny K) := by subst hK; exact cr_any hc
theorem dMax1 (hc : X.calm = true) (hK : X.K = K := by rfl) : CallR X (.builtin "max") (rMax K) := by subst hK; exact cr_max hc
theorem dMin1 (hc : X.calm = true) (hK : X.K = K := by rfl) : CallR X (.builtin "min") (rMin K) := by subst hK; exact cr_min hc
theorem dIsi (hK : X.K = K := by rfl) : CallR X (.builtin "isinstance") (rIsi K) := by subst hK; exact call_isi
theorem dpi_list {tg l : Expr} {tl : TE} (hl : PE X l tl) (hK : X.K = K := by rfl) : PI X tg l (iList K tl) := by subst hK; exact pi_list hl
theorem dpi_tup {tg l : Expr} {tl : TE} (hl : PE X l tl) (hK : X.K = K := by rfl) : PI X tg l (iTup K tl) := by subst hK; exact pi_tup hl
theorem dpg_tup {es : List Expr} {k : Nat} {t : TGs} {n : Nat} {pos : Pos} (hc : X.calm = true) (h : PGs X es t) (hK : X.K = K := by rfl)
    (hn : (assignEach es X.env).length = n := by rfl) (hst : (assignEach es X.env).findIdx? (·.1) = none := by rfl) : PG X (.Tuple es k pos) (gTup K n t) := by subst hK; exact pg_tup hc h hn hst
def rSlD : V → Option Int → Option Int → Hp → VK → Prop := fun x lo hi H Q => rSlL K x lo hi H Q ∨ rSlS x lo hi H Q
theorem SlRor {r r' : V → Option Int → Option Int → Hp → VK → Prop} (h : SlR X r) (h' : SlR X r') : SlR X (fun x lo hi H Q => r x lo hi H Q ∨ r' x lo hi H Q) := by
  intro pins s σ H x v vl vu lo hi sl Q I rx hs pl pu q
  rcases q with q | q
  · exact h pins s σ H x v vl vu lo hi sl Q I rx hs pl pu q
  · exact h' pins s σ H x v vl vu lo hi sl Q I rx hs pl pu q
theorem dSl (hK : X.K = K := by rfl) : SlR X (rSlD K) := by subst hK; exact SlRor sl_list sl_str
end
/-! ### the reading, head by head -/
section
variable {K : PySem.W.Frag} {σ : L2.St} {H : Hp} {Q : VK} {D : Ends} {ta tb tc te : TE} {t u : TT} {tr : TA} {v x y : V} {g : TG}
theorem rd_var {i : Nat} (h : σ[i]? = some (some v)) (q : Q v H) : tVar i σ H Q := ⟨v, h, q⟩
theorem rd_c (q : Q v H) : tC v σ H Q := q
theorem rd_op {r : R2} (q : ta σ H fun x H1 => tb σ H1 fun y H2 => r x y H2 Q) : tOp r ta tb σ H Q := q
theorem rd_un {r : V → Hp → VK → Prop} (q : ta σ H fun x H1 => r x H1 Q) : tUn r ta σ H Q := q
theorem rd_cb {r : List V → Hp → VK → Prop} (q : tr σ H fun vs H1 => r vs H1 Q) : tCB r tr σ H Q := q
theorem rd_cons {Q : List V → Hp → Prop} (q : ta σ H fun x H1 => tr σ H1 fun xs H2 => Q (x :: xs) H2) : tCons ta tr σ H Q := q
theorem rd_nil {Q : List V → Hp → Prop} (q : Q [] H) : tNil σ H Q := q
theorem rd_test {Q : Bool → Hp → Prop} (q : te σ H fun x H' => ∃ k, x = .bl k ∧ Q k H') : tTest te σ H Q := q
theorem rd_B {Q : Bool → Hp → Prop} (q : te σ H fun x H' => ∃ k, x = .bl k ∧ Q k H') : tB te σ H Q := q
theorem rd_bl {c : Bool} {P : Bool → Prop} (q : P c) : ∃ k, V.bl c = V.bl k ∧ P k := ⟨c, rfl, q⟩
theorem rd_and {Q : Bool → Hp → Prop} (q : t σ H fun c H1 => if c = true then u σ H1 Q else Q false H1) : tAnd t u σ H Q := q
theorem rd_or {Q : Bool → Hp → Prop} (q : t σ H fun c H1 => if c = true then Q true H1 else u σ H1 Q) : tOr t u σ H Q := q
theorem rd_not {Q : Bool → Hp → Prop} (q : t σ H fun c H1 => Q (!c) H1) : tNot t σ H Q := q
theorem rd_andV (q : ta σ H fun x H1 => ∃ c, x = .bl c ∧ if c = true then tb σ H1 Q else Q (.bl false) H1) : tAndV ta tb σ H Q := q
theorem rd_orV (q : ta σ H fun x H1 => ∃ c, x = .bl c ∧ if c = true then Q (.bl true) H1 else tb σ H1 Q) : tOrV ta tb σ H Q := q
theorem rd_notV (q : ta σ H fun x H1 => ∃ c, x = .bl c ∧ Q (.bl (!c)) H1) : tNotV ta σ H Q := q
theorem rd_ifE (q : t σ H fun c H1 => if c = true then ta σ H1 Q else tb σ H1 Q) : tIf t ta tb σ H Q := q
theorem rd_chain {r r' : R2} (q : ta σ H fun x H1 => tb σ H1 fun y H2 => r x y H2 fun z H3 => ∃ k, z = .bl k ∧ if k = true then (tc σ H3 fun a H4 => r' y a H4 Q) else Q (.bl false) H3) : tChain r r' ta tb tc σ H Q := q
theorem rd_seq {s1 s2 : TS} (q : s1 { D with nx := s2 D } σ H) : tSeq s1 s2 D σ H := q
theorem rd_next (q : D.nx σ H) : tNext D σ H := q
theorem rd_if {s1 s2 : TS} (q : t σ H fun b H1 => if b = true then s1 D σ H1 else s2 D σ H1) : tIfS t s1 s2 D σ H := q
theorem rd_asg (q : te σ H fun x H1 => g x σ H1 D.nx) : tAsg te g D σ H := q
theorem rd_gname {i : Nat} {Q : L2.St → Hp → Prop} (q : Q (σ.set i (some v)) H) : gName i v σ H Q := q
theorem rd_gsub {ti to : TE} {ts : TSet} {Q : L2.St → Hp → Prop} (q : to σ H fun o H1 => ti σ H1 fun i H2 => ts o i v H2 fun H3 => Q σ H3) : gSub to ti ts v σ H Q := q
theorem rd_drop (q : te σ H fun _ H1 => D.nx σ H1) : tDrop te D σ H := q
theorem rd_ret (q : te σ H D.rt) : tRet te D σ H := q
theorem rd_retN (q : D.rt .non H) : tRetN D σ H := q
theorem rd_brk (q : D.bk σ H) : tBreak D σ H := q
theorem rd_cnt (q : D.ct σ H) : tCont D σ H := q
theorem rd_tup {tr : TA} (q : tr σ H fun xs H1 => xs.length ≤ sizeLine ∧ ∀ p, H1 p = none → Q (.ref p) (upd H1 p (.tup xs))) : tTup tr σ H Q := q
theorem rd_lst {tr : TA} (q : tr σ H fun xs H1 => xs.length ≤ sizeLine ∧ ∀ p, H1 p = none → Q (.ref p) (upd H1 p (.lst xs))) : tLst tr σ H Q := q
theorem rd_BM {T : String} {r : V → List V → Hp → VK → Prop} (q : te σ H fun x H1 => tyV K T x H1 ∧ tr σ H1 fun vs H2 => r x vs H2 Q) : tBM K T r te tr σ H Q := q
theorem rd_M1 {r : V → List V → Hp → VK → Prop} (q : ta σ H fun x H1 => (∃ a, x = .str a) ∧ tb σ H1 fun y H2 => r x [y] H2 Q) : tM1 r ta tb σ H Q := q
theorem rd_M0 {r : V → List V → Hp → VK → Prop} (q : ta σ H fun x H1 => (∃ a, x = .str a) ∧ r x [] H1 Q) : tM0 r ta σ H Q := q
theorem rd_isS {a : Str} {P : Prop} (q : P) : (∃ b, V.str a = V.str b) ∧ P := ⟨⟨a, rfl⟩, q⟩
theorem rd_call {sp : Sp} {dvs : List V} {E : XK} (q : tr σ H fun vs H1 => sp (vs ++ dvs) H1 Q E) : tCall sp dvs E tr σ H Q := q
theorem rd_andB {b b' : Bool} (hb : ∀ Qe : VK, Qe (.bl b') H → tb σ H Qe) (q : Q (.bl (b && b')) H) : ∃ c, V.bl b = .bl c ∧ if c = true then tb σ H Q else Q (.bl false) H := by
  refine ⟨b, rfl, ?_⟩
  cases b
  · exact iteF q
  · exact iteT (hb _ q)
theorem rd_orB {b b' : Bool} (hb : ∀ Qe : VK, Qe (.bl b') H → tb σ H Qe) (q : Q (.bl (b || b')) H) : ∃ c, V.bl b = .bl c ∧ if c = true then Q (.bl true) H else tb σ H Q := by
  refine ⟨b, rfl, ?_⟩
  cases b
  · exact iteF (hb _ q)
  · exact iteT q
theorem rd_tyL {a : Addr} {xs : List V} {P : Prop} (h : SqL K H a xs) (q : P) : tyV K "list" (.ref a) H ∧ P := ⟨.inl ⟨rfl, _, h⟩, q⟩
theorem rd_tyS {z : Str} {P : Prop} (q : P) : tyV K "str" (.str z) H ∧ P := ⟨rfl, q⟩
theorem rd_gtup {n : Nat} {ts : TGs} {a : Addr} {xs : List V} {Q : L2.St → Hp → Prop} (h : SqT K H a xs) (hn : xs.length = n) (q : ts xs σ H Q) : gTup K n ts (.ref a) σ H Q := ⟨a, xs, rfl, h, hn, q⟩
theorem rd_gcons {ts : TGs} {vs : List V} {Q : L2.St → Hp → Prop} (q : g v σ H fun σ' H' => ts vs σ' H' Q) : gCons g ts (v :: vs) σ H Q := ⟨v, vs, rfl, q⟩
theorem rd_gnil {Q : L2.St → Hp → Prop} (q : Q σ H) : gNil [] σ H Q := ⟨rfl, q⟩
theorem rd_sl {r : V → Option Int → Option Int → Hp → VK → Prop} {tl th : TO} (q : te σ H fun x H1 => tl σ H1 fun l H2 => th σ H2 fun u H3 => r x l u H3 Q) : tSl r te tl th σ H Q := q
theorem rd_nopart {Q : Option Int → Hp → Prop} (q : Q none H) : tNoPart σ H Q := q
theorem rd_part {Q : Option Int → Hp → Prop} (q : te σ H fun x H1 => ∃ i, x = .int i ∧ Q (some i) H1) : tPart te σ H Q := q
theorem rd_ii {i : Int} {P : Int → Prop} (q : P i) : ∃ k, V.int i = V.int k ∧ P k := ⟨i, rfl, q⟩
-- values
theorem rv_addI {i j : Int} (q : Q (.int (i + j)) H) : rAddD K (.int i) (.int j) H Q := .inl ⟨i, j, rfl, rfl, q⟩
theorem rv_addS {i j : Str} (h : i.length + j.length ≤ sizeLine) (q : Q (.str (i ++ j)) H) : rAddD K (.str i) (.str j) H Q := .inr (.inl ⟨i, j, rfl, rfl, h, q⟩)
theorem rv_addL {a b : Addr} {xs ys : List V} (ha : H a = some (.lst xs)) (hb : H b = some (.lst ys)) (h : xs.length + ys.length ≤ sizeLine) (q : ∀ p, H p = none → Q (.ref p) (upd H p (.lst (xs ++ ys)))) : rAddD K (.ref a) (.ref b) H Q := .inr (.inr (.inl ⟨a, b, xs, ys, rfl, rfl, ha, hb, h, q⟩))
theorem rv_sub {i j : Int} (q : Q (.int (i - j)) H) : rSubD (.int i) (.int j) H Q := ⟨i, j, rfl, rfl, q⟩
theorem rv_mulI {i j : Int} (c : CMul i j) (q : Q (.int (i * j)) H) : rMulD (.int i) (.int j) H Q := .inl ⟨i, j, rfl, rfl, c, q⟩
theorem rv_rep {l : Addr} {k : Int} {xs : List V} (h : H l = some (.lst xs)) (c : -(2 ^ 63) ≤ k ∧ k < 2 ^ 63 ∧ xs.length * k.toNat ≤ sizeLine) (q : ∀ p, H p = none → Q (.ref p) (upd H p (.lst (List.replicate k.toNat xs).flatten))) : rMulD (.ref l) (.int k) H Q := .inr ⟨l, k, xs, rfl, rfl, h, c.1, c.2.1, c.2.2, q⟩
theorem rv_mod {i j : Int} (c : j ≠ 0) (q : Q (.int (i.fmod j)) H) : rModD (.int i) (.int j) H Q := ⟨i, j, rfl, rfl, c, q⟩
theorem rv_div {i j : Int} (c : CDivW i j) (q : Q (.int (i / j)) H) : rDivD (.int i) (.int j) H Q := ⟨i, j, rfl, rfl, c, q⟩
theorem rv_pow {i j : Int} (c : CPow i j) (q : Q (.int (i ^ j.toNat)) H) : rPowD (.int i) (.int j) H Q := ⟨i, j, rfl, rfl, c, q⟩
theorem rv_lt {i j : Int} (q : Q (.bl (decide (i < j))) H) : rLtD (.int i) (.int j) H Q := ⟨i, j, rfl, rfl, q⟩
theorem rv_le {i j : Int} (q : Q (.bl (decide (i ≤ j))) H) : rLeD (.int i) (.int j) H Q := ⟨i, j, rfl, rfl, q⟩
theorem rv_gt {i j : Int} (q : Q (.bl (decide (j < i))) H) : rGtD (.int i) (.int j) H Q := ⟨i, j, rfl, rfl, q⟩
theorem rv_ge {i j : Int} (q : Q (.bl (decide (j ≤ i))) H) : rGeD (.int i) (.int j) H Q := ⟨i, j, rfl, rfl, q⟩
theorem dec_int (i j : Int) : decide (V.int i = V.int j) = decide (i = j) := decide_eq_decide.mpr ⟨V.int.inj, fun e => by rw [e]⟩
theorem dec_str (i j : Str) : decide (V.str i = V.str j) = decide (i = j) := decide_eq_decide.mpr ⟨V.str.inj, fun e => by rw [e]⟩
theorem dec_bl (i j : Bool) : decide (V.bl i = V.bl j) = decide (i = j) := decide_eq_decide.mpr ⟨V.bl.inj, fun e => by rw [e]⟩
theorem rv_eqI {i j : Int} (q : Q (.bl (decide (i = j))) H) : rEq (.int i) (.int j) H Q := ⟨rfl, by rw [dec_int]; exact q⟩
theorem rv_eqS {i j : Str} (q : Q (.bl (decide (i = j))) H) : rEq (.str i) (.str j) H Q := ⟨rfl, by rw [dec_str]; exact q⟩
theorem rv_eqB {i j : Bool} (q : Q (.bl (decide (i = j))) H) : rEq (.bl i) (.bl j) H Q := ⟨rfl, by rw [dec_bl]; exact q⟩
theorem rv_neI {i j : Int} (q : Q (.bl (!decide (i = j))) H) : rNe (.int i) (.int j) H Q := ⟨rfl, by rw [dec_int]; exact q⟩
theorem rv_neS {i j : Str} (q : Q (.bl (!decide (i = j))) H) : rNe (.str i) (.str j) H Q := ⟨rfl, by rw [dec_str]; exact q⟩
theorem rv_neB {i j : Bool} (q : Q (.bl (!decide (i = j))) H) : rNe (.bl i) (.bl j) H Q := ⟨rfl, by rw [dec_bl]; exact q⟩
theorem rv_ixL {p : Addr} {xs : List V} {i : Int} (h : SqL K H p xs) (c : atI xs i = some v) (q : Q v H) : rIxD K (.ref p) (.int i) H Q := .inl ⟨p, xs, i, v, rfl, rfl, h, c, q⟩
theorem rv_ixT {p : Addr} {xs : List V} {i : Int} (h : SqT K H p xs) (c : atI xs i = some v) (q : Q v H) : rIxD K (.ref p) (.int i) H Q := .inr (.inl ⟨p, xs, i, v, rfl, rfl, h, c, q⟩)
theorem rv_ixS {z : Str} {i : Int} {c : Nat} (h : z.length ≤ sizeLine) (e : atI z.cps.toList i = some c) (q : Q (.str ⟨#[c]⟩) H) : rIxD K (.str z) (.int i) H Q := .inr (.inr ⟨z, i, c, rfl, rfl, h, e, q⟩)
theorem rv_inS {c : Nat} {z : Str} (q : Q (.bl (decide (c ∈ z.cps.toList))) H) : rInD K false (.str ⟨#[c]⟩) (.str z) H Q := .inr ⟨c, z, rfl, rfl, q⟩
theorem rv_ninS {c : Nat} {z : Str} (q : Q (.bl (!decide (c ∈ z.cps.toList))) H) : rInD K true (.str ⟨#[c]⟩) (.str z) H Q := .inr ⟨c, z, rfl, rfl, q⟩
theorem rv_inL {p : Addr} {xs : List V} (h : SqL K H p xs) (hx : flatV x = true) (hf : xs.all flatV = true) (q : Q (.bl (inV x xs)) H) : rInD K false x (.ref p) H Q := .inl ⟨p, xs, rfl, .inl h, hx, hf, q⟩
theorem rv_ninL {p : Addr} {xs : List V} (h : SqL K H p xs) (hx : flatV x = true) (hf : xs.all flatV = true) (q : Q (.bl (!inV x xs)) H) : rInD K true x (.ref p) H Q := .inl ⟨p, xs, rfl, .inl h, hx, hf, q⟩
theorem rv_all {p : Addr} {bs : List Bool} (h : SqL K H p (bs.map V.bl)) (q : Q (.bl (bs.all id)) H) : rAll K [.ref p] H Q := ⟨p, bs, rfl, h, q⟩
theorem rv_int {i : Int} (q : Q (.int i) H) : rIntD [.int i] H Q := .inl ⟨i, rfl, q⟩
theorem rv_lenL {p : Addr} {xs : List V} (h : SqL K H p xs) (q : Q (.int xs.length) H) : rLenD K [.ref p] H Q := ⟨_, _, rfl, .inl ⟨xs, h, rfl⟩, q⟩
theorem rv_lenT {p : Addr} {xs : List V} (h : SqT K H p xs) (q : Q (.int xs.length) H) : rLenD K [.ref p] H Q := ⟨_, _, rfl, .inr ⟨xs, h, rfl⟩, q⟩
theorem rv_lenS {z : Str} (h : z.length ≤ sizeLine) (q : Q (.int z.length) H) : rLenD K [.str z] H Q := ⟨_, _, rfl, ⟨h, rfl⟩, q⟩
theorem rv_abs {i : Int} (q : Q (.int (if i < 0 then -i else i)) H) : rAbsD [.int i] H Q := ⟨i, rfl, q⟩
theorem rv_max2 {i j : Int} (q : Q (.int (if j > i then j else i)) H) : rMax2D [.int i, .int j] H Q := ⟨i, j, rfl, q⟩
theorem rv_min2 {i j : Int} (q : Q (.int (if j < i then j else i)) H) : rMin2D [.int i, .int j] H Q := ⟨i, j, rfl, q⟩
theorem rv_ord {c : Nat} (q : Q (.int (c : Int)) H) : rOrdD [.str ⟨#[c]⟩] H Q := ⟨_, rfl, rfl, q⟩
theorem rv_setL {p : Addr} {xs : List V} {k : Int} {j : Nat} {Q : Hp → Prop} (h : H p = some (.lst xs)) (c : ixN xs.length k = some j) (q : Q (upd H p (.lst (xs.set j v)))) : rSetL (.ref p) (.int k) v H Q := ⟨p, xs, k, j, rfl, rfl, h, c, q⟩
theorem rv_app {l : Addr} {xs : List V} (h : H l = some (.lst xs)) (c : xs.length < sizeLine) (q : Q .non (upd H l (.lst (xs ++ [y])))) : rAppend (.ref l) [y] H Q := ⟨l, xs, y, rfl, rfl, h, c, q⟩
theorem rv_ext {l b : Addr} {xs zs : List V} (h : H l = some (.lst xs)) (h2 : H b = some (.lst zs)) (c : xs.length + zs.length ≤ sizeLine) (q : Q .non (upd H l (.lst (xs ++ zs)))) : rExtend (.ref l) [.ref b] H Q := ⟨l, b, xs, zs, rfl, rfl, h, h2, c, q⟩
theorem rv_slL {p : Addr} {xs : List V} {lo hi : Option Int} (h : SqL K H p xs) (q : ∀ a, H a = none → Q (.ref a) (upd H a (.lst (cutV xs lo hi)))) : rSlD K (.ref p) lo hi H Q := .inl ⟨p, xs, rfl, h, q⟩
theorem rv_slS {z : Str} {lo hi : Option Int} (h : z.length ≤ sizeLine) (q : Q (.str (cutS z lo hi)) H) : rSlD K (.str z) lo hi H Q := .inr ⟨z, rfl, h, q⟩
theorem rv_neg {i : Int} (q : Q (.int (-i)) H) : rU (fun i => .int (-i)) (.int i) H Q := ⟨i, rfl, q⟩
end
/-! ### heaps -/
theorem same_upd {H : Hp} {p : Addr} {o : HO} (h : H p = none) : Same H (upd H p o) := fun b x e => by
  rw [upd_ne (ne_of_none e h)]
  exact e
/-- all that stands elsewhere than at b is kept -/
def Off (b : Addr) (H H' : Hp) : Prop := ∀ a o, a ≠ b → H a = some o → H' a = some o
theorem Off.get {b : Addr} {H H' : Hp} {a : Addr} {o : HO} (h : Off b H H') (n : a ≠ b) (e : H a = some o) : H' a = some o := h a o n e
theorem Off.refl (b : Addr) (H : Hp) : Off b H H := fun _ _ _ e => e
theorem Off.trans {b : Addr} {H H1 H2 : Hp} (x : Off b H H1) (y : Off b H1 H2) : Off b H H2 := fun a o n e => y a o n (x a o n e)
theorem Off.new {b : Addr} {H H1 : Hp} {p : Addr} {o : HO} (x : Off b H H1) (h : H1 p = none) : Off b H (upd H1 p o) := fun a u n e => by
  have z := x a u n e
  rw [upd_ne (ne_of_none z h)]
  exact z
theorem Off.set {b : Addr} {H H1 : Hp} {o : HO} (x : Off b H H1) : Off b H (upd H1 b o) := fun a u n e => by
  rw [upd_ne n]
  exact x a u n e
theorem Off.mut {b : Addr} {H H1 : Hp} {p : Addr} {o : HO} (x : Off b H H1) (h : H p = none) : Off b H (upd H1 p o) := fun a u n e => by
  rw [upd_ne (ne_of_none e h)]
  exact x a u n e
theorem Off.of_same {b : Addr} {H H1 : Hp} (x : Same H H1) : Off b H H1 := fun a o _ e => x a o e
theorem Off.fresh {b : Addr} {H H1 : Hp} {p : Addr} (x : Off b H H1) (n : p ≠ b) (h : H1 p = none) : H p = none := by
  cases e : H p with
  | none => rfl
  | some o => rw [x p o n e] at h; cases h
theorem Off.seq {K : PySem.W.Frag} {b : Addr} {H H' : Hp} {a : Addr} {xs : List V} (h : Off b H H') (n : a ≠ b) (e : SqL K H a xs) : SqL K H' a xs := by
  rcases e with e | e
  · rcases e with e | ⟨o, e⟩
    · exact .inl (.inl (h a _ n e))
    · exact .inl (.inr ⟨o, h a _ n e⟩)
  · exact .inr e
theorem Off.seqT {K : PySem.W.Frag} {b : Addr} {H H' : Hp} {a : Addr} {xs : List V} (h : Off b H H') (n : a ≠ b) (e : SqT K H a xs) : SqT K H' a xs := by
  rcases e with e | e
  · rcases e with e | ⟨o, e⟩
    · exact .inl (.inl (h a _ n e))
    · exact .inl (.inr ⟨o, h a _ n e⟩)
  · exact .inr e
theorem sq_set {K : PySem.W.Frag} {H : Hp} {b c : Addr} {o : HO} {xs : List V} (n : c ≠ b) (e : SqL K H c xs) : SqL K (upd H b o) c xs := (Off.refl b H).set.seq n e
theorem sq_new {K : PySem.W.Frag} {H : Hp} {p c : Addr} {o : HO} {xs : List V} (n : H p = none) (e : SqL K H c xs) : SqL K (upd H p o) c xs := (same_upd n).seq e
theorem hp_set {H : Hp} {b a : Addr} {o : HO} {u : Option HO} (n : a ≠ b) (e : H a = u) : upd H b o a = u := (upd_ne n).trans e
theorem hp_new {H : Hp} {p a : Addr} {o u : HO} (n : H p = none) (e : H a = some u) : upd H p o a = some u := same_upd n _ _ e
/-! ### tests -/
theorem iteD {p A B : Prop} [Decidable p] (h1 : p → A) (h2 : ¬ p → B) : if decide p = true then A else B := by
  by_cases h : p
  · rw [if_pos (decide_eq_true h)]; exact h1 h
  · rw [if_neg (by simpa using h)]; exact h2 h
theorem iteND {p A B : Prop} [Decidable p] (h1 : ¬ p → A) (h2 : p → B) : if (!decide p) = true then A else B := by
  by_cases h : p
  · rw [if_neg (by simpa using h)]; exact h2 h
  · rw [if_pos (by simpa using h)]; exact h1 h
theorem iteB {b : Bool} {A B : Prop} (h1 : b = true → A) (h2 : b = false → B) : if b = true then A else B := by
  cases b
  · rw [if_neg Bool.false_ne_true]; exact h2 rfl
  · rw [if_pos rfl]; exact h1 rfl
/-! ### numbers -/
theorem sz4 {n : Nat} (h : n ≤ 100000) : n ≤ sizeLine := Nat.le_trans h (by decide)
theorem sz4' {n : Nat} (h : n ≤ 100000) : n < sizeLine := Nat.lt_of_le_of_lt h (by decide)
theorem at_ints {cs : List Int} {i : Int} (h0 : 0 ≤ i) (h1 : i < ((cs.map V.int).length : Int)) : atI (cs.map V.int) i = some (.int (cs.getD i.toNat 0)) := by
  obtain ⟨j, rfl⟩ := Int.eq_ofNat_of_zero_le h0
  have hl : j < cs.length := by rw [List.length_map] at h1; omega
  refine atI_nat ?_
  rw [List.getElem?_map, List.getElem?_eq_getElem hl]
  simp [List.getD_eq_getElem?_getD, hl]
theorem fm0 {x m : Int} (h : 0 < m) : 0 ≤ x.fmod m := by rw [Int.fmod_eq_emod_of_nonneg _ (by omega)]; exact Int.emod_nonneg _ (by omega)
theorem fm1 {x m : Int} (h : 0 < m) : x.fmod m < m := by rw [Int.fmod_eq_emod_of_nonneg _ (by omega)]; exact Int.emod_lt_of_pos _ h
theorem mul_fm {x c j : Int} (h : 0 < c) (h2 : c ≤ 2 ^ 64) : CMul (x.fmod c) j := .inl ⟨by have := fm0 (x := x) h; omega, by have := fm1 (x := x) h; omega⟩
theorem div_m {z m : Int} (h : 0 < m) (h2 : m < 2 ^ 1000) : CDivW z m := wide_div (b := 1000) h (by omega) (by decide) (by decide)
theorem div97 {z : Int} : CDivW z 97 := wide_div (b := 8) (by decide) (by decide) (by decide) (by decide)
theorem div3 {z : Int} : CDivW z 3 := wide_div (b := 8) (by decide) (by decide) (by decide) (by decide)
theorem div2 {z : Int} : CDivW z 2 := wide_div (b := 8) (by decide) (by decide) (by decide) (by decide)
/-! ### the bag of draws -/
def BagAt (b c : Addr) (cs : List Int) (H : Hp) : Prop := ∃ (i z s n k : Int), H b = some (.lst [.ref c, .int i, .int z, .int s, .int n, .int k]) ∧ c ≠ b ∧ H c = some (.lst (cs.map V.int)) ∧ 0 ≤ i ∧ 0 ≤ z
theorem BagAt.ne {b c : Addr} {cs : List Int} {H : Hp} {p : Addr} (x : BagAt b c cs H) (h : H p = none) : p ≠ b := by
  obtain ⟨i, z, s, n, k, e, _⟩ := x
  exact (ne_of_none e h).symm
theorem BagAt.ne2 {b c : Addr} {cs : List Int} {H : Hp} {p : Addr} (x : BagAt b c cs H) (h : H p = none) : p ≠ c := by
  obtain ⟨i, z, s, n, k, e, _, e2, _⟩ := x
  exact (ne_of_none e2 h).symm
theorem BagAt.put {b c : Addr} {cs : List Int} {H : Hp} {p : Addr} {o : HO} (x : BagAt b c cs H) (h : p ≠ b) (h2 : p ≠ c) : BagAt b c cs (upd H p o) := by
  obtain ⟨i, z, s, n, k, e, nc, hc, h1, h2'⟩ := x
  exact ⟨i, z, s, n, k, (upd_ne h.symm).trans e, nc, (upd_ne h2.symm).trans hc, h1, h2'⟩
theorem BagAt.new {b c : Addr} {cs : List Int} {H : Hp} {p : Addr} {o : HO} (x : BagAt b c cs H) (h : H p = none) : BagAt b c cs (upd H p o) := x.put (x.ne h) (x.ne2 h)
theorem BagAt.same {b c : Addr} {cs : List Int} {H H' : Hp} (x : BagAt b c cs H) (f : Same H H') : BagAt b c cs H' := by
  obtain ⟨i, z, s, n, k, e, nc, hc, h1, h2⟩ := x
  exact ⟨i, z, s, n, k, f _ _ e, nc, f _ _ hc, h1, h2⟩
def spDraw : Sp := fun vs H Q _ => ∃ (b c : Addr) (cs : List Int) (m : Int), vs = [.ref b, .int m] ∧ 0 < m ∧ m < 2 ^ 1000 ∧ BagAt b c cs H ∧ ∀ H' (r : Int), Off b H H' → BagAt b c cs H' → 0 ≤ r → r < m → Q (.int r) H'
def spBag (K : PySem.W.Frag) : Sp := fun vs H Q _ => ∃ (a : Addr) (ns : List Int), vs = [.ref a] ∧ SqL K H a (ns.map V.int) ∧ ns.length ≤ 63 ∧ ∀ H' b c cs, Same H H' → H b = none → BagAt b c cs H' → Q (.ref b) H'
theorem at_all {xs : List V} {P : V → Prop} (h : ∀ v ∈ xs, P v) {i : Int} (h0 : 0 ≤ i) (h1 : i < (xs.length : Int)) : ∃ v, atI xs i = some v ∧ P v := by
  obtain ⟨j, rfl⟩ := Int.eq_ofNat_of_zero_le h0
  have hl : j < xs.length := by omega
  exact ⟨xs[j], atI_nat (List.getElem?_eq_getElem hl), h _ (List.getElem_mem hl)⟩
theorem at_str {z : Str} {i : Int} (h0 : 0 ≤ i) (h1 : i < (z.length : Int)) : ∃ c, atI z.cps.toList i = some c ∧ c ∈ z.cps.toList := by
  obtain ⟨j, rfl⟩ := Int.eq_ofNat_of_zero_le h0
  have hl : j < z.cps.toList.length := by have : z.cps.toList.length = z.length := by simp [Str.length]
                                          omega
  exact ⟨z.cps.toList[j], atI_nat (List.getElem?_eq_getElem hl), List.getElem_mem hl⟩
end D0
namespace D0
open PySem PySem.Spec PyProof.Rows L2
section
variable {K : PySem.W.Frag} {σ : L2.St} {H : Hp} {Q : VK} {te tl : TE} {ta : TA} {vs : List Nat} {j : Nat}
theorem rd_yes {Q : Bool → Hp → Prop} (q : Q true H) : tYes σ H Q := q
theorem rd_callN {n m : Nat} {sp : Sp} {gV : List V → List V → List V} {E : XK} {t tk : TA} (q : t σ H fun vs H1 => tk σ H1 fun zs H2 => vs.length = n ∧ zs.length = m ∧ sp (gV vs zs) H2 Q E) : tCallN n m sp gV E t tk σ H Q := q
theorem rv_slSany {z : Str} {lo hi : Option Int} (h : z.length ≤ sizeLine) (q : ∀ y : Str, y.length ≤ z.length → Q (.str y) H) : rSlD K (.str z) lo hi H Q := rv_slS h (q _ (cutS_length z lo hi))
theorem ones (us : List Nat) : (us.map fun _ => 1).sum = us.length := by
  induction us with
  | nil => rfl
  | cons x r ih => rw [List.map_cons, List.sum_cons, ih, List.length_cons]; omega
theorem strlen_app (a b : Str) : (a ++ b).length = a.length + b.length := PySem.Str.length_append a b
theorem dRevL {X : Cx} (K : PySem.W.Frag) {e : Expr} {te : TE} {k : Nat} {p1 p2 p3 pos : Pos} (he : PE X e te) (hK : X.K = K := by rfl) : PE X (.Subscript e (.Slice none none (some (.UnaryOp .USub (.Constant (.int 1) k p1) p2)) p3) pos) (tRevL K te) := by subst hK; exact pe_revL he
theorem rd_revL (q : te σ H fun x H1 => ∃ a xs, x = .ref a ∧ SqL K H1 a xs ∧ ∀ p, H1 p = none → Q (.ref p) (upd H1 p (.lst xs.reverse))) : tRevL K te σ H Q := q
theorem rv_revL {a : Addr} {xs : List V} {R : Addr → List V → Prop} (h : SqL K H a xs) (q : R a xs) : ∃ a' xs', V.ref a = .ref a' ∧ SqL K H a' xs' ∧ R a' xs' := ⟨a, xs, rfl, h, q⟩
theorem rd_rng1 {R : It → Hp → Prop} (q : ta σ H fun vs H1 => ∃ j : Int, vs = [.int j] ∧ -(2 ^ 62) ≤ j ∧ j < 2 ^ 62 ∧ R (Itr 0 j.toNat) H1) : iRng1 ta σ H R := q
theorem rd_ss {z : Str} {P : Str → Prop} (q : P z) : ∃ k, V.str z = V.str k ∧ P k := ⟨z, rfl, q⟩
theorem rv_up {z : Str} {P : Str → Prop} (h : z.length ≤ 5592405) (q : P z) : ∃ a, V.str z = V.str a ∧ ([] : List V) = [] ∧ a.length ≤ 5592405 ∧ P a := ⟨z, rfl, rfl, h, q⟩
theorem rd_iList {R : It → Hp → Prop} (q : te σ H fun x H1 => ∃ a, x = .ref a ∧ (∃ xs, SqL K H1 a xs) ∧ R (Itl K a) H1) : iList K te σ H R := q
theorem rv_iL {a : Addr} {xs : List V} {R : Addr → Prop} (h : SqL K H a xs) (q : R a) : ∃ a', V.ref a = .ref a' ∧ (∃ xs, SqL K H a' xs) ∧ R a' := ⟨a, rfl, ⟨xs, h⟩, q⟩
theorem rd_for {wi : TI} {g : TG} {tb : TS} {D : Ends} (q : wi σ H fun J H1 => ∃ W : Nat → Nat → L2.St → Hp → Prop, (∃ m, W 0 m σ H1) ∧ ∀ i m σ H, W i m σ H →
    (J.stop i H ∧ D.nx σ H) ∨ (J.go i H ∧ ∃ N : L2.St → Hp → Prop, (∀ σ' H', N σ' H' → ∃ m', m' < m ∧ W (i + 1) m' σ' H') ∧ ∀ x H', J.yld i H x H' → g x σ H' fun σ2 H2 => tb { D with nx := N, ct := N, bk := D.nx } σ2 H2)) : tFor wi g tb D σ H := q
theorem rv_isiB {b : Bool} {ty : String} {r : Bool} (h : kitB "bool" ty = some r) (q : Q (.bl r) H) : rIsi K [.bl b, .ty ty] H Q := ⟨_, _, _, _, _, rfl, .ty ty, .base (.bl b), kit_ty h, q⟩
theorem rv_isiI {b : Int} {ty : String} {r : Bool} (h : kitB "int" ty = some r) (q : Q (.bl r) H) : rIsi K [.int b, .ty ty] H Q := ⟨_, _, _, _, _, rfl, .ty ty, .base (.int b), kit_ty h, q⟩
theorem rv_isiN {ty : String} {r : Bool} (h : kitB "NoneType" ty = some r) (q : Q (.bl r) H) : rIsi K [.non, .ty ty] H Q := ⟨_, _, _, _, _, rfl, .ty ty, .base .non, kit_ty h, q⟩
theorem rv_isiL {a : Addr} {xs : List V} {ty : String} {r : Bool} (e : H a = some (.lst xs)) (h : kitB "list" ty = some r) (q : Q (.bl r) H) : rIsi K [.ref a, .ty ty] H Q := ⟨_, _, _, _, _, rfl, .ty ty, .base (.lst e), kit_ty h, q⟩
theorem rv_isiT {a : Addr} {xs : List V} {ty : String} {r : Bool} (e : H a = some (.tup xs)) (h : kitB "tuple" ty = some r) (q : Q (.bl r) H) : rIsi K [.ref a, .ty ty] H Q := ⟨_, _, _, _, _, rfl, .ty ty, .base (.tup e), kit_ty h, q⟩
theorem rv_isiS {b : Str} {ty : String} {r : Bool} (h : kitB "str" ty = some r) (q : Q (.bl r) H) : rIsi K [.str b, .ty ty] H Q := ⟨_, _, _, _, _, rfl, .ty ty, .base (.str b), kit_ty h, q⟩
theorem isi_bool_bool : kitB "bool" "bool" = some true := by decide +kernel
theorem isi_bool_int : kitB "bool" "int" = some true := by decide +kernel
theorem isi_bool_str : kitB "bool" "str" = some false := by decide +kernel
theorem isi_bool_list : kitB "bool" "list" = some false := by decide +kernel
theorem isi_bool_tuple : kitB "bool" "tuple" = some false := by decide +kernel
theorem isi_bool_dict : kitB "bool" "dict" = some false := by decide +kernel
theorem isi_int_bool : kitB "int" "bool" = some false := by decide +kernel
theorem isi_int_int : kitB "int" "int" = some true := by decide +kernel
theorem isi_int_str : kitB "int" "str" = some false := by decide +kernel
theorem isi_int_list : kitB "int" "list" = some false := by decide +kernel
theorem isi_int_tuple : kitB "int" "tuple" = some false := by decide +kernel
theorem isi_int_dict : kitB "int" "dict" = some false := by decide +kernel
theorem isi_str_bool : kitB "str" "bool" = some false := by decide +kernel
theorem isi_str_int : kitB "str" "int" = some false := by decide +kernel
theorem isi_str_str : kitB "str" "str" = some true := by decide +kernel
theorem isi_str_list : kitB "str" "list" = some false := by decide +kernel
theorem isi_str_tuple : kitB "str" "tuple" = some false := by decide +kernel
theorem isi_str_dict : kitB "str" "dict" = some false := by decide +kernel
theorem isi_list_bool : kitB "list" "bool" = some false := by decide +kernel
theorem isi_list_int : kitB "list" "int" = some false := by decide +kernel
theorem isi_list_str : kitB "list" "str" = some false := by decide +kernel
theorem isi_list_list : kitB "list" "list" = some true := by decide +kernel
theorem isi_list_tuple : kitB "list" "tuple" = some false := by decide +kernel
theorem isi_list_dict : kitB "list" "dict" = some false := by decide +kernel
theorem isi_tuple_bool : kitB "tuple" "bool" = some false := by decide +kernel
theorem isi_tuple_int : kitB "tuple" "int" = some false := by decide +kernel
theorem isi_tuple_str : kitB "tuple" "str" = some false := by decide +kernel
theorem isi_tuple_list : kitB "tuple" "list" = some false := by decide +kernel
theorem isi_tuple_tuple : kitB "tuple" "tuple" = some true := by decide +kernel
theorem isi_tuple_dict : kitB "tuple" "dict" = some false := by decide +kernel
theorem isi_dict_bool : kitB "dict" "bool" = some false := by decide +kernel
theorem isi_dict_int : kitB "dict" "int" = some false := by decide +kernel
theorem isi_dict_str : kitB "dict" "str" = some false := by decide +kernel
theorem isi_dict_list : kitB "dict" "list" = some false := by decide +kernel
theorem isi_dict_tuple : kitB "dict" "tuple" = some false := by decide +kernel
theorem isi_dict_dict : kitB "dict" "dict" = some true := by decide +kernel
theorem isi_NoneType_bool : kitB "NoneType" "bool" = some false := by decide +kernel
theorem isi_NoneType_int : kitB "NoneType" "int" = some false := by decide +kernel
theorem isi_NoneType_str : kitB "NoneType" "str" = some false := by decide +kernel
theorem isi_NoneType_list : kitB "NoneType" "list" = some false := by decide +kernel
theorem isi_NoneType_tuple : kitB "NoneType" "tuple" = some false := by decide +kernel
theorem isi_NoneType_dict : kitB "NoneType" "dict" = some false := by decide +kernel
theorem rd_wipe {σ1 σ2 : L2.St} {R : Prop} (h : σ1 = σ2) (q : R) : σ1 = σ2 ∧ R := ⟨h, q⟩
theorem upd_lst {H : Hp} {D : Addr} {o u : HO} : upd (upd H D o) D u = upd H D u := upd_upd
/-- [e for x in xs], e of x a value f x -/
theorem lc_map {a : Addr} {xs : List V} (f : V → V) (hl : ∀ Qe : VK, Qe (.ref a) H → tl σ H Qe) (hs : SqL K H a xs) (hz : xs.length < sizeLine) (hw : ∀ x, wipe ((wipe σ vs).set j (some x)) vs = wipe σ vs)
    (he : ∀ (i : Nat) (x : V) (H' : Hp), xs[i]? = some x → Same H H' → ∀ Qe : VK, (∀ H'', Same H' H'' → Qe (f x) H'') → te ((wipe σ vs).set j (some x)) H' Qe)
    (q : ∀ D H', H D = none → Same H H' → H' D = some (.lst (xs.map f)) → Q (.ref D) H') : tLc (iList K tl) (gName j) tYes te vs σ H Q := by
  refine hl _ ⟨a, rfl, ⟨_, hs⟩, fun D hD => ?_⟩
  refine lc_list (K := K) (a := a) (xs := xs) (fun i H' => Same H H' ∧ H' D = some (.lst ((xs.take i).map f))) ⟨same_upd hD, upd_same⟩ (fun i H' _ h => h.1.seq hs) ?_ ?_
  · rintro i x H' hx ⟨s, e⟩
    refine ⟨hw x, rd_yes (iteT ?_)⟩
    refine he i x H' hx s _ fun H'' s2 => ?_
    refine ⟨_, s2 _ _ e, ?_, ?_, ?_⟩
    · rw [List.length_map, List.length_take]; omega
    · intro b o eb
      have nb : b ≠ D := ne_of_none eb hD
      rw [upd_ne nb]
      exact s2 _ _ (s _ _ eb)
    · rw [upd_same, List.take_add_one, hx, List.map_append]; rfl
  · rintro H' ⟨s, e⟩
    rw [List.take_length] at e
    exact q D H' hD s e
/-- [e for k in range(n)], e drawing from the bag at b; every item has P -/
theorem lc_draw {b c : Addr} {cs : List Int} {n : Nat} (P : V → Prop) (hn : n ≤ 1000000) (hl : ∀ Qe : List V → Hp → Prop, Qe [.int (n : Int)] H → ta σ H Qe) (B : BagAt b c cs H) (hw : ∀ x, wipe ((wipe σ vs).set j (some x)) vs = wipe σ vs)
    (he : ∀ (i : Nat) (H' : Hp), i < n → Off b H H' → BagAt b c cs H' → ∀ Qe : VK, (∀ (y : V) (H'' : Hp), Off b H' H'' → BagAt b c cs H'' → P y → Qe y H'') → te ((wipe σ vs).set j (some (.int (i : Int)))) H' Qe)
    (q : ∀ D ys H', H D = none → Off b H H' → BagAt b c cs H' → H' D = some (.lst ys) → ys.length = n → (∀ y ∈ ys, P y) → Q (.ref D) H') : tLc (iRng1 ta) (gName j) tYes te vs σ H Q := by
  have hz : n < sizeLine := Nat.lt_of_le_of_lt hn (by decide)
  refine hl _ ⟨(n : Int), rfl, by omega, by omega, fun D hD => ?_⟩
  have hDb : D ≠ b := B.ne hD
  have hDc : D ≠ c := B.ne2 hD
  refine lc_range (lo := 0) (n := ((n : Int)).toNat) (fun i H' => ∃ ys : List V, Off b H H' ∧ BagAt b c cs H' ∧ H' D = some (.lst ys) ∧ ys.length = i ∧ ∀ y ∈ ys, P y) ⟨[], (Off.refl b H).new hD, B.new hD, upd_same, rfl, fun y h => nomatch h⟩ ?_ ?_
  · rintro i H' hi ⟨ys, f, B', e, el, hp⟩
    refine ⟨hw _, rd_yes (iteT ?_)⟩
    rw [show (0 : Int) + (i : Int) = (i : Int) by omega]
    refine he i H' (by omega) f B' _ fun y H'' f2 B2 py => ?_
    have e2 := f2.get hDb e
    refine ⟨_, e2, by omega, ys ++ [y], (f.trans f2).mut hD, B2.put hDb hDc, upd_same, by simp [el], ?_⟩
    intro y' hy
    rcases List.mem_append.mp hy with hy | hy
    · exact hp y' hy
    · rw [List.mem_singleton.mp hy]; exact py
  · rintro H' ⟨ys, f, B', e, el, hp⟩
    exact q D ys H' hD f B' e (by omega) hp
/-- [e for s in text], e of a sign a value f c -/
theorem lc_smap {z : Str} (f : Nat → V) (hl : ∀ Qe : VK, Qe (.str z) H → tl σ H Qe) (hz : z.length < sizeLine) (hw : ∀ x, wipe ((wipe σ vs).set j (some x)) vs = wipe σ vs)
    (he : ∀ (i : Nat) (c : Nat) (H' : Hp), z.cps[i]? = some c → Same H H' → ∀ Qe : VK, (∀ H'', Same H' H'' → Qe (f c) H'') → te ((wipe σ vs).set j (some (.str ⟨#[c]⟩))) H' Qe)
    (q : ∀ D H', H D = none → Same H H' → H' D = some (.lst (z.cps.toList.map f)) → Q (.ref D) H') : tLc (iStr tl) (gName j) tYes te vs σ H Q := by
  refine hl _ ⟨z, rfl, fun D hD => ?_⟩
  refine ⟨fun i m H' => i + m = z.cps.size ∧ Same H H' ∧ H' D = some (.lst ((z.cps.toList.take i).map f)), ⟨z.cps.size, by omega, same_upd hD, upd_same⟩, ?_⟩
  rintro i m H' ⟨em, s, e⟩
  by_cases hi : i < z.cps.size
  · refine .inr ⟨hi, fun H2 => Same H H2 ∧ H2 D = some (.lst ((z.cps.toList.take (i + 1)).map f)), fun H2 h2 => ⟨m - 1, by omega, by omega, h2.1, h2.2⟩, ?_⟩
    rintro x H2 ⟨rfl, c, hc, rfl⟩
    refine ⟨hw _, rd_yes (iteT ?_)⟩
    refine he i c H2 hc s _ fun H'' s2 => ?_
    refine ⟨_, s2 _ _ e, ?_, ?_, ?_⟩
    · rw [List.length_map, List.length_take]; show _ < sizeLine; have : z.length = z.cps.size := rfl; have : z.cps.toList.length = z.cps.size := by simp
      omega
    · intro b o eb
      have nb : b ≠ D := ne_of_none eb hD
      rw [upd_ne nb]
      exact s2 _ _ (s _ _ eb)
    · have hc' : z.cps.toList[i]? = some c := by rw [Array.getElem?_toList]; exact hc
      rw [upd_same, List.take_add_one, hc', List.map_append]; rfl
  · refine .inl ⟨by show z.cps.size ≤ i; omega, ?_⟩
    have ei : z.cps.toList.take i = z.cps.toList := List.take_of_length_le (by simp; omega)
    rw [ei] at e
    exact q D H' hD s e
end
end D0
namespace D0
open PySem PySem.Spec PyProof.Rows L2
/-! ### tuples never change -/
def TS (H H' : Hp) : Prop := ∀ a xs, H a = some (.tup xs) → H' a = some (.tup xs)
theorem TS.refl (H : Hp) : TS H H := fun _ _ e => e
theorem TS.trans {H H1 H2 : Hp} (x : TS H H1) (y : TS H1 H2) : TS H H2 := fun a xs e => y a xs (x a xs e)
theorem TS.of_same {H H' : Hp} (x : Same H H') : TS H H' := fun a xs e => x a _ e
theorem TS.new {H H1 : Hp} {p : Addr} {o : HO} (x : TS H H1) (h : H1 p = none) : TS H (upd H1 p o) := x.trans (.of_same (same_upd h))
theorem TS.put {H H1 : Hp} {p : Addr} {ys : List V} {o : HO} (x : TS H H1) (h : H1 p = some (.lst ys)) : TS H (upd H1 p o) := fun a xs e => by
  have z := x a xs e
  rw [upd_ne (ne_of z h (fun q => by cases q))]
  exact z
theorem BagAt.ts {b c : Addr} {cs : List Int} {H H' : Hp} (x : BagAt b c cs H) (f : Off b H H') : TS H H' := fun a xs e => by
  obtain ⟨i, z, s, n, k, eb, _⟩ := x
  exact f a _ (ne_of e eb (fun q => by cases q)) e
/-- a tuple of ints -/
def Tn (H : Hp) (v : V) (ns : List Int) : Prop := ∃ a, v = .ref a ∧ H a = some (.tup (ns.map V.int))
theorem Tn.ts {H H' : Hp} {v : V} {ns : List Int} (x : Tn H v ns) (t : TS H H') : Tn H' v ns := by
  obtain ⟨a, e, h⟩ := x
  exact ⟨a, e, t _ _ h⟩
abbrev RowsAt (H : Hp) (vs : List V) (rs : List (List Int)) : Prop := Paired (Tn H) vs rs
theorem RowsAt.ts {H H' : Hp} {vs : List V} {rs : List (List Int)} (x : RowsAt H vs rs) (t : TS H H') : RowsAt H' vs rs := Paired.mapP x fun _ _ h => h.ts t
theorem Paired.get1 {α β : Type} {F : α → β → Prop} : ∀ {xs : List α} {ys : List β} {i : Nat} {x : α}, Paired F xs ys → xs[i]? = some x → ∃ y, ys[i]? = some y ∧ F x y
  | _, _, _, _, .nil, h => by cases h
  | _, _, 0, _, .cons f _, h => ⟨_, rfl, by cases h; exact f⟩
  | _, _, i + 1, _, .cons _ r, h => Paired.get1 (i := i) r h
theorem Paired.len {α β : Type} {F : α → β → Prop} : ∀ {xs : List α} {ys : List β}, Paired F xs ys → xs.length = ys.length
  | _, _, .nil => rfl
  | _, _, .cons _ r => by rw [List.length_cons, List.length_cons, Paired.len r]
/-- a system (count, bounds, pulls) -/
def SysAt (H : Hp) (v : V) (n : Nat) (bs ps : List (List Int)) : Prop := ∃ (a p q : Addr) (vb vp : List V), v = .ref a ∧ H a = some (.tup [.int n, .ref p, .ref q]) ∧ H p = some (.tup vb) ∧ RowsAt H vb bs ∧ H q = some (.tup vp) ∧ RowsAt H vp ps
theorem SysAt.ts {H H' : Hp} {v : V} {n : Nat} {bs ps : List (List Int)} (x : SysAt H v n bs ps) (t : TS H H') : SysAt H' v n bs ps := by
  obtain ⟨a, p, q, vb, vp, e, ha, hp, rb, hq, rp⟩ := x
  exact ⟨a, p, q, vb, vp, e, t _ _ ha, t _ _ hp, rb.ts t, t _ _ hq, rp.ts t⟩
def OkB (n : Nat) (bs : List (List Int)) : Prop := ∀ r ∈ bs, ∃ s e g : Int, r = [s, e, g] ∧ 0 ≤ s ∧ s < n ∧ 0 ≤ e ∧ e < n ∧ s ≠ e ∧ -1000000000 ≤ g ∧ g ≤ 1000000000
def OkP (n : Nat) (ps : List (List Int)) : Prop := ∀ r ∈ ps, ∃ s e g w : Int, r = [s, e, g, w] ∧ 0 ≤ s ∧ s < n ∧ 0 ≤ e ∧ e < n ∧ s ≠ e ∧ -1000000000 ≤ g ∧ g ≤ 1000000000 ∧ 0 ≤ w ∧ w ≤ 99
/-- the same, not seen by the walk -/
def OffG (b : Addr) (H H' : Hp) : Prop := Off b H H'
/-! ### promises -/
def spWhole : Sp := fun vs H Q _ => ∃ i : Int, vs = [.int i] ∧ Q (.bl true) H
def spGap : Sp := fun vs H Q _ => ∃ (b c : Addr) (cs : List Int), vs = [.ref b] ∧ BagAt b c cs H ∧ ∀ H' (g : Int), Off b H H' → BagAt b c cs H' → -1000000 ≤ g → g ≤ 1000000 → Q (.int g) H'
def spEnds : Sp := fun vs H Q _ => ∃ (b c : Addr) (cs : List Int) (n : Nat), vs = [.ref b, .int n] ∧ 2 ≤ n ∧ n ≤ 10000 ∧ BagAt b c cs H ∧ ∀ H' a (s e : Int), Off b H H' → BagAt b c cs H' → H' a = some (.tup [.int s, .int e]) → 0 ≤ s → s < n → 0 ≤ e → e < n → s ≠ e → Q (.ref a) H'
/-- all is kept but what stands at b and at l -/
def Off2 (b l : Addr) (H H' : Hp) : Prop := ∀ a o, a ≠ b → a ≠ l → H a = some o → H' a = some o
theorem Off2.of_off {b l : Addr} {H H' : Hp} (x : Off b H H') : Off2 b l H H' := fun a o n _ e => x a o n e
theorem Off2.mut {b l : Addr} {H H1 : Hp} {o : HO} (x : Off2 b l H H1) : Off2 b l H (upd H1 l o) := fun a u n n2 e => (upd_ne n2).trans (x a u n n2 e)
theorem Off2.new {b l p : Addr} {H H1 : Hp} {o : HO} (x : Off2 b l H H1) (h : H1 p = none) : Off2 b l H (upd H1 p o) := fun a u n n2 e => same_upd h _ _ (x a u n n2 e)
theorem Off2.off {b l : Addr} {H H1 H2 : Hp} (x : Off2 b l H1 H2) (f : Off b H H1) (h : H l = none) : Off b H H2 := fun a u n e => x a u n (ne_of_none e h) (f a u n e)
/-- its items as a tuple, or its items and one of them once more -/
def spDoubled : Sp := fun vs H Q _ => ∃ (b c : Addr) (cs : List Int) (l : Addr) (xs : List V), vs = [.ref b, .ref l] ∧ BagAt b c cs H ∧ H l = some (.lst xs) ∧ l ≠ b ∧ l ≠ c ∧ xs.length ≤ 10000 ∧
  ∀ H' a ys, Off2 b l H H' → BagAt b c cs H' → TS H H' → H' a = some (.tup ys) → (ys = xs ∨ ∃ (i : Nat) (y : V), xs[i]? = some y ∧ ys = xs ++ [y]) → Q (.ref a) H'
theorem RowsAt.dbl {H : Hp} {xs ys : List V} {rs : List (List Int)} (r : RowsAt H xs rs) (h : ys = xs ∨ ∃ (i : Nat) (y : V), xs[i]? = some y ∧ ys = xs ++ [y]) : ∃ rs', RowsAt H ys rs' ∧ (rs' = rs ∨ ∃ (i : Nat) (x : List Int), rs[i]? = some x ∧ rs' = rs ++ [x]) := by
  rcases h with rfl | ⟨i, y, e, rfl⟩
  · exact ⟨rs, r, .inl rfl⟩
  · obtain ⟨x, ex, f⟩ := Paired.get1 r e
    exact ⟨rs ++ [x], r.snoc f, .inr ⟨i, x, ex, rfl⟩⟩
def spSystem : Sp := fun vs H Q _ => ∃ (b c : Addr) (cs : List Int) (m : Nat), vs = [.ref b, .int m] ∧ m ≤ 1000 ∧ BagAt b c cs H ∧ ∀ H' v n bs ps, Off b H H' → BagAt b c cs H' → SysAt H' v n bs ps → OkB n bs → OkP n ps → n ≤ 1000 → bs.length ≤ 3000 → ps.length ≤ 3000 → Q v H'
theorem OkB.nil (n : Nat) : OkB n [] := fun _ h => nomatch h
theorem OkP.nil (n : Nat) : OkP n [] := fun _ h => nomatch h
theorem OkB.snoc {n : Nat} {bs : List (List Int)} {i : Nat} {r : List Int} (h : OkB n bs) (e : bs[i]? = some r) : OkB n (bs ++ [r]) := fun x hx => by
  rcases List.mem_append.mp hx with hx | hx
  · exact h x hx
  · rw [List.mem_singleton.mp hx]; exact h r (List.mem_of_getElem? e)
theorem OkB.dbl {n : Nat} {bs bs' : List (List Int)} (h : OkB n bs) (e : bs' = bs ∨ ∃ (i : Nat) (x : List Int), bs[i]? = some x ∧ bs' = bs ++ [x]) : OkB n bs' ∧ bs'.length ≤ bs.length + 1 := by
  rcases e with rfl | ⟨i, x, ex, rfl⟩
  · exact ⟨h, by omega⟩
  · exact ⟨h.snoc ex, by simp⟩
theorem OkP.snoc {n : Nat} {bs : List (List Int)} {i : Nat} {r : List Int} (h : OkP n bs) (e : bs[i]? = some r) : OkP n (bs ++ [r]) := fun x hx => by
  rcases List.mem_append.mp hx with hx | hx
  · exact h x hx
  · rw [List.mem_singleton.mp hx]; exact h r (List.mem_of_getElem? e)
theorem OkP.dbl {n : Nat} {bs bs' : List (List Int)} (h : OkP n bs) (e : bs' = bs ∨ ∃ (i : Nat) (x : List Int), bs[i]? = some x ∧ bs' = bs ++ [x]) : OkP n bs' ∧ bs'.length ≤ bs.length + 1 := by
  rcases e with rfl | ⟨i, x, ex, rfl⟩
  · exact ⟨h, by omega⟩
  · exact ⟨h.snoc ex, by simp⟩
section
variable {X : Cx} (K : PySem.W.Frag)
def rListD : List V → Hp → VK → Prop := fun xs H Q => ∃ p ys, xs = [.ref p] ∧ (SqL K H p ys ∨ SqT K H p ys) ∧ ∀ l, H l = none → Q (.ref l) (upd H l (.lst ys))
def rTupleD : List V → Hp → VK → Prop := fun xs H Q => ∃ p ys, xs = [.ref p] ∧ ((SqL K H p ys ∧ ∀ l, H l = none → Q (.ref l) (upd H l (.tup ys))) ∨ (SqT K H p ys ∧ Q (.ref p) H))
theorem dList (hK : X.K = K := by rfl) : CallR X (.type "list") (rListD K) := by subst hK; exact call_list_of
theorem dTuple (hK : X.K = K := by rfl) : CallR X (.type "tuple") (rTupleD K) := by subst hK; exact call_tuple_of
variable {K} {Q : VK} {H : Hp} {te : TE} {σ : L2.St}
theorem rv_listL {p : Addr} {ys : List V} (h : SqL K H p ys) (q : ∀ l, H l = none → Q (.ref l) (upd H l (.lst ys))) : rListD K [.ref p] H Q := ⟨p, ys, rfl, .inl h, q⟩
theorem rv_listT {p : Addr} {ys : List V} (h : SqT K H p ys) (q : ∀ l, H l = none → Q (.ref l) (upd H l (.lst ys))) : rListD K [.ref p] H Q := ⟨p, ys, rfl, .inr h, q⟩
theorem rv_tupL {p : Addr} {ys : List V} (h : SqL K H p ys) (q : ∀ l, H l = none → Q (.ref l) (upd H l (.tup ys))) : rTupleD K [.ref p] H Q := ⟨p, ys, rfl, .inl ⟨h, q⟩⟩
theorem rv_tupT {p : Addr} {ys : List V} (h : SqT K H p ys) (q : Q (.ref p) H) : rTupleD K [.ref p] H Q := ⟨p, ys, rfl, .inr ⟨h, q⟩⟩
theorem rd_iTup {R : It → Hp → Prop} (q : te σ H fun x H1 => ∃ a, x = .ref a ∧ (∃ xs, SqT K H1 a xs) ∧ R (Itt K a) H1) : iTup K te σ H R := q
theorem rv_iT {a : Addr} {xs : List V} {R : Addr → Prop} (h : SqT K H a xs) (q : R a) : ∃ a', V.ref a = .ref a' ∧ (∃ xs, SqT K H a' xs) ∧ R a' := ⟨a, rfl, ⟨xs, h⟩, q⟩
end
end D0
namespace D0
open PySem PySem.Spec PyProof.Rows L2
section
variable {K : PySem.W.Frag} {σ : L2.St} {H : Hp} {Q : VK} {te tl : TE} {ta : TA} {vs : List Nat} {j : Nat} {g : TG} {tt : TT}
theorem Tn.same {H H' : Hp} {v : V} {ns : List Int} (x : Tn H v ns) (t : Same H H') : Tn H' v ns := x.ts (.of_same t)
/-- a comprehension over a tuple of rows -/
theorem lc_rows {a : Addr} {xs : List V} {rs : List (List Int)} (f : V → List Int → V) (kp : List Int → Bool) (hl : ∀ Qe : VK, Qe (.ref a) H → tl σ H Qe) (hs : H a = some (.tup xs)) (hr : RowsAt H xs rs) (hz : xs.length ≤ 100000)
    (he : ∀ (x : V) (r : List Int) (H' : Hp) (Nx : VK) (E : Hp → Prop), r ∈ rs → Same H H' → Tn H' x r → (kp r = true → ∀ H'', Same H' H'' → Nx (f x r) H'') → (kp r = false → ∀ H'', Same H' H'' → E H'') →
      g x (wipe σ vs) H' fun σ2 H2 => wipe σ2 vs = wipe σ vs ∧ tt σ2 H2 fun b H3 => if b = true then te σ2 H3 Nx else E H3)
    (q : ∀ D H', H D = none → Same H H' → H' D = some (.lst (((xs.zip rs).filter fun p => kp p.2).map fun p => f p.1 p.2)) → Q (.ref D) H') : tLc (iTup K tl) g tt te vs σ H Q := by
  have hln := Paired.len hr
  refine hl _ ⟨a, rfl, ⟨_, SqT.of hs⟩, fun D hD => ?_⟩
  refine lc_tup (K := K) (a := a) (xs := xs) (fun i H' => Same H H' ∧ H' D = some (.lst ((((xs.zip rs).take i).filter fun p => kp p.2).map fun p => f p.1 p.2))) ⟨same_upd hD, upd_same⟩ (fun i H' _ h => SqT.of (h.1 _ _ hs)) ?_ ?_
  · rintro i x H' hx ⟨s, e⟩
    obtain ⟨r, er, hxr⟩ := Paired.get1 hr hx
    have ez : (xs.zip rs)[i]? = some (x, r) := by rw [List.getElem?_zip_eq_some]; exact ⟨hx, er⟩
    refine he x r H' _ _ (List.mem_of_getElem? er) s (hxr.same s) (fun hk H'' s2 => ?_) (fun hk H'' s2 => ?_)
    · refine ⟨_, s2 _ _ e, ?_, ?_, ?_⟩
      · have h1 := List.length_filter_le (fun p : V × List Int => kp p.2) ((xs.zip rs).take i)
        rw [List.length_map]
        have h2 : ((xs.zip rs).take i).length ≤ xs.length := by rw [List.length_take, List.length_zip]; omega
        exact sz4' (by
          have : i < xs.length := (List.getElem?_eq_some_iff.mp hx).1
          have : ((xs.zip rs).take i).length ≤ i := by rw [List.length_take]; omega
          omega)
      · intro b o eb
        rw [upd_ne (ne_of_none eb hD)]
        exact s2 _ _ (s _ _ eb)
      · rw [upd_same, List.take_add_one, ez, List.filter_append, List.map_append]
        simp [hk]
    · refine ⟨s.trans s2, ?_⟩
      rw [List.take_add_one, ez, List.filter_append, List.map_append]
      simp [hk, s2 _ _ e]
  · rintro H' ⟨s, e⟩
    rw [List.take_of_length_le (by rw [List.length_zip]; omega)] at e
    exact q D H' hD s e
theorem zsnd {α β γ : Type} (f : β → γ) : ∀ (xs : List α) (ys : List β), xs.length = ys.length → (xs.zip ys).map (fun p => f p.2) = ys.map f
  | [], [], _ => rfl
  | _ :: xs, _ :: ys, h => by
    rw [List.zip_cons_cons, List.map_cons, List.map_cons, zsnd f xs ys (Nat.succ.inj h)]
theorem zflen {α β : Type} (kp : β → Bool) : ∀ (xs : List α) (ys : List β), xs.length = ys.length → ((xs.zip ys).filter fun p => kp p.2).length = (ys.filter kp).length
  | [], [], _ => rfl
  | _ :: xs, y :: ys, h => by
    rw [List.zip_cons_cons, List.filter_cons, List.filter_cons]
    cases e : kp y <;> simp [zflen kp xs ys (Nat.succ.inj h)]
theorem ftrue {α : Type} (l : List α) : l.filter (fun _ => true) = l := List.filter_eq_self.mpr fun _ _ => rfl
def hat (hs : List Int) (i : Int) : Int := hs.getD i.toNat 0
def kb (hs r : List Int) : Bool := decide (r.getD 2 0 ≤ hat hs (r.getD 1 0) - hat hs (r.getD 0 0))
def ct (hs r : List Int) : Int := r.getD 3 0 * (if hat hs (r.getD 1 0) - hat hs (r.getD 0 0) - r.getD 2 0 < 0 then -(hat hs (r.getD 1 0) - hat hs (r.getD 0 0) - r.getD 2 0) else hat hs (r.getD 1 0) - hat hs (r.getD 0 0) - r.getD 2 0)
theorem rep_map (n : Nat) (k : Int) (h : k = (n : Int)) : (List.replicate k.toNat [V.int 0]).flatten = (List.replicate n (0 : Int)).map V.int := by
  subst h
  rw [Int.toNat_natCast]
  induction n with
  | zero => rfl
  | succ n ih => rw [List.replicate_succ, List.flatten_cons, ih, List.replicate_succ, List.map_cons]; rfl
def spKeeps : Sp := fun vs H Q _ => ∃ (v : V) (t : Addr) (n : Nat) (bs ps : List (List Int)) (hs : List Int), vs = [v, .ref t] ∧ SysAt H v n bs ps ∧ OkB n bs ∧ bs.length ≤ 4000 ∧ H t = some (.tup (hs.map V.int)) ∧ hs.length = n ∧ ∀ H', Same H H' → Q (.bl (bs.all (kb hs))) H'
def spCost : Sp := fun vs H Q _ => ∃ (v : V) (t : Addr) (n : Nat) (bs ps : List (List Int)) (hs : List Int), vs = [v, .ref t] ∧ SysAt H v n bs ps ∧ OkP n ps ∧ ps.length ≤ 4000 ∧ H t = some (.tup (hs.map V.int)) ∧ hs.length = n ∧ ∀ H', Same H H' → Q (.int (ps.map (ct hs)).sum) H'
def spBroken : Sp := fun vs H Q _ => ∃ (v : V) (t : Addr) (n : Nat) (bs ps : List (List Int)) (hs : List Int), vs = [v, .ref t] ∧ SysAt H v n bs ps ∧ OkB n bs ∧ bs.length ≤ 4000 ∧ H t = some (.lst (hs.map V.int)) ∧ hs.length = n ∧ ∀ H', Same H H' → Q (.int ((bs.filter fun r => !kb hs r).length : Int)) H'
def spSpent : Sp := fun vs H Q _ => ∃ (v : V) (t : Addr) (n : Nat) (bs ps : List (List Int)) (hs : List Int), vs = [v, .ref t] ∧ SysAt H v n bs ps ∧ OkP n ps ∧ ps.length ≤ 4000 ∧ H t = some (.lst (hs.map V.int)) ∧ hs.length = n ∧ Q (.int (ps.map (ct hs)).sum) H
def spClimbed : Sp := fun vs H Q _ => ∃ (v : V) (t : Addr) (n : Nat) (bs ps : List (List Int)) (hs : List Int), vs = [v, .ref t] ∧ SysAt H v n bs ps ∧ OkB n bs ∧ bs.length ≤ 4000 ∧ n ≤ 1000 ∧ H t = some (.lst (hs.map V.int)) ∧ hs.length = n ∧
  ∀ H' r, Same H H' → (r = .non ∨ ∃ (u : Addr) (hs' : List Int), r = .ref u ∧ H' u = some (.tup (hs'.map V.int)) ∧ hs'.length = n) → Q r H'
def spSigned : Sp := fun vs H Q _ => ∃ (b c : Addr) (cs : List Int) (m : Int), vs = [.ref b, .int m] ∧ 0 < m ∧ m < 2 ^ 1000 ∧ BagAt b c cs H ∧ ∀ H' (r : Int), Off b H H' → BagAt b c cs H' → Q (.int r) H'
def spTall : Sp := fun vs H Q _ => ∃ (b c : Addr) (cs : List Int) (v : V) (n : Nat) (bs ps : List (List Int)), vs = [.ref b, v] ∧ SysAt H v n bs ps ∧ OkB n bs ∧ bs.length ≤ 4000 ∧ n ≤ 1000 ∧ BagAt b c cs H ∧ ∀ H' l (hs : List Int), Off b H H' → BagAt b c cs H' → H' l = some (.lst (hs.map V.int)) → hs.length = n → l ≠ b → Q (.ref l) H'
def spBeside : Sp := fun vs H Q _ => ∃ (b c : Addr) (cs : List Int) (t : Addr) (hs : List Int), vs = [.ref b, .ref t] ∧ H t = some (.lst (hs.map V.int)) ∧ t ≠ b ∧ hs.length ≤ 1000 ∧ BagAt b c cs H ∧ ∀ H' l (hs' : List Int), Off b H H' → BagAt b c cs H' → H' l = some (.lst (hs'.map V.int)) → hs'.length = hs.length → l ≠ b → Q (.ref l) H'
theorem at_hat {hs : List Int} {n : Nat} {i : Int} (hl : hs.length = n) (h0 : 0 ≤ i) (h1 : i < n) : atI (hs.map V.int) i = some (.int (hat hs i)) := at_ints h0 (by rw [List.length_map, hl]; exact h1)
theorem setm_int (hs : List Int) (j : Nat) (x : Int) : (hs.map V.int).set j (.int x) = (hs.set j x).map V.int := by rw [List.map_set]
theorem ints_of : ∀ {ys : List V}, (∀ y ∈ ys, ∃ i : Int, y = .int i) → ∃ hs : List Int, ys = hs.map V.int
  | [], _ => ⟨[], rfl⟩
  | y :: r, h => by
    obtain ⟨hs, rfl⟩ := ints_of fun y hy => h y (List.mem_cons_of_mem _ hy)
    obtain ⟨i, rfl⟩ := h y (List.mem_cons_self ..)
    exact ⟨i :: hs, rfl⟩
def rIsN : R2 := fun x y H Q => y = .non ∧ Q (.bl (decide (x = .non))) H
def rNotN : R2 := fun x y H Q => y = .non ∧ Q (.bl (!decide (x = .non))) H
theorem dIsN {X : Cx} : OpR X (compareOp .Is) rIsN := op_isN
theorem dNotN {X : Cx} : OpR X (compareOp .IsNot) rNotN := op_notN
theorem rv_isNn (q : Q (.bl true) H) : rIsN .non .non H Q := ⟨rfl, q⟩
theorem rv_isNr {a : Addr} (q : Q (.bl false) H) : rIsN (.ref a) .non H Q := ⟨rfl, q⟩
theorem rv_isNi {a : Int} (q : Q (.bl false) H) : rIsN (.int a) .non H Q := ⟨rfl, q⟩
theorem rv_notNn (q : Q (.bl false) H) : rNotN .non .non H Q := ⟨rfl, q⟩
theorem rv_notNr {a : Addr} (q : Q (.bl true) H) : rNotN (.ref a) .non H Q := ⟨rfl, q⟩
theorem rv_notNi {a : Int} (q : Q (.bl true) H) : rNotN (.int a) .non H Q := ⟨rfl, q⟩
end
end D0
namespace D0
open PySem PySem.Spec PyProof.Rows L2
def scalV : V → Bool
  | .non => true
  | .bl _ => true
  | .int _ => true
  | .str _ => true
  | _ => false
/-- two values that hold the same data, nested at most n deep -/
def SameV (H : Hp) : Nat → V → V → Prop
  | 0, x, y => x = y ∧ scalV x = true
  | n + 1, x, y => (x = y ∧ scalV x = true) ∨ ∃ (a b : Addr) (xs ys : List V), x = .ref a ∧ y = .ref b ∧ xs.length ≤ 100000 ∧ ((H a = some (.tup xs) ∧ H b = some (.tup ys)) ∨ (H a = some (.lst xs) ∧ H b = some (.lst ys))) ∧ Paired (SameV H n) xs ys
theorem SameV.same {H H' : Hp} (s : Same H H') : ∀ (n : Nat) (x y : V), SameV H n x y → SameV H' n x y
  | 0, _, _, h => h
  | n + 1, x, y, h => by
    rcases h with h | ⟨a, b, xs, ys, e1, e2, l, h, p⟩
    · exact .inl h
    · refine .inr ⟨a, b, xs, ys, e1, e2, l, ?_, Paired.mapP p fun u v => SameV.same s n u v⟩
      rcases h with ⟨h1, h2⟩ | ⟨h1, h2⟩
      · exact .inl ⟨s _ _ h1, s _ _ h2⟩
      · exact .inr ⟨s _ _ h1, s _ _ h2⟩
def spSame (n : Nat) : Sp := fun vs H Q _ => ∃ x y : V, vs = [x, y] ∧ SameV H n x y ∧ ∀ H', Same H H' → Q (.bl true) H'
def spShuffle (K : PySem.W.Frag) : Sp := fun vs H Q _ => ∃ (b c : Addr) (cs : List Int) (t : Addr) (xs : List V), vs = [.ref b, .ref t] ∧ (SqL K H t xs ∨ SqT K H t xs) ∧ t ≠ b ∧ xs.length ≤ 1000 ∧ BagAt b c cs H ∧ ∀ H' l ys, Off b H H' → BagAt b c cs H' → H' l = some (.lst ys) → l ≠ b → l ≠ c → H l = none → ys.Perm xs → Q (.ref l) H'
section
variable {K : PySem.W.Frag} {Q : VK} {H : Hp}
theorem rv_isNb {b : Bool} (q : Q (.bl false) H) : rIsN (.bl b) .non H Q := ⟨rfl, q⟩
theorem rv_isNs {b : Str} (q : Q (.bl false) H) : rIsN (.str b) .non H Q := ⟨rfl, q⟩
end
end D0
namespace ET
open PySem AutoSeq1
theorem newE (tu : Addr) (xs : Array Value) (k : Nat) (dd : Option Addr) (ss : Array (Option Value)) :
    Meets (Builtin.«enumerate.__new__» ⟨[.type "enumerate", .ref tu], []⟩) (fun _ R z => z.heap.get? tu = some { cls := .type "tuple", dict := dd, data := .seq xs k, slots := ss } ∧
      R (.ok (.ret (.ref (z.heap.push { cls := .type "tuple_iterator", data := .fields #[.ref tu, .int 0 0] }).objs.size)))
        { z with heap := (z.heap.push { cls := .type "tuple_iterator", data := .fields #[.ref tu, .int 0 0] }).push { cls := .type "enumerate", data := .fields #[.none, .bool false, .ref z.heap.objs.size, rawInt 0, .none, .none] } }) :=
  .of_wp fun prog w A R z h => by
    obtain ⟨hp, gg, dr, tk, os⟩ := z; obtain ⟨ht, h⟩ := h
    have hsb := sub_enumerate
    have hT : Heap.IsTuple (Shared.heap ⟨hp, gg, dr, tk, os⟩) tu xs := ⟨_, ht, rfl, k, rfl⟩
    wp_walk using wpAny_loadPart' ht
    refine wpAny_stack_any fun _ => wpAny_pure ?_
    split
    · rename_i c _ _ _ _ _
      cases (c == Value.type "enumerate")
      · wp_walk using wpAny_loadPart' ht, wpAny_pyIter_tuple hT; exact ⟨_, rfl, h⟩
      · wp_walk using wpAny_loadPart' ht, wpAny_pyIter_tuple hT; exact ⟨_, rfl, h⟩
    · wp_walk using wpAny_loadPart' ht, wpAny_pyIter_tuple hT; exact ⟨_, rfl, h⟩
section
variable {prog : Program} {w : World} {A : Around} {E : Value → Shared → Prop} {z : Shared}
theorem callE {tu : Addr} {xs : Array Value} {Q : Value → Shared → Prop} (hT : z.heap.IsTuple tu xs)
    (h : ∀ g, IsEnum g (z.heap.objs.size + 1) z.heap.objs.size 0 .none → g.IsTupleIter z.heap.objs.size tu 0 → g.objs.size = z.heap.objs.size + 2 →
      (∀ b o, z.heap.get? b = some o → g.get? b = some o) → Q (.ref (z.heap.objs.size + 1)) { z with heap := g }) :
    wpAny (model prog w) A (call (.type "enumerate") [.ref tu]) Q E z := by
  obtain ⟨⟨c, dd, dt, ss⟩, ht, hc, k, hd⟩ := hT
  replace hc : c = .type "tuple" := hc
  replace hd : dt = .seq xs k := hd
  subst hc hd
  refine callType_new F.called_enumerate (by decide) (F.typeCall_enumerate_1 _) (F.newCall_enumerate_1 _) (fun ob => F.args_object_init_2 ob _) F.entry_enumerate_new (newE tu xs k dd ss) ⟨ht, ?_⟩
  have hz : (z.heap.push { cls := .type "tuple_iterator", data := .fields #[.ref tu, .int 0 0] }).objs.size = z.heap.objs.size + 1 := Heap.size_push ..
  show _ ∧ _
  rw [hz]
  have en : IsEnum ((z.heap.push { cls := .type "tuple_iterator", data := .fields #[.ref tu, .int 0 0] }).push
      { cls := .type "enumerate", data := .fields #[.none, .bool false, .ref z.heap.objs.size, rawInt 0, .none, .none] }) (z.heap.objs.size + 1) z.heap.objs.size 0 .none := by
    have y := Heap.get?_push_size (z.heap.push { cls := .type "tuple_iterator", data := .fields #[.ref tu, .int 0 0] }) (o := { cls := .type "enumerate", data := .fields #[.none, .bool false, .ref z.heap.objs.size, rawInt 0, .none, .none] }) rfl
    rw [hz] at y; exact y
  exact ⟨⟨_, en, rfl⟩, h _ en ⟨_, Heap.get?_push_of_some _ (Heap.get?_push_size _ rfl), rfl, rfl⟩ (by rw [Heap.size_push, hz]) fun b o y => Heap.get?_push_of_some _ (Heap.get?_push_of_some _ y)⟩
theorem nextT {zi tu : Addr} {i : Nat} {xs : Array Value} {x : Value} {Q : Value → Shared → Prop} (ti : z.heap.IsTupleIter zi tu i) (tt : z.heap.IsTuple tu xs) (hx : xs[i]? = some x)
    (hQ : ∀ g, g.IsTupleIter zi tu (i + 1) → Heap.SameBut zi z.heap g → Q x { z with heap := g }) : wpAny (model prog w) A (Builtin.SmallTypes.nextOf (.ref zi)) Q E z := by
  obtain ⟨oi, hoi, hci, hdi⟩ := id ti
  obtain ⟨ot, hot, _, nt, hdt⟩ := tt
  unfold Builtin.SmallTypes.nextOf
  refine wpAny_bind (wpAny_callSpecial?_slot (name := Str.ofString "__next__") ti.typeIs F.slot_tuple_iterator_next (wpAny_call_entry F.slot_tuple_iterator_next ti.typeIs F.entry_tuple_iterator_next ?_ (F.args_tuple_iterator_next_1 _)))
  show wpAny _ _ (field (.ref zi) 0 >>= _) _ _ z
  refine wpAny_bind (wpAny_field hoi hdi (x := .ref tu) rfl ?_)
  show wpAny _ _ (if (Value.ref tu == Value.none) = true then _ else _) _ _ z
  rw [if_neg (show ¬ ((Value.ref tu == Value.none) = true) from Bool.false_ne_true)]
  show wpAny _ _ (field (.ref zi) 1 >>= _) _ _ z
  refine wpAny_bind (wpAny_field hoi hdi (x := .int i 0) rfl ?_)
  show wpAny _ _ (seqItems? (.ref tu) >>= _) _ _ z
  refine wpAny_bind (wpAny_seqItems hot hdt ?_)
  simp only [Int.toNat_natCast, hx]
  refine wpAny_bind (wpAny_setField hoi hdi (by simp) (wpAny_pure ⟨x, rfl, wpAny_pure (hQ _ ?_ (Heap.SameBut.update ..))⟩))
  exact ⟨_, Heap.get?_update_self _ hoi (Obj.isFreed_of_fields (Obj.data_mapFields hdi _)), (Obj.cls_mapFields ..).trans hci, by rw [Obj.data_mapFields hdi]; simp [rawInt]⟩
theorem nextTE {zi tu : Addr} {i : Nat} {xs : Array Value} {Q : Value → Shared → Prop} (hh : A.handled = none) (ti : z.heap.IsTupleIter zi tu i) (tt : z.heap.IsTuple tu xs) (hx : xs[i]? = none)
    (hE : ∀ g x, Heap.ExtBut zi z.heap g → (∃ o, g.get? x = some o ∧ o.cls = .type "StopIteration") → E (.ref x) { z with heap := g }) : wpAny (model prog w) A (Builtin.SmallTypes.nextOf (.ref zi)) Q E z := by
  obtain ⟨oi, hoi, hci, hdi⟩ := id ti
  obtain ⟨ot, hot, _, nt, hdt⟩ := tt
  unfold Builtin.SmallTypes.nextOf
  refine wpAny_bind (wpAny_callSpecial?_slot (name := Str.ofString "__next__") ti.typeIs F.slot_tuple_iterator_next (wpAny_call_entry F.slot_tuple_iterator_next ti.typeIs F.entry_tuple_iterator_next ?_ (F.args_tuple_iterator_next_1 _)))
  show wpAny _ _ (field (.ref zi) 0 >>= _) _ _ z
  refine wpAny_bind (wpAny_field hoi hdi (x := .ref tu) rfl ?_)
  show wpAny _ _ (if (Value.ref tu == Value.none) = true then _ else _) _ _ z
  rw [if_neg (show ¬ ((Value.ref tu == Value.none) = true) from Bool.false_ne_true)]
  show wpAny _ _ (field (.ref zi) 1 >>= _) _ _ z
  refine wpAny_bind (wpAny_field hoi hdi (x := .int i 0) rfl ?_)
  show wpAny _ _ (seqItems? (.ref tu) >>= _) _ _ z
  refine wpAny_bind (wpAny_seqItems hot hdt ?_)
  simp only [Int.toNat_natCast, hx]
  refine wpAny_bind (wpAny_rule (wpAny_bind (wpAny_setField hoi hdi (by simp) ?_)))
  show wpAny _ _ (newExc (.type "StopIteration") [] >>= fun _ => _) _ _ _
  refine wpAny_bind ?_
  simp only [newExc, newTuple]
  refine wpAny_bind (wpAny_newObj_type ?_ (by size_fits)); refine wpAny_bind (m := firstArgMember _ _) (wpAny_of_eq (a := Value.none) (by first | rfl | (simp only [firstArgMember]; rfl)) ?_)
  refine wpAny_newObj_type ?_ (by size_fits); simp only [raiseNew]
  refine wpAny_bind (wpAny_handled ?_); first | rw [show A.in1.handled = none from hh] | rw [hh]
  refine wpAny_bind (wpAny_pure (wpAny_throw ?_)); exact hE _ _ (((Heap.SameBut.update ..).extBut.push _).push _) ⟨_, Heap.get?_push_size _ rfl, rfl⟩
end
theorem drawsT {prog : Program} {w : World} {A : Around} (hh : A.handled = none) (zi tu : Addr) (xs : Array Value) (hne : zi ≠ tu) :
    Draws prog w A.in1 zi [zi, tu] xs.size (fun i x => xs[i]? = some x) (fun i h => h.IsTupleIter zi tu i ∧ h.IsTuple tu xs) where
  live := fun i h st => let ⟨⟨o, ho, _⟩, _⟩ := st; ⟨o, ho⟩
  frame := fun i h h' st k => ⟨st.1.at fun o q => k zi (by simp) o q, by
    obtain ⟨o, ho, r⟩ := st.2
    exact ⟨o, k tu (by simp) o ho, r⟩⟩
  item := fun i z Q E hi st hQ => by
    obtain ⟨x, hx⟩ : ∃ x, xs[i]? = some x := ⟨xs[i], by simp [hi]⟩
    refine nextT st.1 st.2 hx fun g hg sb => ?_
    obtain ⟨o, ho, r⟩ := st.2
    exact hQ x g z.toks hx ⟨hg, ⟨o, (sb.2 tu (Ne.symm hne)).trans ho, r⟩⟩ sb
  done := fun z Q E st hE => nextTE hh st.1 st.2 (by simp) hE
end ET
namespace D0
open PySem PySem.Spec PyProof.Rows L2
/-- the tuple at a, each item in a new pair -/
def Itet (K : PySem.W.Frag) (a : Addr) : It :=
  ⟨fun i H => ∃ (xs : List V) (x : V), SqT K H a xs ∧ xs[i]? = some x, fun i H v H' => ∃ T x, v = .ref T ∧ H T = none ∧ H' = upd H T (.tup [.int (i : Nat), x]) ∧ ∀ xs, SqT K H a xs → xs[i]? = some x, fun i H => ∃ xs : List V, SqT K H a xs ∧ xs.length ≤ i⟩
theorem turn_enumT {P : Program} {w : World} {K : PySem.W.Frag} {elts : List Expr} {kk : Nat} {tpos : Pos} (a e zi : Addr) :
    Turn P w K (.Tuple elts kk tpos) (Itet K a) [e, zi] e (fun i h => (∃ old, IsEnum h e zi ((i : Nat) : Int) old) ∧ h.IsTupleIter zi a i ∧ e ≠ zi) where
  mem := by simp
  obj := fun i h st b hb => by
    obtain ⟨⟨old, en⟩, ⟨o, ho, hc, hd⟩, _⟩ := st
    rcases (show b = e ∨ b = zi by simpa using hb) with y | y
    · rw [y]; exact ⟨_, en, fun v q => nomatch q⟩
    · rw [y]; exact ⟨o, ho, fun v q => by rw [hd] at q; cases q⟩
  keep := fun i h h' st k => let ⟨⟨old, en⟩, hi, hn⟩ := st; ⟨⟨old, k e (by simp) _ en⟩, hi.at fun o q => k zi (by simp) o q, hn⟩
  item := by
    intro X hP hw hK hc i pins s σ H E I hf st hg
    subst hP hw hK
    obtain ⟨⟨old, en⟩, ti, hn⟩ := st
    obtain ⟨xs, x, hq, hx⟩ := hg
    obtain ⟨its, rv, p, hz⟩ := I.tuple hq
    have tt : s.heap.IsTuple a its.toArray := p
    obtain ⟨u, hu, ru⟩ := rv.get hx
    have hza : zi ≠ a := by
      rintro rfl
      obtain ⟨o, ho, c1, _⟩ := ti
      obtain ⟨o', ho', c2, _⟩ := tt
      rw [ho] at ho'; cases ho'
      rw [c1] at c2
      exact absurd c2 (by decide)
    have hea : e ≠ a := by
      rintro rfl
      obtain ⟨o', ho', c2, _⟩ := tt
      rw [en] at ho'; cases ho'
      exact absurd (show Value.type "enumerate" = Value.type "tuple" from c2) (by decide)
    have lt : i < its.toArray.size := by
      have := (List.getElem?_eq_some_iff.mp hu).1
      simpa using this
    have hel : e < s.heap.objs.size := Heap.lt_size en
    have hil : zi < s.heap.objs.size := by obtain ⟨_, q, _⟩ := ti; exact Heap.lt_size q
    refine wpAny_pyNext_enum_itemD (ET.drawsT (I.ok.hd hc) zi a its.toArray hza) en ⟨ti, tt⟩ lt hn (by simp [hn, hea]) fun y h' tk hy ho st' hT hsz hk => ?_
    have ey : y = u := by
      have h1 : its[i]? = some y := by simpa using hy
      rw [hu] at h1; exact (Option.some.inj h1).symm
    subst ey
    refine ⟨_, rfl, wpAny_letOwnedTupleGo_enum (s := { s with heap := h', toks := tk + 1 }) ho fun h2 en2 sb => ?_⟩
    have hT2 : h2.get? s.heap.objs.size = some { cls := .type "tuple", data := .seq #[.int i tk, y] } := (sb.2 _ (Nat.ne_of_gt hel)).trans hT
    have new : ObjOk X.prog X.w (upd H s.heap.objs.size (.tup [.int (i : Nat), x])) h2 s.heap.objs.size (.tup [.int (i : Nat), x]) := ⟨by show 2 ≤ sizeLine; decide, [.int i tk, y], .cons ⟨_, rfl⟩ (.cons ru .nil), ⟨_, hT2, rfl, _, rfl⟩⟩
    have I1 : Inv X pins σ (upd H s.heap.objs.size (.tup [.int (i : Nat), x])) { s with heap := h2, toks := tk + 1 } :=
      I.turnedNew (ch := [e, zi]) (fun b ob hb q => (sb.2 b (fun y => hb (by simp [y]))).trans (hk b ob (fun y => hb (by simp [y])) (fun y => hb (by simp [y])) q)) hf (Nat.le_refl _) new
    refine ⟨.ref s.heap.objs.size, _, I1, rfl, ⟨_, x, rfl, I.hok.fresh (Nat.le_refl _), rfl, fun ys hy => by rw [I.tuple_inj hy hq]; exact hx⟩, ⟨⟨y, ?_⟩, st'.1.at fun o q => (sb.2 zi (Ne.symm hn)).trans q, hn⟩, fun b hb => ?_⟩
    · rw [show ((i + 1 : Nat) : Int) = (i : Int) + 1 by omega]; exact en2
    · have lb : b < s.heap.objs.size := by
        rcases (show b = e ∨ b = zi by simpa using hb) with y | y
        · rw [y]; exact hel
        · rw [y]; exact hil
      rw [upd_ne (Nat.ne_of_lt lb)]
      exact (hf b hb).1
  done := by
    intro X hP hw hK hc i pins s σ H E I hf st hg
    subst hP hw hK
    obtain ⟨⟨old, en⟩, ti, hn⟩ := st
    obtain ⟨xs, hq, hx⟩ := hg
    obtain ⟨its, rv, p, hz⟩ := I.tuple hq
    have tt : s.heap.IsTuple a its.toArray := p
    obtain ⟨f0, f1, f2, f3, f4, f5⟩ := hf zi (by simp)
    have hl := rv.length
    have hT : s.TypeIs (.ref e) "enumerate" := ⟨_, en, rfl⟩
    unfold pyNext
    refine wpAny_bind (wpAny_attempt (wpAny_callSpecial?_slot (name := Str.ofString "__next__") hT F.slot_enumerate_next (wpAny_call_entry F.slot_enumerate_next hT F.entry_enumerate_next ?_ (F.args_enumerate_next_1 _))))
    show wpAny _ _ (field (.ref e) 2 >>= fun _ => _) _ _ _
    refine wpAny_bind (wpAny_field en rfl (x := .ref zi) rfl ?_)
    refine wpAny_bind (ET.nextTE (A := X.A.in1) (I.ok.hd hc) ti tt (by simp; omega) fun h' x eb hx' => ?_)
    obtain ⟨o, ho, hco⟩ := hx'
    refine wpAny_bind (wpAny_isInstance (T := "StopIteration") (b := true) ⟨o, ho, hco⟩ isSubtype_stop ?_)
    exact wpAny_pure ⟨rfl, I.turned (t' := s.toks) (fun b o hb q => eb b o hb q) f0 f1 f3 f4 f5⟩
  self := fun A i s Q E st h => let ⟨⟨_, en⟩, _⟩ := st; wpAny_pyIter_enum en h
def iEnumT (K : PySem.W.Frag) (ta : TA) : TI := fun σ H R => ta σ H fun vs H1 => ∃ a xs, vs = [.ref a] ∧ SqT K H1 a xs ∧ R (Itet K a) H1
theorem dpi_enumT {X : Cx} (K : PySem.W.Frag) {e : Expr} {ta : TA} {p pos tpos : Pos} {elts : List Expr} {kk : Nat} (hg : Gl X "enumerate") (hm : X.mg "enumerate" = none) (ha : PA X [e] ta) (hK : X.K = K := by rfl) (hs : starEach [e] X.env = [(false, eval e X.env)] := by rfl) :
    PI X (.Tuple elts kk tpos) (.Call (.Name "enumerate" p) [e] [] pos) (iEnumT K ta) := by
  subst hK
  refine ⟨fun pins s σ H R I h => ?_⟩
  refine Call_ (ld_blt I hg hm boot_enumerate (PyProof.Rows.callWith_type1 (thn (ha.run pos pins s σ H _ I h) fun us s1 ⟨vs, H1, I1, r1, q1⟩ => ?_) hs rfl))
  obtain ⟨a, xs, ex, hq, q⟩ := q1
  subst ex
  cases r1 with
  | cons r rr =>
    cases rr
    cases r
    obtain ⟨its, rv, p', hz⟩ := I1.tuple hq
    refine ET.callE (show s1.heap.IsTuple a its.toArray from p') fun h' en hit hsz hk => wpAny_pyIter_enum en ?_
    have I2 : Inv X pins σ H1 { s1 with heap := h' } := I1.kept (t' := s1.toks) hk
    refine ⟨s1.heap.objs.size + 1, [s1.heap.objs.size + 1, s1.heap.objs.size], _, _, H1, rfl, I2, turn_enumT a (s1.heap.objs.size + 1) s1.heap.objs.size, ⟨⟨.none, en⟩, hit, Nat.succ_ne_self _⟩, fun b hb => ?_, q⟩
    have lb : s1.heap.objs.size ≤ b := by
      rcases (show b = s1.heap.objs.size + 1 ∨ b = s1.heap.objs.size by simpa using hb) with y | y
      · rw [y]; exact Nat.le_add_right _ _
      · rw [y]; exact Nat.le_refl _
    exact I1.fpOk lb (I1.hok.fresh lb)
end D0
namespace D0
open PySem PySem.Spec PyProof.Rows L2
theorem sqt_set {K : PySem.W.Frag} {H : Hp} {b c : Addr} {o : HO} {xs : List V} (n : c ≠ b) (e : SqT K H c xs) : SqT K (upd H b o) c xs := (Off.refl b H).set.seqT n e
theorem sqt_new {K : PySem.W.Frag} {H : Hp} {p c : Addr} {o : HO} {xs : List V} (n : H p = none) (e : SqT K H c xs) : SqT K (upd H p o) c xs := by
  rcases e with (e | ⟨u, e⟩) | e
  · exact .inl (.inl (same_upd n _ _ e))
  · exact .inl (.inr ⟨u, same_upd n _ _ e⟩)
  · exact .inr e
theorem rv_pop {l : Addr} {xs : List V} {i : Int} {k : Nat} {y : V} {H : Hp} {Q : VK} (h : H l = some (.lst xs)) (h0 : 0 ≤ i) (h1 : i < (xs.length : Int)) (h2 : xs.length ≤ 100000) (hk : k = i.toNat) (hy : xs[k]? = some y) (q : Q y (upd H l (.lst (xs.eraseIdx k)))) : rPopAt (.ref l) [.int i] H Q :=
  ⟨l, xs, i, k, y, rfl, rfl, h, by omega, by omega, by rw [hk]; exact seqIndex_of h0 h1, hy, q⟩
theorem erase_perm : ∀ (l : List V) (k : Nat) (y : V), l[k]? = some y → (y :: l.eraseIdx k).Perm l
  | [], _, _, h => by simp at h
  | x :: r, 0, y, h => by
    have e : x = y := by simpa using h
    subst e
    exact List.Perm.refl _
  | x :: r, k + 1, y, h => by
    have ih := erase_perm r k y (by simpa using h)
    rw [List.eraseIdx_cons_succ]
    exact (List.Perm.swap x y _).trans (ih.cons x)
theorem perm_take {ms rs : List V} {xs : List V} {k : Nat} {y : V} (p : (ms ++ rs).Perm xs) (hy : rs[k]? = some y) : (ms ++ [y] ++ rs.eraseIdx k).Perm xs := by
  refine List.Perm.trans ?_ p
  rw [List.append_assoc]
  exact List.Perm.append_left ms (erase_perm rs k y hy)
end D0
namespace D0
open PySem PySem.Spec PyProof.Rows L2
/-! ### xs[i] += e -/
def rGetL (K : PySem.W.Frag) : V → V → Hp → VK → Prop := fun x y H Q => ∃ p xs i v, x = .ref p ∧ y = .int i ∧ SqL K H p xs ∧ 0 ≤ i ∧ atI xs i = some v ∧ Q v H
theorem dGetL {X : Cx} (K : PySem.W.Frag) (hK : X.K = K := by rfl) : PGet X (rGetL K) := by
  subst hK
  intro pins s σ H o i ov iv Q I ro ri h
  obtain ⟨p, xs, k, v, rfl, rfl, hq, h0, he, q⟩ := h
  cases ro
  obtain ⟨t, rfl⟩ := ri
  obtain ⟨its, r, pl, hz⟩ := I.list hq
  obtain ⟨j, h1, h2, h3, h4, h5⟩ := atI_get he
  obtain ⟨w, ew, rw'⟩ := r.get h2
  have hn := line63
  have hj : k.toNat = j := by
    rw [seqIndex_of h0 h5] at h1
    exact Option.some.inj h1
  exact wpAny_getItem_list pl.isList h0 (by omega) (by rw [hj]; simpa using ew) ⟨v, H, I, rw', q⟩
section
variable {K : PySem.W.Frag} {σ : L2.St} {H : Hp} {Q : VK} {D : Ends} {to ti te : TE} {ta : TA} {v : V}
theorem rd_augS {tget : V → V → Hp → VK → Prop} {tip : TIp} {tset : TSet} (q : to σ H fun o H1 => ti σ H1 fun i H2 => tget o i H2 fun x H3 => te σ H3 fun y H4 => tip x y H4 fun z H5 => tset o i z H5 fun H6 => D.nx σ H6) : tAugS to ti te tget tip tset D σ H := q
theorem rv_get {p : Addr} {xs : List V} {i : Int} (h : SqL K H p xs) (h0 : 0 ≤ i) (c : atI xs i = some v) (q : Q v H) : rGetL K (.ref p) (.int i) H Q := ⟨p, xs, i, v, rfl, rfl, h, h0, c, q⟩
theorem rv_ipI {f : Int → Int → Int} {i j : Int} (q : Q (.int (f i j)) H) : ipI f (.int i) (.int j) H Q := ⟨i, j, rfl, rfl, q⟩
end
/-! ### zip of two lists or tuples -/
theorem dpi_zipA {X : Cx} (K : PySem.W.Frag) {e e2 : Expr} {ta : TA} {p pos tpos : Pos} {elts : List Expr} {kk : Nat} (hg : Gl X "zip") (hm : X.mg "zip" = none) (ha : PA X [e, e2] ta) (hK : X.K = K := by rfl)
    (hs : starEach [e, e2] X.env = (false, eval e X.env) :: starEach [e2] X.env := by rfl) (hpl : (backTo pos (starEach [e2] X.env)).any (·.1) = false := by rfl) : PI X (.Tuple elts kk tpos) (.Call (.Name "zip" p) [e, e2] [] pos) (RZ.iZipA K ta) := by
  subst hK
  exact RZ.pi_zipA hg hm ha hs hpl
section
variable {K : PySem.W.Frag} {σ : L2.St} {H : Hp} {ta : TA}
theorem rd_zipA {R : It → Hp → Prop} (q : ta σ H fun vs H1 => ∃ a b xs ys, vs = [.ref a, .ref b] ∧ ((SqL K H1 a xs ∧ SqL K H1 b ys ∧ R (Itz K a b) H1) ∨ (SqT K H1 a xs ∧ SqT K H1 b ys ∧ R (RZ.ItzT K a b) H1))) : RZ.iZipA K ta σ H R := q
theorem rd_enumT {R : It → Hp → Prop} (q : ta σ H fun vs H1 => ∃ a xs, vs = [.ref a] ∧ SqT K H1 a xs ∧ R (Itet K a) H1) : iEnumT K ta σ H R := q
theorem rv_enumT {a : Addr} {xs : List V} {R : Addr → Prop} (h : SqT K H a xs) (q : R a) : ∃ a' xs', [V.ref a] = [.ref a'] ∧ SqT K H a' xs' ∧ R a' := ⟨a, xs, rfl, h, q⟩
end
/-! ### forces summed at each unknown -/
def netAt : List (List Int) → List Int → Int → Int
  | r :: rs, f :: fs, x => netAt rs fs x + ((if r.getD 1 0 = x then f else 0) - (if r.getD 0 0 = x then f else 0))
  | _, _, _ => 0
theorem netAt_snoc : ∀ (rs : List (List Int)) (fs : List Int) (r : List Int) (f x : Int), rs.length = fs.length → netAt (rs ++ [r]) (fs ++ [f]) x = netAt rs fs x + ((if r.getD 1 0 = x then f else 0) - (if r.getD 0 0 = x then f else 0))
  | [], [], r, f, x, _ => by show (0 : Int) + _ = 0 + _; rfl
  | r' :: rs, f' :: fs, r, f, x, h => by
    show netAt (rs ++ [r]) (fs ++ [f]) x + _ = netAt rs fs x + _ + _
    rw [netAt_snoc rs fs r f x (Nat.succ.inj h)]
    omega
def netL (n : Nat) (rs : List (List Int)) (fs : List Int) : List Int := (List.range n).map fun x : Nat => netAt rs fs (x : Int)
theorem set_range (n : Nat) (g : Nat → Int) (k : Nat) (d : Int) (hk : k < n) : ((List.range n).map g).set k (g k + d) = (List.range n).map fun x => g x + (if k = x then d else 0) := by
  apply List.ext_getElem?
  intro i
  rw [List.getElem?_set, List.getElem?_map, List.getElem?_map, List.length_map, List.length_range]
  by_cases hi : i < n
  · rw [List.getElem?_range hi]
    by_cases e : k = i
    · subst e; simp [hk]
    · simp [e]
  · have e : (List.range n)[i]? = none := by simp; omega
    rw [e]
    by_cases q : k = i
    · omega
    · simp [q]
theorem netL_len (n : Nat) (rs : List (List Int)) (fs : List Int) : (netL n rs fs).length = n := by unfold netL; rw [List.length_map, List.length_range]
theorem netL_hat (n : Nat) (rs : List (List Int)) (fs : List Int) (k : Nat) (hk : k < n) : hat (netL n rs fs) (k : Int) = netAt rs fs (k : Int) := by
  unfold hat netL
  rw [Int.toNat_natCast, List.getD_eq_getElem?_getD, List.getElem?_map, List.getElem?_range hk]
  rfl
theorem hat_set (l : List Int) (j k : Nat) (d : Int) (hj : j < l.length) : hat (l.set j d) (k : Int) = if j = k then d else hat l (k : Int) := by
  unfold hat
  rw [Int.toNat_natCast, List.getD_eq_getElem?_getD, List.getD_eq_getElem?_getD, List.getElem?_set]
  by_cases e : j = k
  · rw [if_pos e, if_pos e, if_pos hj]; rfl
  · rw [if_neg e, if_neg e]
theorem hat_ext {l m : List Int} (hl : l.length = m.length) (h : ∀ k : Nat, k < l.length → hat l (k : Int) = hat m (k : Int)) : l = m := by
  apply List.ext_getElem hl
  intro k h1 h2
  have := h k h1
  unfold hat at this
  rw [Int.toNat_natCast, List.getD_eq_getElem?_getD, List.getD_eq_getElem?_getD, List.getElem?_eq_getElem h1, List.getElem?_eq_getElem h2] at this
  exact this
theorem net_step (n : Nat) (rs : List (List Int)) (fs : List Int) (r : List Int) (v : Int) (ks ke : Nat) (hl : rs.length = fs.length) (h0 : r.getD 0 0 = (ks : Int)) (h1 : r.getD 1 0 = (ke : Int)) (hs : ks < n) (he : ke < n) :
    ((netL n rs fs).set ks (hat (netL n rs fs) ks - v)).set ke (hat ((netL n rs fs).set ks (hat (netL n rs fs) ks - v)) ke + v) = netL n (rs ++ [r]) (fs ++ [v]) := by
  have ln := netL_len n rs fs
  apply hat_ext
  · rw [List.length_set, List.length_set, ln, netL_len]
  · intro k hk
    rw [List.length_set, List.length_set, ln] at hk
    rw [hat_set _ ke k _ (by rw [List.length_set, ln]; exact he), hat_set _ ks ke _ (by rw [ln]; exact hs), hat_set _ ks k _ (by rw [ln]; exact hs), netL_hat n rs fs ks hs, netL_hat n rs fs ke he, netL_hat n rs fs k hk, netL_hat n (rs ++ [r]) (fs ++ [v]) k hk, netAt_snoc rs fs r v k hl, h0, h1]
    by_cases a : ke = k
    · subst a
      by_cases c : ks = ke
      · subst c; simp
      · have c' : ¬ ((ks : Int) = (ke : Int)) := by omega
        simp [c, c']
    · have a' : ¬ ((ke : Int) = (k : Int)) := by omega
      by_cases c : ks = k
      · subst c; simp [a, a']; omega
      · have c' : ¬ ((ks : Int) = (k : Int)) := by omega
        simp [a, a', c, c']
theorem ixN_of {n : Nat} {k : Nat} (h : k < n) : ixN n (k : Int) = some k := by
  unfold ixN
  rw [if_pos (by omega), if_pos (by omega)]
  simp
end D0
namespace D0
open PySem PySem.Spec PyProof.Rows L2
section
variable {K : PySem.W.Frag} {σ : L2.St} {H : Hp} {Q : VK} {te : TE} {ta : TA} {vs : List Nat} {g : TG}
/-- [e for row, v in zip(rows, ints)] over two tuples -/
theorem lc_zipR {a b : Addr} {xs : List V} {rs : List (List Int)} {fs : List Int} (f : List Int → Int → V) (hl : ∀ Qe : List V → Hp → Prop, Qe [.ref a, .ref b] H → ta σ H Qe) (ha : H a = some (.tup xs)) (hr : RowsAt H xs rs) (hb : H b = some (.tup (fs.map V.int))) (hlen : fs.length = rs.length) (hz : xs.length ≤ 100000)
    (he : ∀ (x : V) (r : List Int) (v : Int) (T : Addr) (H' : Hp) (Nx : VK) (E : Hp → Prop), r ∈ rs → Same H H' → Tn H' x r → H' T = some (.tup [x, .int v]) → (∀ H'', Same H' H'' → Nx (f r v) H'') →
      g (.ref T) (wipe σ vs) H' fun σ2 H2 => wipe σ2 vs = wipe σ vs ∧ tYes σ2 H2 fun b H3 => if b = true then te σ2 H3 Nx else E H3)
    (q : ∀ D H', H D = none → Same H H' → H' D = some (.lst ((rs.zip fs).map fun p => f p.1 p.2)) → Q (.ref D) H') : tLc (RZ.iZipA K ta) g tYes te vs σ H Q := by
  have hln := Paired.len hr
  refine hl _ ⟨a, b, xs, fs.map V.int, rfl, .inr ⟨SqT.of ha, SqT.of hb, fun D hD => ?_⟩⟩
  refine ⟨fun i m H' => i + m = xs.length ∧ Same H H' ∧ H' D = some (.lst (((rs.zip fs).take i).map fun p => f p.1 p.2)), ⟨xs.length, by omega, same_upd hD, upd_same⟩, ?_⟩
  rintro i m H' ⟨em, s, e⟩
  by_cases hi : i < xs.length
  · have hx : xs[i]? = some xs[i] := List.getElem?_eq_getElem hi
    obtain ⟨r, er, hxr⟩ := Paired.get1 hr hx
    have hif : i < fs.length := by omega
    have ev : fs[i]? = some fs[i] := List.getElem?_eq_getElem hif
    have hy : (fs.map V.int)[i]? = some (.int fs[i]) := by rw [List.getElem?_map, ev]; rfl
    refine .inr ⟨⟨_, _, _, _, SqT.of (s _ _ ha), SqT.of (s _ _ hb), hx, hy⟩, fun H2 => Same H H2 ∧ H2 D = some (.lst (((rs.zip fs).take (i + 1)).map fun p => f p.1 p.2)), fun H2 h2 => ⟨m - 1, by omega, by omega, h2.1, h2.2⟩, ?_⟩
    rintro w H2 ⟨T, x, y, rfl, hT, rfl, gx, gy⟩
    have e1 : x = xs[i] := Option.some.inj ((gx _ (SqT.of (s _ _ ha))).symm.trans hx)
    have e2 : y = .int fs[i] := Option.some.inj ((gy _ (SqT.of (s _ _ hb))).symm.trans hy)
    subst e1 e2
    have s2 := s.trans (same_upd hT (o := .tup [xs[i], .int fs[i]]))
    refine he xs[i] r fs[i] T _ _ _ (List.mem_of_getElem? er) s2 (hxr.same s2) upd_same fun H'' s3 => ?_
    have e3 := s3 _ _ (same_upd hT _ _ e)
    refine ⟨_, e3, ?_, ?_, ?_⟩
    · rw [List.length_map]
      exact sz4' (by rw [List.length_take, List.length_zip]; omega)
    · intro b' o eb
      rw [upd_ne (ne_of_none eb hD)]
      exact s3 _ _ (s2 _ _ eb)
    · have ez : (rs.zip fs)[i]? = some (r, fs[i]) := by rw [List.getElem?_zip_eq_some]; exact ⟨er, ev⟩
      rw [upd_same, List.take_add_one, ez, List.map_append]
      rfl
  · refine .inl ⟨⟨xs, _, SqT.of (s _ _ ha), SqT.of (s _ _ hb), .inl (by omega)⟩, ?_⟩
    rw [List.take_of_length_le (by rw [List.length_zip]; omega)] at e
    exact q D H' hD s e
end
def wsum (rs : List (List Int)) (fs : List Int) : Int := ((rs.zip fs).map fun p => p.1.getD 2 0 * p.2).sum
end D0
namespace D0
open PySem PySem.Spec PyProof.Rows L2
theorem eqv_ints : ∀ l m : List Int, PyData.eqvAll (l.map PyData.int) (m.map PyData.int) = decide (l = m)
  | [], [] => rfl
  | [], _ :: _ => rfl
  | _ :: _, [] => rfl
  | x :: l, y :: m => by
    show (PyData.eqv (.int x) (.int y) && PyData.eqvAll (l.map PyData.int) (m.map PyData.int)) = _
    rw [eqv_ints l m, show PyData.eqv (.int x) (.int y) = (x == y) from rfl]
    by_cases h : x = y
    · subst h; simp
    · simp [h]
theorem dp_ints (K : PySem.W.Frag) (H : Hp) : ∀ l : List Int, DpAll K H (l.map V.int) (l.map PyData.int)
  | [] => .nil
  | x :: l => .cons (.int x) (dp_ints K H l)
section
variable {X : Cx} (K : PySem.W.Frag)
theorem dEqD (hu : X.A.units + 64 < cLine) (hK : X.K = K := by rfl) : OpR X (compareOp .Eq) (rEqD K) := by subst hK; exact op_eqD hu
end
section
variable {K : PySem.W.Frag} {σ : L2.St} {H : Hp} {Q : VK} {te tl : TE} {vs : List Nat} {j : Nat}
theorem lay_ints : ∀ l : List Int, PyData.canLayAll0 (l.map PyData.int) = true ∧ PyData.depthAll (l.map PyData.int) = 0
  | [] => ⟨rfl, rfl⟩
  | x :: l => ⟨(lay_ints l).1, by
    show max (PyData.depth (.int x)) (PyData.depthAll (l.map PyData.int)) = 0
    rw [(lay_ints l).2]; rfl⟩
theorem sh_ints (l : List Int) : SeqAt.shaped (.list (l.map PyData.int)) = true := by
  have h := lay_ints l
  have h1 : PyData.canLay0 (.list (l.map PyData.int)) = true := h.1
  have h2 : PyData.depth (.list (l.map PyData.int)) = 1 := by
    show PyData.depthAll (l.map PyData.int) + 1 = 1
    rw [h.2]
  unfold SeqAt.shaped
  rw [h1, h2]; rfl
theorem rv_eqLI {a b : Addr} {l m : List Int} (ha : SqL K H a (l.map V.int)) (hb : SqL K H b (m.map V.int)) (q : Q (.bl (decide (l = m))) H) : rEqD K (.ref a) (.ref b) H Q :=
  ⟨.list (l.map PyData.int), .list (m.map PyData.int), .lst ha (dp_ints K H l), .lst hb (dp_ints K H m), sh_ints l, sh_ints m, by
    show Q (.bl (PyData.eqvAll (l.map PyData.int) (m.map PyData.int))) H
    rw [eqv_ints]; exact q⟩
/-- [e for x in a tuple], e a value f x -/
theorem lc_tmap {a : Addr} {xs : List V} (f : V → V) (hl : ∀ Qe : VK, Qe (.ref a) H → tl σ H Qe) (hs : SqT K H a xs) (hz : xs.length ≤ 100000) (hw : ∀ x, wipe ((wipe σ vs).set j (some x)) vs = wipe σ vs)
    (he : ∀ (i : Nat) (x : V) (H' : Hp), xs[i]? = some x → Same H H' → ∀ Qe : VK, (∀ H'', Same H' H'' → Qe (f x) H'') → te ((wipe σ vs).set j (some x)) H' Qe)
    (q : ∀ D H', H D = none → Same H H' → H' D = some (.lst (xs.map f)) → Q (.ref D) H') : tLc (iTup K tl) (gName j) tYes te vs σ H Q := by
  have keep : ∀ H', Same H H' → SqT K H' a xs := fun H' s => by
    rcases hs with (e | ⟨u, e⟩) | e
    · exact .inl (.inl (s _ _ e))
    · exact .inl (.inr ⟨u, s _ _ e⟩)
    · exact .inr e
  refine hl _ ⟨a, rfl, ⟨_, hs⟩, fun D hD => ?_⟩
  refine lc_tup (K := K) (a := a) (xs := xs) (fun i H' => Same H H' ∧ H' D = some (.lst ((xs.take i).map f))) ⟨same_upd hD, upd_same⟩ (fun i H' _ h => keep H' h.1) ?_ ?_
  · rintro i x H' hx ⟨s, e⟩
    refine ⟨hw x, rd_yes (iteT ?_)⟩
    refine he i x H' hx s _ fun H'' s2 => ?_
    refine ⟨_, s2 _ _ e, ?_, ?_, ?_⟩
    · rw [List.length_map, List.length_take]
      exact sz4' (by have := (List.getElem?_eq_some_iff.mp hx).1; omega)
    · intro b o eb
      rw [upd_ne (ne_of_none eb hD)]
      exact s2 _ _ (s _ _ eb)
    · rw [upd_same, List.take_add_one, hx, List.map_append]; rfl
  · rintro H' ⟨s, e⟩
    rw [List.take_length] at e
    exact q D H' hD s e
end
end D0
namespace D0
open PySem PySem.Spec PyProof.Rows L2
section
variable {K : PySem.W.Frag} {σ : L2.St} {H : Hp} {Q : VK} {te : TE} {ta : TA} {vs : List Nat} {j : Nat}
/-- [e for k in range(n)], e a value f k -/
theorem lc_rmap {n : Nat} (f : Nat → V) (hn : n ≤ 100000) (hl : ∀ Qe : List V → Hp → Prop, Qe [.int (n : Int)] H → ta σ H Qe) (hw : ∀ x, wipe ((wipe σ vs).set j (some x)) vs = wipe σ vs)
    (he : ∀ (i : Nat) (H' : Hp), i < n → Same H H' → ∀ Qe : VK, (∀ H'', Same H' H'' → Qe (f i) H'') → te ((wipe σ vs).set j (some (.int (i : Int)))) H' Qe)
    (q : ∀ D H', H D = none → Same H H' → H' D = some (.lst ((List.range n).map f)) → Q (.ref D) H') : tLc (iRng1 ta) (gName j) tYes te vs σ H Q := by
  refine hl _ ⟨(n : Int), rfl, by omega, by omega, fun D hD => ?_⟩
  refine lc_range (lo := 0) (n := ((n : Int)).toNat) (fun i H' => Same H H' ∧ H' D = some (.lst ((List.range i).map f))) ⟨same_upd hD, upd_same⟩ ?_ ?_
  · rintro i H' hi ⟨s, e⟩
    refine ⟨hw _, rd_yes (iteT ?_)⟩
    rw [show (0 : Int) + (i : Int) = (i : Int) by omega]
    refine he i H' (by omega) s _ fun H'' s2 => ?_
    refine ⟨_, s2 _ _ e, ?_, ?_, ?_⟩
    · rw [List.length_map, List.length_range]
      exact sz4' (by omega)
    · intro b o eb
      rw [upd_ne (ne_of_none eb hD)]
      exact s2 _ _ (s _ _ eb)
    · rw [upd_same, List.range_succ, List.map_append]; rfl
  · rintro H' ⟨s, e⟩
    exact q D H' hD s e
end
theorem zip_range (rs : List (List Int)) (fs : List Int) (h : fs.length = rs.length) : (List.range rs.length).map (fun k => fs.getD k 0 * (rs.getD k []).getD 2 0) = (rs.zip fs).map fun p => p.1.getD 2 0 * p.2 := by
  apply List.ext_getElem
  · simp; omega
  · intro k h1 h2
    have hk : k < rs.length := by simpa using h1
    have hk2 : k < fs.length := by omega
    simp [List.getD_eq_getElem?_getD, hk, hk2, Int.mul_comm]
end D0
namespace D0
open PySem PySem.Spec PyProof.Rows L2
/-! ### frames: all but some addresses is kept -/
def OffS (S : List Addr) (H H' : Hp) : Prop := ∀ a o, a ∉ S → H a = some o → H' a = some o
theorem OffS.refl (S : List Addr) (H : Hp) : OffS S H H := fun _ _ _ e => e
theorem OffS.trans {S : List Addr} {H H1 H2 : Hp} (x : OffS S H H1) (y : OffS S H1 H2) : OffS S H H2 := fun a o n e => y a o n (x a o n e)
theorem OffS.new {S : List Addr} {H H1 : Hp} {p : Addr} {o : HO} (x : OffS S H H1) (h : H1 p = none) : OffS S H (upd H1 p o) := fun a u n e => same_upd h _ _ (x a u n e)
theorem OffS.set {S : List Addr} {H H1 : Hp} {p : Addr} {o : HO} (x : OffS S H H1) (h : p ∈ S) : OffS S H (upd H1 p o) := fun a u n e => (upd_ne fun q => n (by rw [q]; exact h)).trans (x a u n e)
theorem OffS.mut {S : List Addr} {H H1 : Hp} {p : Addr} {o : HO} (x : OffS S H H1) (h : H p = none) : OffS S H (upd H1 p o) := fun a u n e => (upd_ne (ne_of_none e h)).trans (x a u n e)
theorem OffS.off {S : List Addr} {b : Addr} {H H1 H2 : Hp} (x : OffS S H H1) (h : b ∈ S) (y : Off b H1 H2) : OffS S H H2 := fun a u n e => y a u (fun q => n (by rw [q]; exact h)) (x a u n e)
theorem OffS.same {S : List Addr} {H H1 H2 : Hp} (x : OffS S H H1) (y : Same H1 H2) : OffS S H H2 := fun a u n e => y a u (x a u n e)
theorem OffS.get {S : List Addr} {H H' : Hp} {a : Addr} {o : HO} (x : OffS S H H') (n : a ∉ S) (e : H a = some o) : H' a = some o := x a o n e
theorem OffS.fresh {S : List Addr} {H H1 : Hp} {p : Addr} (x : OffS S H H1) (n : p ∉ S) (h : H1 p = none) : H p = none := by
  cases e : H p with
  | none => rfl
  | some o => rw [x p o n e] at h; cases h
/-- what is not in the first list or was not there at first -/
theorem OffS.to {S : List Addr} {b : Addr} {H0 H H1 : Hp} (x : OffS S H H1) (f : Off b H0 H) (h : ∀ a ∈ S, a = b ∨ H0 a = none) : Off b H0 H1 := fun a u n e =>
  x a u (fun m => (h a m).elim n fun z => by rw [z] at e; cases e) (f a u n e)
theorem OffS.toS {S T : List Addr} {H0 H H1 : Hp} (x : OffS S H H1) (f : OffS T H0 H) (h : ∀ a ∈ S, a ∈ T ∨ H0 a = none) : OffS T H0 H1 := fun a u n e =>
  x a u (fun m => (h a m).elim n fun z => by rw [z] at e; cases e) (f a u n e)
theorem OffS.of_off {S : List Addr} {b : Addr} {H H1 : Hp} (x : Off b H H1) (h : b ∈ S) : OffS S H H1 := (OffS.refl S H).off h x
theorem OffS.ts {S : List Addr} {H H' : Hp} (x : OffS S H H') (h : ∀ a ∈ S, ∃ xs, H a = some (.lst xs)) : TS H H' := fun a xs e => by
  by_cases m : a ∈ S
  · obtain ⟨ys, z⟩ := h a m
    rw [z] at e; cases e
  · exact x a _ m e
theorem BagAt.lst {b c : Addr} {cs : List Int} {H : Hp} (x : BagAt b c cs H) : ∃ xs, H b = some (.lst xs) := by
  obtain ⟨i, z, s, n, k, e, _⟩ := x
  exact ⟨_, e⟩
/-! ### a row and a number -/
def TnF (H : Hp) (v : V) (p : List Int × Int) : Prop := ∃ a x, v = .ref a ∧ H a = some (.tup [x, .int p.2]) ∧ Tn H x p.1
theorem TnF.ts {H H' : Hp} {v : V} {p : List Int × Int} (x : TnF H v p) (t : TS H H') : TnF H' v p := by
  obtain ⟨a, y, rfl, e, z⟩ := x
  exact ⟨a, y, rfl, t _ _ e, z.ts t⟩
theorem TnF.same {H H' : Hp} {v : V} {p : List Int × Int} (x : TnF H v p) (t : Same H H') : TnF H' v p := x.ts (.of_same t)
/-! ### pairs -/
theorem Paired.take {α β : Type} {F : α → β → Prop} : ∀ {l₁ : List α} {l₂ : List β} (n : Nat), Paired F l₁ l₂ → Paired F (l₁.take n) (l₂.take n)
  | _, _, 0, _ => by rw [List.take_zero, List.take_zero]; exact .nil
  | _, _, _ + 1, .nil => by rw [List.take_nil, List.take_nil]; exact .nil
  | _, _, n + 1, .cons h t => by rw [List.take_succ_cons, List.take_succ_cons]; exact .cons h (Paired.take n t)
theorem Paired.of_get {α β : Type} {F : α → β → Prop} : ∀ {l₁ : List α} {l₂ : List β}, l₁.length = l₂.length → (∀ (i : Nat) x y, l₁[i]? = some x → l₂[i]? = some y → F x y) → Paired F l₁ l₂
  | [], [], _, _ => .nil
  | [], _ :: _, h, _ => by simp at h
  | _ :: _, [], h, _ => by simp at h
  | _ :: _, _ :: _, h, f => .cons (f 0 _ _ rfl rfl) (Paired.of_get (by simpa using h) fun i x y hx hy => f (i + 1) x y (by simpa using hx) (by simpa using hy))
theorem Paired.map2 {α β γ : Type} {F : α → γ → Prop} (f : β → γ) : ∀ {l₁ : List α} {l₂ : List β}, Paired (fun x y => F x (f y)) l₁ l₂ → Paired F l₁ (l₂.map f)
  | _, _, .nil => .nil
  | _, _, .cons h t => .cons h (Paired.map2 f t)
theorem Paired.map1 {α β γ : Type} {F : γ → β → Prop} (f : α → γ) : ∀ {l₁ : List α} {l₂ : List β}, Paired (fun x y => F (f x) y) l₁ l₂ → Paired F (l₁.map f) l₂
  | _, _, .nil => .nil
  | _, _, .cons h t => .cons h (Paired.map1 f t)
theorem Paired.map2' {α β γ : Type} {F : α → γ → Prop} (f : β → γ) : ∀ {l₁ : List α} {l₂ : List β}, Paired F l₁ (l₂.map f) → Paired (fun x y => F x (f y)) l₁ l₂
  | [], [], _ => .nil
  | [], _ :: _, h => by cases h
  | _ :: _, [], h => by cases h
  | _ :: _, _ :: _, .cons h t => .cons h (Paired.map2' f t)
theorem Paired.fn {α β : Type} (f : β → α) : ∀ {l₁ : List α} {l₂ : List β}, Paired (fun x y => x = f y) l₁ l₂ → l₁ = l₂.map f
  | _, _, .nil => rfl
  | _, _, .cons h t => by rw [h, Paired.fn f t]; rfl
theorem Paired.app {α β : Type} {F : α → β → Prop} : ∀ {l₁ : List α} {l₂ : List β} {m₁ : List α} {m₂ : List β}, Paired F l₁ l₂ → Paired F m₁ m₂ → Paired F (l₁ ++ m₁) (l₂ ++ m₂)
  | _, _, _, _, .nil, h => h
  | _, _, _, _, .cons h t, h2 => .cons h (Paired.app t h2)
theorem Paired.get2 {α β : Type} {F : α → β → Prop} : ∀ {xs : List α} {ys : List β} {i : Nat} {y : β}, Paired F xs ys → ys[i]? = some y → ∃ x, xs[i]? = some x ∧ F x y
  | _, _, i, y, .nil, h => by simp at h
  | _, _, 0, y, .cons f _, h => by
    rw [List.getElem?_cons_zero] at h
    cases h
    exact ⟨_, rfl, f⟩
  | _, _, i + 1, y, .cons _ t, h => by
    rw [List.getElem?_cons_succ] at h
    obtain ⟨x, e, f⟩ := Paired.get2 t h
    exact ⟨x, by rw [List.getElem?_cons_succ]; exact e, f⟩
/-- a rearranged list of values has a rearranged list of what it stands for -/
theorem Paired.perm {α β : Type} {F : α → β → Prop} {xs ys : List α} (p : ys.Perm xs) : ∀ {rs : List β}, Paired F xs rs → ∃ ss, Paired F ys ss ∧ ss.Perm rs := by
  induction p with
  | nil => intro rs h; cases h; exact ⟨[], .nil, List.Perm.refl _⟩
  | cons x _ ih =>
    intro rs h
    cases h with
    | cons h t =>
      obtain ⟨ss, h2, p2⟩ := ih t
      exact ⟨_ :: ss, .cons h h2, p2.cons _⟩
  | swap x y l =>
    intro rs h
    cases h with
    | cons h t => cases t with
      | cons h2 t2 => exact ⟨_, .cons h2 (.cons h t2), List.Perm.swap ..⟩
  | trans _ _ ih1 ih2 =>
    intro rs h
    obtain ⟨ss, h1, p1⟩ := ih2 h
    obtain ⟨ss', h2, p2⟩ := ih1 h1
    exact ⟨ss', h2, p2.trans p1⟩
/-! ### slices, ranges -/
theorem dSlTA {X : Cx} (K : PySem.W.Frag) (hK : X.K = K := by rfl) : SlR X (rSlA K) := by subst hK; exact sl_tupA
theorem cut_take (xs : List V) (k : Nat) : cutV xs none (some (k : Int)) = xs.take k := by
  unfold cutV
  rw [HT.sIx_none, HT.sIx_nat, List.drop_zero, Nat.sub_zero]
  by_cases h : k ≤ xs.length
  · rw [Nat.min_eq_left h]
  · rw [Nat.min_eq_right (by omega), List.take_length, List.take_of_length_le (by omega)]
theorem cut_drop (xs : List V) (k : Nat) : cutV xs (some (k : Int)) none = xs.drop k := by
  unfold cutV
  rw [HT.sIx_none, HT.sIx_nat]
  by_cases h : k ≤ xs.length
  · rw [Nat.min_eq_left h, List.take_of_length_le (by rw [List.length_drop]; omega)]
  · rw [Nat.min_eq_right (by omega), List.drop_length, List.drop_eq_nil_of_le (by omega), List.take_nil]
theorem rv_slTA {K : PySem.W.Frag} {H : Hp} {Q : VK} {p : Addr} {xs : List V} {lo hi : Option Int} (h : H p = some (.tup xs)) (q : ∀ a H', Same H H' → H' a = some (.tup (cutV xs lo hi)) → Q (.ref a) H') : rSlA K (.ref p) lo hi H Q := by
  refine ⟨p, xs, rfl, SqT.of h, fun w => q p H (fun _ _ e => e) ?_, fun _ a ha => q a _ (same_upd ha) upd_same⟩
  have e : cutV xs lo hi = xs := by
    unfold cutV
    rw [w.1, w.2, List.drop_zero, Nat.sub_zero, List.take_length]
  rw [e]
  exact h
theorem rg_ints (n : Nat) : rgV 0 (n : Int) = ((List.range n).map fun i : Nat => (i : Int)).map V.int := by
  unfold rgV
  rw [List.map_map, show ((n : Int) - 0).toNat = n by omega]
  exact List.map_congr_left fun i _ => by show V.int (0 + (i : Int)) = V.int (i : Int); rw [Int.zero_add]
section
variable {K : PySem.W.Frag} {σ : L2.St} {H : Hp} {Q : VK} {te tl : TE} {ta : TA} {vs : List Nat} {j : Nat} {g : TG} {tt : TT}
theorem rd_listRg {te : L2.St → Hp → (Int → Int → Hp → Prop) → Prop} (q : te σ H fun a b H1 => RgOk a b ∧ ∀ q, H1 q = none → Q (.ref q) (upd H1 q (.lst (rgV a b)))) : tLstRg te σ H Q := q
theorem rd_tupRg {te : L2.St → Hp → (Int → Int → Hp → Prop) → Prop} (q : te σ H fun a b H1 => RgOk a b ∧ ∀ q, H1 q = none → Q (.ref q) (upd H1 q (.tup (rgV a b)))) : tTupRg te σ H Q := q
theorem rd_rg1 {R : Int → Int → Hp → Prop} (q : te σ H fun x H1 => ∃ n, x = .int n ∧ R 0 n H1) : tRg1 te σ H R := q
theorem rd_rg2 {R : Int → Int → Hp → Prop} (q : te σ H fun x H1 => tl σ H1 fun y H2 => ∃ i j, x = .int i ∧ y = .int j ∧ R i j H2) : tRg2 te tl σ H R := q
theorem rv_i1 {i : Int} {R : Int → Prop} (q : R i) : ∃ n, V.int i = V.int n ∧ R n := ⟨i, rfl, q⟩
theorem rv_i2 {i j : Int} {R : Int → Int → Prop} (q : R i j) : ∃ n m, V.int i = V.int n ∧ V.int j = V.int m ∧ R n m := ⟨i, j, rfl, rfl, q⟩
/-! ### comprehensions, what is walked first -/
def LC (J : It) (g : TG) (tt : TT) (te : TE) (vs : List Nat) (σ : L2.St) (H1 : Hp) (Q : VK) : Prop := ∀ D, H1 D = none → ∃ W : Nat → Nat → Hp → Prop, (∃ m, W 0 m (upd H1 D (.lst []))) ∧ ∀ i m H, W i m H →
  (J.stop i H ∧ Q (.ref D) H) ∨ (J.go i H ∧ ∃ Nx : Hp → Prop, (∀ H', Nx H' → ∃ m', m' < m ∧ W (i + 1) m' H') ∧ ∀ x H', J.yld i H x H' → g x (wipe σ vs) H' fun σ2 H2 => wipe σ2 vs = wipe σ vs ∧ tt σ2 H2 fun b H3 =>
    if b = true then te σ2 H3 fun y H4 => ∃ acc, H4 D = some (.lst acc) ∧ acc.length < sizeLine ∧ Nx (upd H4 D (.lst (acc ++ [y]))) else Nx H3)
theorem rd_lc {wi : TI} (q : wi σ H fun J H1 => LC J g tt te vs σ H1 Q) : tLc wi g tt te vs σ H Q := q
/-- a comprehension that changes nothing that stood: for each turn i that is kept a value y with Gd i y -/
theorem lc_pureG {J : It} {n : Nat} {G : Hp → Prop} {Y : Nat → Hp → V → Hp → Prop} (w : Walk J n G Y) (kp : Nat → Bool) (Gd : Addr → Nat → V → Hp → Prop) (hn : n ≤ 100000)
    (hG : ∀ H', Same H H' → G H') (hY : ∀ i H' x H2, Y i H' x H2 → Same H' H2) (hS : ∀ D i y H1 H2, (∃ zs, H1 D = some (.lst zs)) → Off D H1 H2 → Gd D i y H1 → Gd D i y H2)
    (he : ∀ (D : Addr) (i : Nat) (x : V) (H' H2 : Hp) (Nx : VK) (E : Hp → Prop), i < n → H D = none → (∃ zs, H' D = some (.lst zs)) → Same H H' → Same H' H2 → Y i H' x H2 → (kp i = true → ∀ y H'', Same H2 H'' → Gd D i y H'' → Nx y H'') → (kp i = false → ∀ H'', Same H2 H'' → E H'') →
      g x (wipe σ vs) H2 fun σ2 H3 => wipe σ2 vs = wipe σ vs ∧ tt σ2 H3 fun b H4 => if b = true then te σ2 H4 Nx else E H4)
    (q : ∀ D ys H', H D = none → Same H H' → H' D = some (.lst ys) → Paired (fun y i => Gd D i y H') ys ((List.range n).filter kp) → Q (.ref D) H') : LC J g tt te vs σ H Q := by
  intro D hD
  refine lc_it w (fun i H' => Same H H' ∧ ∃ ys, H' D = some (.lst ys) ∧ Paired (fun y i => Gd D i y H') ys ((List.range i).filter kp)) ⟨same_upd hD, [], upd_same, .nil⟩ (fun i H' _ h => hG _ h.1) ?_ ?_
  · rintro i x H' H2 hi ⟨s, ys, e, p⟩ hy
    have s2 : Same H' H2 := hY _ _ _ _ hy
    have hlen : ys.length ≤ i := by
      rw [Paired.len p]
      exact Nat.le_trans (List.length_filter_le _ _) (by rw [List.length_range]; omega)
    refine he D i x H' H2 _ _ hi hD ⟨ys, e⟩ s s2 hy (fun hk y H'' s3 gy => ?_) (fun hk H'' s3 => ?_)
    · have s23 := s2.trans s3
      have su : Off D H'' (upd H'' D (.lst (ys ++ [y]))) := (Off.refl D H'').set
      have e'' := s23 _ _ e
      refine ⟨ys, e'', sz4' (by omega), ?_, ys ++ [y], upd_same, ?_⟩
      · intro b o eb
        rw [upd_ne (ne_of_none eb hD)]
        exact s23 _ _ (s _ _ eb)
      · rw [List.range_succ, List.filter_append]
        simp only [List.filter_cons, hk, List.filter_nil, if_true]
        refine Paired.app (Paired.mapP p fun y i h => hS D i y _ _ ⟨_, e⟩ ((Off.of_same s23).trans su) h) (.cons (hS D i y _ _ ⟨_, e''⟩ su gy) .nil)
    · refine ⟨s.trans (s2.trans s3), ys, (s2.trans s3) _ _ e, ?_⟩
      rw [List.range_succ, List.filter_append]
      simp only [List.filter_cons, hk, List.filter_nil, if_neg Bool.false_ne_true, List.append_nil]
      exact Paired.mapP p fun y i => hS D i y _ _ ⟨_, e⟩ (.of_same (s2.trans s3))
  · rintro H' ⟨s, ys, e, p⟩
    exact q D ys H' hD s e p
/-- a comprehension that draws from the bag at b -/
theorem lc_drawG {J : It} {n : Nat} {G : Hp → Prop} {Y : Nat → Hp → V → Hp → Prop} {b c : Addr} {cs : List Int} (w : Walk J n G Y) (Gd : Addr → Nat → V → Hp → Prop) (hn : n ≤ 100000) (B : BagAt b c cs H)
    (hG : ∀ H', Off b H H' → G H') (hY : ∀ i H' x H2, Y i H' x H2 → Same H' H2) (hS : ∀ D i y H1 H2, D ≠ b → (∃ zs, H1 D = some (.lst zs)) → (∃ zs, H1 b = some (.lst zs)) → OffS [b, D] H1 H2 → Gd D i y H1 → Gd D i y H2)
    (he : ∀ (D : Addr) (i : Nat) (x : V) (H' H2 : Hp) (Qe : VK) (E : Hp → Prop), i < n → H D = none → (∃ zs, H' D = some (.lst zs)) → Off b H H' → BagAt b c cs H2 → Same H' H2 → Y i H' x H2 → (∀ y H'', Off b H2 H'' → BagAt b c cs H'' → Gd D i y H'' → Qe y H'') →
      g x (wipe σ vs) H2 fun σ2 H3 => wipe σ2 vs = wipe σ vs ∧ tt σ2 H3 fun b H4 => if b = true then te σ2 H4 Qe else E H4)
    (q : ∀ D ys H', H D = none → Off b H H' → BagAt b c cs H' → H' D = some (.lst ys) → D ≠ b → D ≠ c → Paired (fun y i => Gd D i y H') ys (List.range n) → Q (.ref D) H') : LC J g tt te vs σ H Q := by
  intro D hD
  have hDb : D ≠ b := B.ne hD
  have hDc : D ≠ c := B.ne2 hD
  have hbD : b ≠ D := hDb.symm
  refine lc_it w (fun i H' => Off b H H' ∧ BagAt b c cs H' ∧ ∃ ys, H' D = some (.lst ys) ∧ Paired (fun y i => Gd D i y H') ys (List.range i)) ⟨(Off.refl b H).new hD, B.new hD, [], upd_same, .nil⟩ (fun i H' _ h => hG _ h.1) ?_ ?_
  · rintro i x H' H2 hi ⟨f, B', ys, e, p⟩ hy
    have s2 : Same H' H2 := hY _ _ _ _ hy
    have hlen : ys.length = i := by rw [Paired.len p, List.length_range]
    refine he D i x H' H2 _ _ hi hD ⟨ys, e⟩ f (B'.same s2) s2 hy fun y H'' f3 B3 gy => ?_
    have f23 : Off b H' H'' := (Off.of_same s2).trans f3
    have e'' := f23.get hDb e
    have su : OffS [b, D] H'' (upd H'' D (.lst (ys ++ [y]))) := (OffS.refl _ _).set (by simp)
    refine ⟨ys, e'', sz4' (by omega), (f.trans f23).mut hD, B3.put hDb hDc, ys ++ [y], upd_same, ?_⟩
    rw [List.range_succ]
    exact Paired.app (Paired.mapP p fun y i h => hS D i y _ _ hDb ⟨_, e⟩ B'.lst ((OffS.of_off f23 (by simp)).trans su) h) (.cons (hS D i y _ _ hDb ⟨_, e''⟩ B3.lst su gy) .nil)
  · rintro H' ⟨f, B', ys, e, p⟩
    exact q D ys H' hD f B' e hDb hDc p
theorem Off.ts {b : Addr} {H H' : Hp} (x : Off b H H') (h : ∃ zs, H b = some (.lst zs)) : TS H H' := fun a xs e => by
  by_cases m : a = b
  · obtain ⟨ys, z⟩ := h
    rw [m, z] at e; cases e
  · exact x a _ m e
theorem Paired.of_range {α β : Type} {F : α → β → Prop} {ys : List α} {rs : List β} {n : Nat} (hn : n = rs.length) (h : Paired (fun y i => ∃ r, rs[i]? = some r ∧ F y r) ys (List.range n)) : Paired F ys rs := by
  refine Paired.of_get (by rw [Paired.len h, List.length_range, hn]) fun i y r hy hr => ?_
  obtain ⟨k, hk, r', e, f⟩ := Paired.get1 h hy
  have hi : i < n := by rw [hn]; exact (List.getElem?_eq_some_iff.mp hr).1
  rw [List.getElem?_range hi] at hk
  cases hk
  rw [hr] at e
  cases e
  exact f
/-- for each r of rs a value y with F y r; F speaks of tuples alone -/
theorem lc_pureT {β : Type} {J : It} {n : Nat} {G : Hp → Prop} {Y : Nat → Hp → V → Hp → Prop} (w : Walk J n G Y) (rs : List β) (F : Hp → V → β → Prop) (hl : n = rs.length) (hn : n ≤ 100000)
    (hG : ∀ H', Same H H' → G H') (hY : ∀ i H' x H2, Y i H' x H2 → Same H' H2) (hF : ∀ H1 H2 y r, TS H1 H2 → F H1 y r → F H2 y r)
    (he : ∀ (i : Nat) (r : β) (x : V) (H' H2 : Hp) (Nx : VK) (E : Hp → Prop), rs[i]? = some r → Same H H' → Same H' H2 → Y i H' x H2 → (∀ y H'', Same H2 H'' → F H'' y r → Nx y H'') →
      g x (wipe σ vs) H2 fun σ2 H3 => wipe σ2 vs = wipe σ vs ∧ tt σ2 H3 fun b H4 => if b = true then te σ2 H4 Nx else E H4)
    (q : ∀ D ys H', H D = none → Same H H' → H' D = some (.lst ys) → Paired (F H') ys rs → Q (.ref D) H') : LC J g tt te vs σ H Q := by
  refine lc_pureG w (fun _ => true) (fun _ i y H' => ∃ r, rs[i]? = some r ∧ F H' y r) hn hG hY (fun D i y H1 H2 z f ⟨r, er, h⟩ => ⟨r, er, hF _ _ _ _ (Off.ts f z) h⟩) ?_ ?_
  · intro D i x H' H2 Nx E hi hD eD s s2 hy hN _
    have er : rs[i]? = some (rs[i]'(by omega)) := List.getElem?_eq_getElem (by omega)
    exact he i _ x H' H2 Nx E er s s2 hy fun y H'' s3 f => hN rfl y H'' s3 ⟨_, er, f⟩
  · intro D ys H' hD s e p
    rw [ftrue] at p
    exact q D ys H' hD s e (Paired.of_range hl p)
/-- the value f i for each turn i that is kept -/
theorem lc_pureF {J : It} {n : Nat} {G : Hp → Prop} {Y : Nat → Hp → V → Hp → Prop} (w : Walk J n G Y) (kp : Nat → Bool) (f : Nat → V) (hn : n ≤ 100000)
    (hG : ∀ H', Same H H' → G H') (hY : ∀ i H' x H2, Y i H' x H2 → Same H' H2)
    (he : ∀ (i : Nat) (x : V) (H' H2 : Hp) (Nx : VK) (E : Hp → Prop), i < n → Same H H' → Same H' H2 → Y i H' x H2 → (kp i = true → ∀ H'', Same H2 H'' → Nx (f i) H'') → (kp i = false → ∀ H'', Same H2 H'' → E H'') →
      g x (wipe σ vs) H2 fun σ2 H3 => wipe σ2 vs = wipe σ vs ∧ tt σ2 H3 fun b H4 => if b = true then te σ2 H4 Nx else E H4)
    (q : ∀ D H', H D = none → Same H H' → H' D = some (.lst (((List.range n).filter kp).map f)) → Q (.ref D) H') : LC J g tt te vs σ H Q := by
  refine lc_pureG w kp (fun _ i y _ => y = f i) hn hG hY (fun D i y H1 H2 _ _ h => h) ?_ ?_
  · intro D i x H' H2 Nx E hi hD eD s s2 hy hN hE
    exact he i x H' H2 Nx E hi s s2 hy (fun hk H'' s3 => hN hk _ H'' s3 rfl) hE
  · intro D ys H' hD s e p
    exact q D H' hD s (by rw [e, Paired.fn f p])
/-- a comprehension that draws: for each r of rs a value y with F y r -/
theorem lc_drawT {β : Type} {J : It} {n : Nat} {G : Hp → Prop} {Y : Nat → Hp → V → Hp → Prop} {b c : Addr} {cs : List Int} (w : Walk J n G Y) (rs : List β) (F : Hp → V → β → Prop) (hl : n = rs.length) (hn : n ≤ 100000) (B : BagAt b c cs H)
    (hG : ∀ H', Off b H H' → G H') (hY : ∀ i H' x H2, Y i H' x H2 → Same H' H2) (hF : ∀ H1 H2 y r, TS H1 H2 → F H1 y r → F H2 y r)
    (he : ∀ (i : Nat) (r : β) (x : V) (H' H2 : Hp) (Qe : VK) (E : Hp → Prop), rs[i]? = some r → Off b H H' → BagAt b c cs H2 → Same H' H2 → Y i H' x H2 → (∀ y H'', Off b H2 H'' → BagAt b c cs H'' → F H'' y r → Qe y H'') →
      g x (wipe σ vs) H2 fun σ2 H3 => wipe σ2 vs = wipe σ vs ∧ tt σ2 H3 fun b H4 => if b = true then te σ2 H4 Qe else E H4)
    (q : ∀ D ys H', H D = none → Off b H H' → BagAt b c cs H' → H' D = some (.lst ys) → D ≠ b → D ≠ c → Paired (F H') ys rs → Q (.ref D) H') : LC J g tt te vs σ H Q := by
  refine lc_drawG w (fun _ i y H' => ∃ r, rs[i]? = some r ∧ F H' y r) hn B hG hY (fun D i y H1 H2 _ z zb f ⟨r, er, h⟩ => ⟨r, er, hF _ _ _ _ (OffS.ts f fun a m => ?_) h⟩) ?_ ?_
  · rcases List.mem_cons.mp m with m | m
    · rw [m]; exact zb
    · rw [List.mem_singleton.mp m]; exact z
  · intro D i x H' H2 Nx E hi hD eD f B2 s2 hy hN
    have er : rs[i]? = some (rs[i]'(by omega)) := List.getElem?_eq_getElem (by omega)
    exact he i _ x H' H2 Nx E er f B2 s2 hy fun y H'' s3 B3 fy => hN y H'' s3 B3 ⟨_, er, fy⟩
  · intro D ys H' hD f B' e h1 h2 p
    exact q D ys H' hD f B' e h1 h2 (Paired.of_range hl p)
theorem same_at {xs : List V} : ∀ i H' x H2, YAt xs i H' x H2 → Same H' H2 := fun i H' x H2 y => by rw [y.1]; exact fun _ _ e => e
theorem same_fn {f : Nat → V} : ∀ i H' x H2, YFn f i H' x H2 → Same H' H2 := fun i H' x H2 y => by rw [y.1]; exact fun _ _ e => e
end
end D0
namespace D0
open PySem PySem.Spec PyProof.Rows L2
/-! ### values of one shape: == and != tell whether they are the same -/
structure DK (K : PySem.W.Frag) (α : Type) [DecidableEq α] where
  R : Hp → V → α → Prop
  pd : α → PyData
  dp : ∀ H v x, R H v x → Dp K H v (pd x)
  ev : ∀ x y, PyData.eqv (pd x) (pd y) = decide (x = y)
  lay : ∀ x, PyData.canLay0 (pd x) = true
  d : Nat
  dep : ∀ x, PyData.depth (pd x) ≤ d
def intK (K : PySem.W.Frag) : DK K Int := ⟨fun _ v x => v = .int x, .int, fun _ _ _ h => h ▸ .int _, fun x y => by
  show (x == y) = _
  by_cases h : x = y <;> simp [h], fun _ => rfl, 0, fun _ => Nat.le_refl _⟩
def boolK (K : PySem.W.Frag) : DK K Bool := ⟨fun _ v x => v = .bl x, .bool, fun _ _ _ h => h ▸ .bl _, fun x y => by
  show (x == y) = _
  by_cases h : x = y <;> simp [h], fun _ => rfl, 0, fun _ => Nat.le_refl _⟩
section
variable {K : PySem.W.Frag} {α : Type} [DecidableEq α]
theorem dpAll (k : DK K α) {H : Hp} : ∀ {vs : List V} {xs : List α}, Paired (k.R H) vs xs → DpAll K H vs (xs.map k.pd)
  | _, _, .nil => .nil
  | _, _, .cons h t => .cons (k.dp _ _ _ h) (dpAll k t)
theorem evAll (k : DK K α) : ∀ l m : List α, PyData.eqvAll (l.map k.pd) (m.map k.pd) = decide (l = m)
  | [], [] => rfl
  | [], _ :: _ => rfl
  | _ :: _, [] => rfl
  | x :: l, y :: m => by
    show (PyData.eqv (k.pd x) (k.pd y) && PyData.eqvAll (l.map k.pd) (m.map k.pd)) = _
    rw [evAll k l m, k.ev]
    by_cases h : x = y <;> simp [h]
theorem layAll (k : DK K α) : ∀ l : List α, PyData.canLayAll0 (l.map k.pd) = true
  | [] => rfl
  | x :: l => by
    show (PyData.canLay0 (k.pd x) && PyData.canLayAll0 (l.map k.pd)) = true
    rw [k.lay, layAll k l]; rfl
theorem depAll (k : DK K α) : ∀ l : List α, PyData.depthAll (l.map k.pd) ≤ k.d
  | [] => Nat.zero_le _
  | x :: l => by
    show max (PyData.depth (k.pd x)) (PyData.depthAll (l.map k.pd)) ≤ k.d
    have h1 := k.dep x
    have h2 := depAll k l
    omega
def lstK (k : DK K α) : DK K (List α) := ⟨fun H v xs => ∃ a vs, v = .ref a ∧ SqL K H a vs ∧ Paired (k.R H) vs xs, fun xs => .list (xs.map k.pd), fun H v x ⟨a, vs, e, h, p⟩ => e ▸ .lst h (dpAll k p),
  fun l m => evAll k l m, fun l => layAll k l, k.d + 1, fun l => Nat.succ_le_succ (depAll k l)⟩
def tupK (k : DK K α) : DK K (List α) := ⟨fun H v xs => ∃ a vs, v = .ref a ∧ SqT K H a vs ∧ Paired (k.R H) vs xs, fun xs => .tuple (xs.map k.pd), fun H v x ⟨a, vs, e, h, p⟩ => e ▸ .tup h (dpAll k p),
  fun l m => evAll k l m, fun l => layAll k l, k.d + 1, fun l => Nat.succ_le_succ (depAll k l)⟩
theorem paired_map {β : Type} {F : V → β → Prop} (f : β → V) (h : ∀ x, F (f x) x) : ∀ l : List β, Paired F (l.map f) l
  | [] => .nil
  | x :: l => .cons (h x) (paired_map f h l)
theorem intsK (H : Hp) (l : List Int) : Paired ((intK K).R H) (l.map V.int) l := paired_map (β := Int) V.int (fun _ => rfl) l
theorem boolsK (H : Hp) (l : List Bool) : Paired ((boolK K).R H) (l.map V.bl) l := paired_map (β := Bool) V.bl (fun _ => rfl) l
theorem shK (k : DK K α) (hd : k.d ≤ 64) (x : α) : SeqAt.shaped (k.pd x) = true := by
  unfold SeqAt.shaped
  rw [k.lay, Bool.true_and]
  exact decide_eq_true (Nat.le_trans (k.dep x) hd)
theorem dNeD {X : Cx} (K : PySem.W.Frag) (hu : X.A.units + 64 < cLine) (hK : X.K = K := by rfl) : OpR X (compareOp .NotEq) (rNeD K) := by subst hK; exact op_neD hu
variable {Q : VK} {H : Hp}
theorem rv_eqK (k : DK K α) {u v : V} {x y : α} (hx : k.R H u x) (hy : k.R H v y) (q : Q (.bl (decide (x = y))) H) (hd : k.d ≤ 64 := by exact Nat.le_of_ble_eq_true rfl) : rEqD K u v H Q :=
  ⟨_, _, k.dp _ _ _ hx, k.dp _ _ _ hy, shK k hd x, shK k hd y, by rw [k.ev]; exact q⟩
theorem rv_neK (k : DK K α) {u v : V} {x y : α} (hx : k.R H u x) (hy : k.R H v y) (q : Q (.bl (!decide (x = y))) H) (hd : k.d ≤ 64 := by exact Nat.le_of_ble_eq_true rfl) : rNeD K u v H Q :=
  ⟨_, _, k.dp _ _ _ hx, k.dp _ _ _ hy, shK k hd x, shK k hd y, by rw [k.ev]; exact q⟩
end
/-! ### dicts -/
section
variable {σ : L2.St} {H : Hp} {Q : VK} {D : Ends} {td ty tv : TE} {v y : V} {a : Addr}
theorem rd_dget (q : td σ H fun x H1 => ty σ H1 fun y H2 => ∃ a v, x = .ref a ∧ DGet H2 a y (some v) ∧ Q v H2) : tDGet td ty σ H Q := q
theorem rd_din (q : ty σ H fun y H1 => td σ H1 fun x H2 => ∃ a o, x = .ref a ∧ DGet H2 a y o ∧ Q (.bl o.isSome) H2) : tDIn ty td σ H Q := q
theorem rd_dnin (q : ty σ H fun y H1 => td σ H1 fun x H2 => ∃ a o, x = .ref a ∧ DGet H2 a y o ∧ Q (.bl (!o.isSome)) H2) : tDNotIn ty td σ H Q := q
theorem rd_dput (q : tv σ H fun v H1 => td σ H1 fun x H2 => ty σ H2 fun y H3 => ∃ a H4, x = .ref a ∧ DPut H3 a y v H4 ∧ D.nx σ H4) : sDPut td ty tv D σ H := q
theorem rd_dnewK (q : ∀ p, H p = none → Q (.ref p) (upd H p (.dK []))) : tDNewK σ H Q := q
theorem rd_dnewT (q : ∀ p, H p = none → Q (.ref p) (upd H p (.dT []))) : tDNewT σ H Q := q
theorem rv_dget {R : V → Prop} (h : DGet H a y (some v)) (q : R v) : ∃ a' v', V.ref a = .ref a' ∧ DGet H a' y (some v') ∧ R v' := ⟨a, v, rfl, h, q⟩
theorem rv_din {o : Option V} {R : Option V → Prop} (h : DGet H a y o) (q : R o) : ∃ a' o', V.ref a = .ref a' ∧ DGet H a' y o' ∧ R o' := ⟨a, o, rfl, h, q⟩
theorem rv_dput {H' : Hp} {R : Hp → Prop} (h : DPut H a y v H') (q : R H') : ∃ a' H4, V.ref a = .ref a' ∧ DPut H a' y v H4 ∧ R H4 := ⟨a, H', rfl, h, q⟩
theorem dg_int {kvs : List (Key × V)} {i : Int} {o : Option V} (e : H a = some (.dK kvs)) (h : valV kvs (.inl i) = o) : DGet H a (.int i) o := h ▸ DGet.k (k := .inl i) e
theorem dg_str {kvs : List (Key × V)} {i : Str} {o : Option V} (e : H a = some (.dK kvs)) (h : valV kvs (.inr i) = o) : DGet H a (.str i) o := h ▸ DGet.k (k := .inr i) e
theorem dpu_int {kvs : List (Key × V)} {i : Int} (e : H a = some (.dK kvs)) (hl : kvs.length < sizeLine) : DPut H a (.int i) v (upd H a (.dK (putK kvs (.inl i) v))) := DPut.k (k := .inl i) e hl
end
/-! ### enumerate over a tuple -/
theorem walk_enumT {K : PySem.W.Frag} {a : Addr} {xs : List V} : Walk (Itet K a) xs.length (fun H => SqT K H a xs) (YPair (fun i => some (.int (i : Nat))) (fun i => xs[i]?)) := by
  refine ⟨fun i _ hi q => ⟨xs, xs[i], q, by simp [hi]⟩, fun _ q => ⟨xs, q, Nat.le_refl _⟩, fun i H v H' _ q y => ?_⟩
  obtain ⟨T, x, h1, h2, h3, h4⟩ := y
  exact ⟨T, .int (i : Nat), x, h1, h2, h3, rfl, h4 xs q⟩
theorem same_pair {xs ys : Nat → Option V} : ∀ i H' x H2, YPair xs ys i H' x H2 → Same H' H2 := fun i H' x H2 y => by
  obtain ⟨T, u, v, _, h, e, _⟩ := y
  rw [e]; exact same_upd h
theorem rep_one {α : Type} (n : Nat) (x : α) (k : Int) (h : k = (n : Int)) : (List.replicate k.toNat [x]).flatten = List.replicate n x := by
  subst h
  rw [Int.toNat_natCast]
  induction n with
  | zero => rfl
  | succ n ih => rw [List.replicate_succ, List.flatten_cons, ih, List.replicate_succ]; rfl
end D0
namespace D0
/-! ### rings of arcs: the mathematics -/
/-- the first arc from x to a number that is alive -/
def firstA (as : List (Nat × Nat)) (al : List Bool) (x : Nat) : Option Nat := as.findIdx? fun p => decide (p.1 = x) && al.getD p.2 false
def onwA (n : Nat) (as : List (Nat × Nat)) (al : List Bool) : List (Option Nat) := (List.range n).map (firstA as al)
def stepA (n : Nat) (as : List (Nat × Nat)) (al : List Bool) : List Bool := (onwA n as al).map Option.isSome
def iterA (n : Nat) (as : List (Nat × Nat)) : Nat → List Bool
  | 0 => List.replicate n true
  | k + 1 => stepA n as (iterA n as k)
theorem stepA_len (n : Nat) (as : List (Nat × Nat)) (al : List Bool) : (stepA n as al).length = n := by
  unfold stepA onwA; rw [List.length_map, List.length_map, List.length_range]
theorem stepA_get {n : Nat} {as : List (Nat × Nat)} {al : List Bool} {x : Nat} (h : x < n) : (stepA n as al).getD x false = (firstA as al x).isSome := by
  unfold stepA onwA
  rw [List.getD_eq_getElem?_getD, List.getElem?_map, List.getElem?_map, List.getElem?_range h]; rfl
theorem stepA_out {n : Nat} {as : List (Nat × Nat)} {al : List Bool} {x : Nat} (h : ¬ x < n) : (stepA n as al).getD x false = false := by
  rw [List.getD_eq_getElem?_getD, List.getElem?_eq_none (by rw [stepA_len]; omega)]; rfl
theorem firstA_some {as : List (Nat × Nat)} {al : List Bool} {x k : Nat} (h : firstA as al x = some k) : ∃ e, as[k]? = some (x, e) ∧ al.getD e false = true := by
  unfold firstA at h
  obtain ⟨hk, hp, _⟩ := List.findIdx?_eq_some_iff_getElem.mp h
  rw [Bool.and_eq_true, decide_eq_true_eq] at hp
  exact ⟨as[k].2, by rw [List.getElem?_eq_getElem hk, ← hp.1], hp.2⟩
theorem firstA_isSome {as : List (Nat × Nat)} {al : List Bool} {x : Nat} : (firstA as al x).isSome = true ↔ ∃ e, (x, e) ∈ as ∧ al.getD e false = true := by
  constructor
  · intro h
    obtain ⟨k, hk⟩ := Option.isSome_iff_exists.mp h
    obtain ⟨e, h1, h2⟩ := firstA_some hk
    exact ⟨e, List.mem_of_getElem? h1, h2⟩
  · rintro ⟨e, h1, h2⟩
    unfold firstA
    rw [List.findIdx?_isSome, List.any_eq_true]
    exact ⟨(x, e), h1, by simp only [decide_true, Bool.true_and]; exact h2⟩
/-- below one another -/
def LeB (l m : List Bool) : Prop := ∀ x, l.getD x false = true → m.getD x false = true
theorem stepA_mono {n : Nat} {as : List (Nat × Nat)} {l m : List Bool} (h : LeB l m) : LeB (stepA n as l) (stepA n as m) := by
  intro x hx
  by_cases hn : x < n
  · rw [stepA_get hn] at hx ⊢
    obtain ⟨e, h1, h2⟩ := firstA_isSome.mp hx
    exact firstA_isSome.mpr ⟨e, h1, h e h2⟩
  · rw [stepA_out hn] at hx; cases hx
theorem iterA_len (n : Nat) (as : List (Nat × Nat)) : ∀ k, (iterA n as k).length = n
  | 0 => List.length_replicate ..
  | _ + 1 => stepA_len ..
theorem iterA_dec (n : Nat) (as : List (Nat × Nat)) : ∀ k, LeB (iterA n as (k + 1)) (iterA n as k)
  | 0 => by
    intro x hx
    by_cases hn : x < n
    · show (List.replicate n true).getD x false = true
      rw [List.getD_eq_getElem?_getD, List.getElem?_replicate, if_pos hn]; rfl
    · rw [show iterA n as 1 = stepA n as (iterA n as 0) from rfl, stepA_out hn] at hx; cases hx
  | k + 1 => stepA_mono (iterA_dec n as k)
theorem iterA_stays {n : Nat} {as : List (Nat × Nat)} {k : Nat} (h : stepA n as (iterA n as k) = iterA n as k) : ∀ j, iterA n as (k + j) = iterA n as k
  | 0 => rfl
  | j + 1 => by
    show stepA n as (iterA n as (k + j)) = _
    rw [iterA_stays h j, h]
theorem iterA_one {n : Nat} {as : List (Nat × Nat)} {k j : Nat} (h : stepA n as (iterA n as k) = iterA n as k) (h' : stepA n as (iterA n as j) = iterA n as j) : iterA n as k = iterA n as j := by
  rcases Nat.le_total k j with e | e
  · obtain ⟨d, rfl⟩ := Nat.le.dest e
    exact (iterA_stays h d).symm
  · obtain ⟨d, rfl⟩ := Nat.le.dest e
    exact iterA_stays h' d
/-- how many are alive -/
def cntB (l : List Bool) : Nat := (l.filter id).length
theorem cntB_lt : ∀ {l m : List Bool}, l.length = m.length → LeB l m → l ≠ m → cntB l < cntB m
  | [], [], _, _, h => absurd rfl h
  | [], _ :: _, h, _, _ => by simp at h
  | _ :: _, [], h, _, _ => by simp at h
  | x :: l, y :: m, hl, hle, hne => by
    have hx : x = true → y = true := fun h => by simpa [h] using hle 0
    have ht : LeB l m := fun i hi => by simpa using hle (i + 1) (by simpa using hi)
    have hl' : l.length = m.length := by simpa using hl
    by_cases hlm : l = m
    · subst hlm
      cases x <;> cases y <;> simp_all [cntB]
    · have := cntB_lt hl' ht hlm
      cases x <;> cases y <;> simp_all [cntB] <;> omega
theorem cntB_le (l : List Bool) : cntB l ≤ l.length := List.length_filter_le ..
/-! walks -/
def walkA (as : List (Nat × Nat)) : Nat → Nat → Nat → Prop
  | 0, x, y => x = y
  | k + 1, x, y => ∃ z, (x, z) ∈ as ∧ walkA as k z y
theorem walkA_snoc {as : List (Nat × Nat)} : ∀ {k x y z : Nat}, walkA as k x y → (y, z) ∈ as → walkA as (k + 1) x z
  | 0, _, _, _, h, e => by cases h; exact ⟨_, e, rfl⟩
  | _ + 1, _, _, _, ⟨w, h1, h2⟩, e => ⟨w, h1, walkA_snoc h2 e⟩
theorem walkA_init {as : List (Nat × Nat)} : ∀ {k x z : Nat}, walkA as (k + 1) x z → ∃ y, walkA as k x y ∧ (y, z) ∈ as
  | 0, x, z, ⟨w, h1, h2⟩ => by cases h2; exact ⟨x, rfl, h1⟩
  | k + 1, x, z, ⟨w, h1, h2⟩ => by
    obtain ⟨y, h3, h4⟩ := walkA_init h2
    exact ⟨y, ⟨w, h1, h3⟩, h4⟩
theorem walkA_less {as : List (Nat × Nat)} {k j x y : Nat} (h : walkA as (j + k) x y) : ∃ z, walkA as k x z := by
  induction j generalizing y with
  | zero => exact ⟨y, by rw [Nat.zero_add] at h; exact h⟩
  | succ j ih =>
    rw [show j + 1 + k = (j + k) + 1 by omega] at h
    obtain ⟨z, h1, _⟩ := walkA_init h
    exact ih h1
/-- alive at the k-th step: a walk of k arcs starts here -/
theorem iterA_walk {n : Nat} {as : List (Nat × Nat)} (ok : ∀ p ∈ as, p.1 < n ∧ p.2 < n) : ∀ k x, (iterA n as k).getD x false = true ↔ x < n ∧ ∃ y, walkA as k x y
  | 0, x => by
    show (List.replicate n true).getD x false = true ↔ _
    rw [List.getD_eq_getElem?_getD, List.getElem?_replicate]
    by_cases h : x < n
    · rw [if_pos h]; exact ⟨fun _ => ⟨h, x, rfl⟩, fun _ => rfl⟩
    · rw [if_neg h]; exact ⟨(fun z => by cases z), fun z => absurd z.1 h⟩
  | k + 1, x => by
    show (stepA n as (iterA n as k)).getD x false = true ↔ _
    by_cases h : x < n
    · rw [stepA_get h, firstA_isSome]
      constructor
      · rintro ⟨e, h1, h2⟩
        obtain ⟨_, y, h3⟩ := (iterA_walk ok k e).mp h2
        exact ⟨h, y, e, h1, h3⟩
      · rintro ⟨_, y, e, h1, h2⟩
        exact ⟨e, h1, (iterA_walk ok k e).mpr ⟨(ok _ h1).2, y, h2⟩⟩
    · rw [stepA_out h]; exact ⟨(fun z => by cases z), fun z => absurd z.1 h⟩
/-! going on from a number -/
def nxtA (as : List (Nat × Nat)) (al : List Bool) (x : Nat) : Nat := match firstA as al x with | some k => (as.getD k (0, 0)).2 | none => x
def seqA (as : List (Nat × Nat)) (al : List Bool) (at0 : Nat) : Nat → Nat
  | 0 => at0
  | i + 1 => nxtA as al (seqA as al at0 i)
/-- what find_ring returns -/
def RingOut (n : Nat) (as : List (Nat × Nat)) (o : Option (List Nat)) : Prop := ∃ k, stepA n as (iterA n as k) = iterA n as k ∧ match o with
  | none => ∀ x, x < n → (iterA n as k).getD x false = false
  | some ks => ∃ at0, at0 < n ∧ (iterA n as k).getD at0 false = true ∧ (∀ y, y < at0 → (iterA n as k).getD y false = false) ∧ ∃ j m, j < m ∧ seqA as (iterA n as k) at0 m = seqA as (iterA n as k) at0 j ∧
      (∀ i i', i < i' → i' < m → seqA as (iterA n as k) at0 i ≠ seqA as (iterA n as k) at0 i') ∧ ks = (List.range' j (m - j)).map fun i => (firstA as (iterA n as k) (seqA as (iterA n as k) at0 i)).getD 0
theorem RingOut.one {n : Nat} {as : List (Nat × Nat)} {o o' : Option (List Nat)} (h : RingOut n as o) (h' : RingOut n as o') : o = o' := by
  obtain ⟨k, hk, h⟩ := h
  obtain ⟨k', hk', h'⟩ := h'
  have e := iterA_one hk' hk
  rw [e] at h'
  generalize iterA n as k = al at h h'
  cases o with
  | none => cases o' with
    | none => rfl
    | some ks =>
      obtain ⟨a, ha, ht, _⟩ := h'
      rw [h a ha] at ht; cases ht
  | some ks => cases o' with
    | none =>
      obtain ⟨a, ha, ht, _⟩ := h
      rw [h' a ha] at ht; cases ht
    | some ks' =>
      obtain ⟨a, ha, ht, hf, j, m, jm, hm, hd, rfl⟩ := h
      obtain ⟨a', ha', ht', hf', j', m', jm', hm', hd', rfl⟩ := h'
      have ea : a = a' := by
        rcases Nat.lt_trichotomy a a' with z | z | z
        · rw [hf' a z] at ht; cases ht
        · exact z
        · rw [hf a' z] at ht'; cases ht'
      subst ea
      have em : m = m' := by
        rcases Nat.lt_trichotomy m m' with z | z | z
        · exact absurd hm.symm (hd' j m jm z)
        · exact z
        · exact absurd hm'.symm (hd j' m' jm' z)
      subst em
      have ej : j = j' := by
        rcases Nat.lt_trichotomy j j' with z | z | z
        · exact absurd (hm.symm.trans hm') (hd j j' z jm')
        · exact z
        · exact absurd (hm'.symm.trans hm) (hd j' j z jm)
      subst ej
      rfl
/-- everything on the way is alive -/
theorem seqA_alive {n : Nat} {as : List (Nat × Nat)} {al : List Bool} (hk : stepA n as al = al) {at0 : Nat} (h : at0 < n) (ok : ∀ p ∈ as, p.1 < n ∧ p.2 < n) (ha : al.getD at0 false = true) : ∀ i, seqA as al at0 i < n ∧ al.getD (seqA as al at0 i) false = true ∧
    ∃ a, firstA as al (seqA as al at0 i) = some a ∧ as[a]? = some (seqA as al at0 i, seqA as al at0 (i + 1))
  | 0 => by
    have h1 : (firstA as al at0).isSome = true := by rw [← stepA_get h, hk]; exact ha
    obtain ⟨a, e⟩ := Option.isSome_iff_exists.mp h1
    obtain ⟨z, h2, h3⟩ := firstA_some e
    refine ⟨h, ha, a, e, ?_⟩
    show as[a]? = some (at0, nxtA as al at0)
    unfold nxtA
    rw [e, h2]
    show some (at0, z) = some (at0, (as.getD a (0, 0)).2)
    rw [List.getD_eq_getElem?_getD, h2]; rfl
  | i + 1 => by
    obtain ⟨h0, h1, a, e, h2⟩ := seqA_alive hk h ok ha i
    obtain ⟨z, h3, h4⟩ := firstA_some e
    rw [h2] at h3
    cases h3
    have hn : seqA as al at0 (i + 1) < n := (ok _ (List.mem_of_getElem? h2)).2
    have h5 : (firstA as al (seqA as al at0 (i + 1))).isSome = true := by rw [← stepA_get hn, hk]; exact h4
    obtain ⟨a', e'⟩ := Option.isSome_iff_exists.mp h5
    obtain ⟨z', h6, h7⟩ := firstA_some e'
    refine ⟨hn, h4, a', e', ?_⟩
    show as[a']? = some (_, nxtA as al (seqA as al at0 (i + 1)))
    unfold nxtA
    rw [e', h6]
    show some (_, z') = some (_, (as.getD a' (0, 0)).2)
    rw [List.getD_eq_getElem?_getD, h6]; rfl
/-- a ring of arcs, as the document says -/
structure IsRing (n : Nat) (as : List (Nat × Nat)) (ks : List Nat) : Prop where
  pos : 0 < ks.length
  into : ∀ k ∈ ks, k < as.length
  next : ∀ i, (h : i + 1 < ks.length) → (as.getD (ks[i]'(by omega)) (0, 0)).2 = (as.getD ks[i + 1] (0, 0)).1
  closes : (as.getD (ks.getD (ks.length - 1) 0) (0, 0)).2 = (as.getD (ks.getD 0 0) (0, 0)).1
  nodup : (ks.map fun k => (as.getD k (0, 0)).1).Nodup
theorem RingOut.ring {n : Nat} {as : List (Nat × Nat)} {ks : List Nat} (ok : ∀ p ∈ as, p.1 < n ∧ p.2 < n) (h : RingOut n as (some ks)) : IsRing n as ks ∧ ∀ k, ∃ x y, x < n ∧ walkA as k x y := by
  obtain ⟨k, hk, a, ha, ht, hf, j, m, jm, hm, hd, rfl⟩ := h
  have A := seqA_alive hk ha ok ht
  generalize hal : iterA n as k = al at *
  have hget : ∀ i, ∃ z, (firstA as al (seqA as al a i)).getD 0 = z ∧ z < as.length ∧ as.getD z (0, 0) = (seqA as al a i, seqA as al a (i + 1)) := fun i => by
    obtain ⟨_, _, z, e, h2⟩ := A i
    exact ⟨z, by rw [e]; rfl, (List.getElem?_eq_some_iff.mp h2).1, by rw [List.getD_eq_getElem?_getD, h2]; rfl⟩
  have hlen : ((List.range' j (m - j)).map fun i => (firstA as al (seqA as al a i)).getD 0).length = m - j := by rw [List.length_map, List.length_range']
  have hat : ∀ i, (h : i < m - j) → ((List.range' j (m - j)).map fun i => (firstA as al (seqA as al a i)).getD 0)[i]'(by rw [hlen]; exact h) = (firstA as al (seqA as al a (j + i))).getD 0 := fun i h => by
    rw [List.getElem_map, List.getElem_range']; simp
  refine ⟨⟨by rw [hlen]; omega, ?_, ?_, ?_, ?_⟩, ?_⟩
  · intro k hk
    obtain ⟨i, _, rfl⟩ := List.mem_map.mp hk
    obtain ⟨z, e, h1, _⟩ := hget i
    rw [e]; exact h1
  · intro i h
    rw [hlen] at h
    rw [hat i (by omega), hat (i + 1) h]
    obtain ⟨z, e, _, h2⟩ := hget (j + i)
    obtain ⟨z', e', _, h2'⟩ := hget (j + (i + 1))
    rw [e, e', h2, h2']; rfl
  · have gd : ∀ i, i < m - j → ((List.range' j (m - j)).map fun i => (firstA as al (seqA as al a i)).getD 0).getD i 0 = (firstA as al (seqA as al a (j + i))).getD 0 := fun i h => by
      rw [List.getD_eq_getElem?_getD, List.getElem?_eq_getElem (by rw [hlen]; exact h), Option.getD_some, hat i h]
    rw [hlen, gd (m - j - 1) (by omega), gd 0 (by omega)]
    obtain ⟨z, e, _, h2⟩ := hget (j + (m - j - 1))
    obtain ⟨z', e', _, h2'⟩ := hget (j + 0)
    rw [e, e', h2, h2', show j + (m - j - 1) + 1 = m by omega]
    exact hm
  · rw [List.map_map]
    refine List.Pairwise.map (R := fun x y => x < y ∧ y < m) _ ?_ ?_
    · intro x y h
      obtain ⟨z, e, _, h2⟩ := hget x
      obtain ⟨z', e', _, h2'⟩ := hget y
      show (as.getD ((firstA as al (seqA as al a x)).getD 0) (0, 0)).1 ≠ (as.getD ((firstA as al (seqA as al a y)).getD 0) (0, 0)).1
      rw [e, e', h2, h2']
      exact hd x y h.1 h.2
    · refine List.Pairwise.imp_of_mem ?_ List.pairwise_lt_range'
      intro x y hx hy hxy
      have := List.mem_range'_1.mp hy
      exact ⟨hxy, by omega⟩
  · intro i
    obtain ⟨_, h1, _⟩ := A 0
    have h2 : (iterA n as (k + i)).getD a false = true := by rw [iterA_stays (hal ▸ hk) i, hal]; exact ht
    obtain ⟨_, y, h3⟩ := (iterA_walk ok (k + i) a).mp h2
    rw [Nat.add_comm] at h3
    obtain ⟨z, h4⟩ := walkA_less (j := k) (k := i) (by rw [Nat.add_comm k i]; exact h3)
    exact ⟨a, z, ha, h4⟩
theorem RingOut.never {n : Nat} {as : List (Nat × Nat)} (ok : ∀ p ∈ as, p.1 < n ∧ p.2 < n) (h : RingOut n as none) : ∃ k, ∀ x y, x < n → ¬ walkA as k x y := by
  obtain ⟨k, hk, h⟩ := h
  refine ⟨k, fun x y hx w => ?_⟩
  have := (iterA_walk ok k x).mpr ⟨hx, y, w⟩
  rw [h x hx] at this
  cases this
end D0
namespace D0
open PySem PySem.Spec PyProof.Rows L2
def row2 (p : Nat × Nat) : List Int := [(p.1 : Int), (p.2 : Int)]
def optV : Option Nat → V
  | none => .non
  | some k => .int (k : Int)
def OkA (n : Nat) (as : List (Nat × Nat)) : Prop := ∀ p ∈ as, p.1 < n ∧ p.2 < n
def ArcsAt (H : Hp) (a : Addr) (as : List (Nat × Nat)) : Prop := ∃ vs, H a = some (.tup vs) ∧ RowsAt H vs (as.map row2)
theorem ArcsAt.ts {H H' : Hp} {a : Addr} {as : List (Nat × Nat)} (x : ArcsAt H a as) (t : TS H H') : ArcsAt H' a as := by
  obtain ⟨vs, e, r⟩ := x
  exact ⟨vs, t _ _ e, r.ts t⟩
theorem ArcsAt.same {H H' : Hp} {a : Addr} {as : List (Nat × Nat)} (x : ArcsAt H a as) (t : Same H H') : ArcsAt H' a as := x.ts (.of_same t)
theorem firstA_snoc (l : List (Nat × Nat)) (p : Nat × Nat) (al : List Bool) (x : Nat) : firstA (l ++ [p]) al x = (firstA l al x).or (if p.1 = x ∧ al.getD p.2 false = true then some l.length else none) := by
  unfold firstA
  rw [List.findIdx?_append]
  congr 1
  rw [List.findIdx?_cons]
  by_cases c : p.1 = x ∧ al.getD p.2 false = true
  · rw [if_pos c, if_pos (by rw [Bool.and_eq_true, decide_eq_true_eq]; exact c)]
    show Option.map _ (some 0) = _
    rw [Option.map_some, Nat.zero_add]
  · rw [if_neg c, if_neg (by rw [Bool.and_eq_true, decide_eq_true_eq]; exact c)]
    rfl
theorem onwA_len (n : Nat) (as : List (Nat × Nat)) (al : List Bool) : (onwA n as al).length = n := by unfold onwA; rw [List.length_map, List.length_range]
theorem onwA_get {n : Nat} {as : List (Nat × Nat)} {al : List Bool} {x : Nat} (h : x < n) : (onwA n as al)[x]? = some (firstA as al x) := by
  unfold onwA; rw [List.getElem?_map, List.getElem?_range h]; rfl
theorem onwA_snoc {n : Nat} {l : List (Nat × Nat)} {s e : Nat} {al : List Bool} (hs : s < n) : onwA n (l ++ [(s, e)]) al = if firstA l al s = none ∧ al.getD e false = true then (onwA n l al).set s (some l.length) else onwA n l al := by
  refine List.ext_getElem? fun i => ?_
  by_cases hi : i < n
  · rw [onwA_get hi, firstA_snoc]
    by_cases c : firstA l al s = none ∧ al.getD e false = true
    · rw [if_pos c, List.getElem?_set, onwA_len]
      by_cases h : s = i
      · subst h
        rw [if_pos rfl, if_pos hs, c.1, if_pos ⟨rfl, c.2⟩]; rfl
      · rw [if_neg h, onwA_get hi, if_neg (fun z => h z.1), Option.or_none]
    · rw [if_neg c, onwA_get hi]
      by_cases h : s = i ∧ al.getD e false = true
      · rw [if_pos h]
        obtain ⟨rfl, h2⟩ := h
        cases hf : firstA l al s with
        | none => exact absurd ⟨hf, h2⟩ c
        | some k => rfl
      · rw [if_neg h, Option.or_none]
  · rw [List.getElem?_eq_none (by rw [onwA_len]; omega), List.getElem?_eq_none]
    split
    · rw [List.length_set, onwA_len]; omega
    · rw [onwA_len]; omega
theorem onwA_nil (n : Nat) (al : List Bool) : onwA n [] al = List.replicate n none := by
  unfold onwA
  rw [show (firstA [] al) = fun _ => none from rfl, List.map_const', List.length_range]
theorem at_opt {l : List (Option Nat)} {x : Nat} {o : Option Nat} (h : l[x]? = some o) : atI (l.map optV) (x : Int) = some (optV o) := atI_nat (by rw [List.getElem?_map, h]; rfl)
theorem at_bl {al : List Bool} {x : Nat} (h : x < al.length) : atI (al.map V.bl) (x : Int) = some (.bl (al.getD x false)) := atI_nat (by
  rw [List.getElem?_map, List.getElem?_eq_getElem h, List.getD_eq_getElem?_getD, List.getElem?_eq_getElem h]; rfl)
theorem setm_opt (l : List (Option Nat)) (j k : Nat) : (l.map optV).set j (.int (k : Int)) = (l.set j (some k)).map optV := by rw [List.map_set]; rfl
theorem optV_some (o : Option Nat) : (!decide (optV o = V.non)) = o.isSome := by
  cases o with
  | none => rfl
  | some k => rfl
theorem step_list (n : Nat) (as : List (Nat × Nat)) (al : List Bool) : ((List.range ((onwA n as al).map optV).length).filter fun _ => true).map (fun i => V.bl (firstA as al i).isSome) = (stepA n as al).map V.bl := by
  rw [ftrue, List.length_map, onwA_len]
  unfold stepA onwA
  rw [List.map_map, List.map_map]
  rfl
theorem rd_whl {c : TT} {tb : L2.TS} {D : Ends} {σ : L2.St} {H : Hp} (W : Nat → L2.St → Hp → Prop) (m : Nat) (h0 : W m σ H)
    (hs : ∀ m σ H, W m σ H → c σ H fun b H1 => if b = true then ∃ N : L2.St → Hp → Prop, (∀ σ' H', N σ' H' → ∃ m', m' < m ∧ W m' σ' H') ∧ tb { D with nx := N, ct := N, bk := D.nx } σ H1 else D.nx σ H1) : tWhile c tb D σ H := ⟨W, ⟨m, h0⟩, hs⟩
theorem rv_notNany {x : V} {H : Hp} {Q : VK} (q : Q (.bl (!decide (x = .non))) H) : rNotN x .non H Q := ⟨rfl, q⟩
theorem rv_isNany {x : V} {H : Hp} {Q : VK} (q : Q (.bl (decide (x = .non))) H) : rIsN x .non H Q := ⟨rfl, q⟩
end D0
namespace D0
open PySem PySem.Spec PyProof.Rows L2
theorem pigeon : ∀ (n : Nat) (l : List Nat), l.Nodup → (∀ x ∈ l, x < n) → l.length ≤ n
  | 0, l, _, h => by
    cases l with
    | nil => exact Nat.le_refl _
    | cons x r => exact absurd (h x (List.mem_cons_self ..)) (by omega)
  | n + 1, l, hd, h => by
    have h2 := pigeon n (l.erase n) (hd.erase n) fun x hx => by
      have h3 := (hd.mem_erase_iff).mp hx
      have := h x h3.2
      have := h3.1
      omega
    by_cases hm : n ∈ l
    · rw [List.length_erase_of_mem hm] at h2; omega
    · rw [List.erase_of_not_mem hm] at h2; omega
theorem pigeon_fn {n m : Nat} (f : Nat → Nat) (hd : ∀ i i', i < i' → i' < m → f i ≠ f i') (h : ∀ i, i < m → f i < n) : m ≤ n := by
  have := pigeon n ((List.range m).map f) (by
    refine List.Pairwise.map (R := fun x y => x < y ∧ y < m) _ (fun x y h => hd x y h.1 h.2) ?_
    refine List.Pairwise.imp_of_mem ?_ List.pairwise_lt_range
    intro x y _ hy hxy
    exact ⟨hxy, List.mem_range.mp hy⟩) (fun x hx => by
    obtain ⟨i, hi, rfl⟩ := List.mem_map.mp hx
    exact h i (List.mem_range.mp hi))
  rwa [List.length_map, List.length_range] at this
theorem drop_range_map {α : Type} (f : Nat → α) (m j : Nat) (h : j ≤ m) : ((List.range m).map f).drop j = (List.range' j (m - j)).map f := by
  refine List.ext_getElem (by simp) fun i h1 h2 => ?_
  rw [List.getElem_drop, List.getElem_map, List.getElem_map, List.getElem_range, List.getElem_range']
  congr 1
  omega
def RingV (H : Hp) (v : V) : Option (List Nat) → Prop
  | none => v = .non
  | some ks => ∃ p, v = .ref p ∧ H p = some (.tup (ks.map fun k : Nat => V.int (k : Int)))
theorem RingV.same {H H' : Hp} {v : V} {o : Option (List Nat)} (h : RingV H v o) (s : Same H H') : RingV H' v o := by
  cases o with
  | none => exact h
  | some ks =>
    obtain ⟨p, e, e2⟩ := h
    exact ⟨p, e, s _ _ e2⟩
end D0
namespace D0
open PySem PySem.Spec PyProof.Rows L2
theorem inV_ints (x : Int) : ∀ l : List Int, inV (.int x) (l.map V.int) = decide (x ∈ l)
  | [] => rfl
  | y :: l => by
    show ((y == x) || inV (.int x) (l.map V.int)) = _
    rw [inV_ints x l]
    by_cases h : y = x
    · subst h; simp
    · have h' : ¬ x = y := fun e => h e.symm
      simp [h, h']
theorem flat_ints : ∀ l : List Int, (l.map V.int).all flatV = true
  | [] => rfl
  | _ :: l => flat_ints l
def natsV (l : List Nat) : List V := l.map fun k : Nat => V.int (k : Int)
theorem natsV_eq (l : List Nat) : natsV l = (l.map fun k : Nat => (k : Int)).map V.int := by unfold natsV; rw [List.map_map]; rfl
theorem natsV_len (l : List Nat) : (natsV l).length = l.length := by unfold natsV; rw [List.length_map]
theorem natsV_get (l : List Nat) (i : Nat) : (natsV l)[i]? = l[i]?.map fun k : Nat => V.int (k : Int) := by unfold natsV; rw [List.getElem?_map]
theorem at_nats {l : List Nat} {i x : Nat} (h : l[i]? = some x) : atI (natsV l) (i : Int) = some (.int (x : Int)) := atI_nat (by rw [natsV_get, h]; rfl)
theorem mem_cast {x : Nat} {l : List Nat} : ((x : Int) ∈ l.map fun k : Nat => (k : Int)) ↔ x ∈ l := by
  rw [List.mem_map]
  exact ⟨fun ⟨y, h, e⟩ => by rw [show x = y by omega]; exact h, fun h => ⟨x, h, rfl⟩⟩
section
variable {K : PySem.W.Frag} {H : Hp} {Q : VK} {σ : L2.St} {ta : TE}
theorem rv_inI {p : Addr} {l : List Int} {x : Int} (h : SqL K H p (l.map V.int)) (q : Q (.bl (decide (x ∈ l))) H) : rInD K false (.int x) (.ref p) H Q := rv_inL h rfl (flat_ints l) (by rw [inV_ints]; exact q)
theorem rv_inN {p : Addr} {l : List Nat} {x : Nat} (h : SqL K H p (natsV l)) (q : Q (.bl (decide (x ∈ l))) H) : rInD K false (.int (x : Int)) (.ref p) H Q := by
  rw [natsV_eq] at h
  refine rv_inI h ?_
  rw [decide_eq_decide.mpr (mem_cast (x := x) (l := l))]
  exact q
theorem rd_lenSet (q : ta σ H fun x H1 => ∃ (l : Addr) (ns : List Int), x = .ref l ∧ SqL K H1 l (ns.map V.int) ∧ ns.Nodup ∧ ns.length ≤ 4000 ∧ Q (.int (ns.length : Nat)) H1) : RZ.tLenSetI K ta σ H Q := q
theorem dLenSet {X : Cx} (K : PySem.W.Frag) {a : Expr} {ta : TE} {p p2 q pos : Pos} (hg : Gl X "len") (hm : X.mg "len" = none) (hg2 : Gl X "set") (hm2 : X.mg "set" = none) (ha : PE X a ta) (hc : X.calm = true := by rfl) (hK : X.K = K := by rfl)
    (na : starEach [a] X.env = (false, eval a X.env) :: starEach [] X.env := by rfl) : PE X (.Call (.Name "len" p) [.Call (.Name "set" p2) [a] [] q] [] pos) (RZ.tLenSetI K ta) := by subst hK; exact RZ.pe_lenSetI hg hm hg2 hm2 ha hc na
theorem dCatA {X : Cx} (K : PySem.W.Frag) (hK : X.K = K := by rfl) : OpR X (binaryOp .Add) (rCatA K) := by subst hK; exact op_catA
theorem rv_catA {a b : Addr} {xs ys : List V} (ha : H a = some (.tup xs)) (hb : H b = some (.tup ys)) (hz : xs.length + ys.length ≤ sizeLine) (q : ∀ p H', Same H H' → H' p = some (.tup (xs ++ ys)) → Q (.ref p) H') : rCatA K (.ref a) (.ref b) H Q := by
  refine ⟨a, b, xs, ys, rfl, rfl, SqT.of ha, SqT.of hb, hz, fun e => ?_, fun _ e => ?_, fun _ _ p hp => q p _ (same_upd hp) upd_same⟩
  · subst e; exact q b H (fun _ _ e => e) hb
  · subst e; exact q a H (fun _ _ e => e) (by rw [List.append_nil]; exact ha)
end
/-- a shuffled range, in Nat -/
theorem nats_perm {ms : List V} {l : List Nat} (p : ms.Perm (natsV l)) : ∃ l' : List Nat, ms = natsV l' ∧ l'.Perm l := by
  obtain ⟨ss, h, q⟩ := Paired.perm (F := fun v (x : Nat) => v = V.int (x : Int)) p (paired_map (β := Nat) (fun x : Nat => V.int (x : Int)) (fun _ => rfl) l)
  exact ⟨ss, Paired.fn (fun x : Nat => V.int (x : Int)) h, q⟩
theorem rg_nats (n : Nat) : rgV 0 (n : Int) = natsV (List.range n) := by rw [rg_ints, natsV_eq]
theorem filter_len_eq {α : Type} (p : α → Bool) : ∀ l : List α, (l.filter p).length = l.length → l.filter p = l
  | [], _ => rfl
  | x :: l, h => by
    rw [List.filter_cons] at h ⊢
    by_cases hx : p x = true
    · rw [if_pos hx] at h ⊢
      rw [filter_len_eq p l (by simpa using h)]
    · rw [if_neg hx] at h
      have := List.length_filter_le p l
      simp at h
      omega
/-- filtering the turns and taking the items is filtering the items -/
theorem range_filter_map {α β : Type} (l : List α) (d : α) (kp : α → Bool) (f : α → β) : ((List.range l.length).filter fun i => kp (l.getD i d)).map (fun i => f (l.getD i d)) = (l.filter kp).map f := by
  have e : l = (List.range l.length).map fun i => l.getD i d := by
    refine List.ext_getElem (by simp) fun i h1 h2 => ?_
    rw [List.getElem_map, List.getElem_range, List.getD_eq_getElem?_getD, List.getElem?_eq_getElem h1]; rfl
  conv => rhs; rw [e]
  rw [List.filter_map, List.map_map]
  rfl
end D0
namespace D0
open PySem PySem.Spec PyProof.Rows L2
theorem Paired.set {α β : Type} {F : α → β → Prop} : ∀ {l : List α} {m : List β} {x : α} {y : β} (i : Nat), Paired F l m → F x y → Paired F (l.set i x) (m.set i y)
  | _, _, _, _, _, .nil, _ => .nil
  | _, _, _, _, 0, .cons _ t, h => .cons h t
  | _, _, _, _, i + 1, .cons h0 t, h => .cons h0 (Paired.set i t h)
theorem Paired.erase {α β : Type} {F : α → β → Prop} : ∀ {l : List α} {m : List β} (i : Nat), Paired F l m → Paired F (l.eraseIdx i) (m.eraseIdx i)
  | _, _, _, .nil => .nil
  | _, _, 0, .cons _ t => t
  | _, _, i + 1, .cons h0 t => .cons h0 (Paired.erase i t)
theorem Paired.drop {α β : Type} {F : α → β → Prop} : ∀ {l : List α} {m : List β} (i : Nat), Paired F l m → Paired F (l.drop i) (m.drop i)
  | _, _, 0, h => h
  | _, _, _ + 1, .nil => .nil
  | _, _, i + 1, .cons _ t => Paired.drop i t
theorem map_eraseIdx {α β : Type} (f : α → β) : ∀ (l : List α) (i : Nat), (l.map f).eraseIdx i = (l.eraseIdx i).map f
  | [], _ => rfl
  | _ :: _, 0 => rfl
  | x :: l, i + 1 => by
    show f x :: (l.map f).eraseIdx i = f x :: (l.eraseIdx i).map f
    rw [map_eraseIdx f l i]
theorem mem_eraseIdx' {α : Type} : ∀ (l : List α) (i : Nat) (x : α), x ∈ l.eraseIdx i → x ∈ l
  | [], _, _, h => h
  | _ :: _, 0, _, h => List.mem_cons_of_mem _ h
  | y :: l, i + 1, x, h => by
    rcases List.mem_cons.mp (show x ∈ y :: l.eraseIdx i from h) with h | h
    · rw [h]; exact List.mem_cons_self ..
    · exact List.mem_cons_of_mem _ (mem_eraseIdx' l i x h)
end D0
namespace K09
open PySem PySem.Spec PyProof.Rows L2 D0
def topS (i : Nat) : Stmt := PySem.Challenge.pw_drawnlayers_k09_rings_of_arcs.main.body.getD i (.Pass ⟨0, 0, 0, 0⟩)
abbrev s_find_ring : Stmt := topS 1
theorem sc_find_ring : FnScope ["count", "arcs", "onward", "at"] ["count", "arcs"] (defScope s_find_ring) := ⟨rfl, rfl, rfl, by decide +kernel, rfl, by decide +kernel, by decide +kernel⟩
abbrev s_onward_arcs : Stmt := topS 2
theorem sc_onward_arcs : FnScope ["count", "arcs", "alive", "onward", "step"] ["count", "arcs"] (defScope s_onward_arcs) := ⟨rfl, rfl, rfl, by decide +kernel, rfl, by decide +kernel, by decide +kernel⟩
abbrev s_first_arcs : Stmt := topS 3
theorem sc_first_arcs : FnScope ["count", "arcs", "alive", "firsts", "number", "start", "end"] ["count", "arcs", "alive"] (defScope s_first_arcs) := ⟨rfl, rfl, rfl, by decide +kernel, rfl, by decide +kernel, by decide +kernel⟩
abbrev s_ring_from : Stmt := topS 4
theorem sc_ring_from : FnScope ["at", "arcs", "onward", "place", "path"] ["at", "arcs", "onward"] (defScope s_ring_from) := ⟨rfl, rfl, rfl, by decide +kernel, rfl, by decide +kernel, by decide +kernel⟩
abbrev s_law_bag : Stmt := topS 6
theorem sc_law_bag : FnScope ["script", "cell"] ["script"] (defScope s_law_bag) := ⟨rfl, rfl, rfl, by decide +kernel, rfl, by decide +kernel, by decide +kernel⟩
abbrev s_law_draw : Stmt := topS 7
theorem sc_law_draw : FnScope ["bag", "many", "cell", "drawn", "first", "second", "third"] ["bag", "many"] (defScope s_law_draw) := ⟨rfl, rfl, rfl, by decide +kernel, rfl, by decide +kernel, by decide +kernel⟩
abbrev s_law_shuffle : Stmt := topS 8
theorem sc_law_shuffle : FnScope ["bag", "things", "rest", "mixed", "k"] ["bag", "things"] (defScope s_law_shuffle) := ⟨rfl, rfl, rfl, by decide +kernel, rfl, by decide +kernel, by decide +kernel⟩
abbrev s_law_whole : Stmt := topS 9
theorem sc_law_whole : FnScope ["got"] ["got"] (defScope s_law_whole) := ⟨rfl, rfl, rfl, by decide +kernel, rfl, by decide +kernel, by decide +kernel⟩
abbrev s_law_same : Stmt := topS 10
theorem sc_law_same : FnScope ["got", "due", "k", "key"] ["got", "due"] (defScope s_law_same) := ⟨rfl, rfl, rfl, by decide +kernel, rfl, by decide +kernel, by decide +kernel⟩
abbrev s_law_count : Stmt := topS 11
theorem sc_law_count : FnScope ["bag", "few", "most"] ["bag", "few", "most"] (defScope s_law_count) := ⟨rfl, rfl, rfl, by decide +kernel, rfl, by decide +kernel, by decide +kernel⟩
abbrev s_law_arcs : Stmt := topS 12
theorem sc_law_arcs : FnScope ["bag", "count", "many", "way_of", "arcs", "k", "start", "at", "mixed", "arc"] ["bag", "count"] (defScope s_law_arcs) := ⟨rfl, rfl, rfl, by decide +kernel, rfl, by decide +kernel, by decide +kernel⟩
abbrev s_law_has_ring : Stmt := topS 13
theorem sc_law_has_ring : FnScope ["count", "arcs", "left", "turn", "ends", "arc", "kept", "number"] ["count", "arcs"] (defScope s_law_has_ring) := ⟨rfl, rfl, rfl, by decide +kernel, rfl, by decide +kernel, by decide +kernel⟩
abbrev s_law_is_ring : Stmt := topS 14
theorem sc_law_is_ring : FnScope ["arcs", "ring", "starts", "number", "k"] ["arcs", "ring"] (defScope s_law_is_ring) := ⟨rfl, rfl, rfl, by decide +kernel, rfl, by decide +kernel, by decide +kernel⟩
abbrev s_law : Stmt := topS 15
theorem sc_law : FnScope ["script", "bag", "count", "arcs", "turn", "told", "cut"] ["script"] (defScope s_law) := ⟨rfl, rfl, rfl, by decide +kernel, rfl, by decide +kernel, by decide +kernel⟩
structure Txt (K : PySem.W.Frag) (mg : Str → Option Value) where
  f_find_ring : Addr
  fd_find_ring : FuncData
  F_find_ring : Fun K "find_ring" "find_ring" s_find_ring f_find_ring fd_find_ring
  g_find_ring : mg "find_ring" = some (.ref f_find_ring)
  b_find_ring : Binds K fd_find_ring ["count", "arcs"] []
  f_onward_arcs : Addr
  fd_onward_arcs : FuncData
  F_onward_arcs : Fun K "_onward_arcs" "_onward_arcs" s_onward_arcs f_onward_arcs fd_onward_arcs
  g_onward_arcs : mg "_onward_arcs" = some (.ref f_onward_arcs)
  b_onward_arcs : Binds K fd_onward_arcs ["count", "arcs"] []
  f_first_arcs : Addr
  fd_first_arcs : FuncData
  F_first_arcs : Fun K "_first_arcs" "_first_arcs" s_first_arcs f_first_arcs fd_first_arcs
  g_first_arcs : mg "_first_arcs" = some (.ref f_first_arcs)
  b_first_arcs : Binds K fd_first_arcs ["count", "arcs", "alive"] []
  f_ring_from : Addr
  fd_ring_from : FuncData
  F_ring_from : Fun K "_ring_from" "_ring_from" s_ring_from f_ring_from fd_ring_from
  g_ring_from : mg "_ring_from" = some (.ref f_ring_from)
  b_ring_from : Binds K fd_ring_from ["at", "arcs", "onward"] []
  f_law_bag : Addr
  fd_law_bag : FuncData
  F_law_bag : Fun K "_law_bag" "_law_bag" s_law_bag f_law_bag fd_law_bag
  g_law_bag : mg "_law_bag" = some (.ref f_law_bag)
  b_law_bag : Binds K fd_law_bag ["script"] []
  f_law_draw : Addr
  fd_law_draw : FuncData
  F_law_draw : Fun K "_law_draw" "_law_draw" s_law_draw f_law_draw fd_law_draw
  g_law_draw : mg "_law_draw" = some (.ref f_law_draw)
  b_law_draw : Binds K fd_law_draw ["bag", "many"] []
  f_law_shuffle : Addr
  fd_law_shuffle : FuncData
  F_law_shuffle : Fun K "_law_shuffle" "_law_shuffle" s_law_shuffle f_law_shuffle fd_law_shuffle
  g_law_shuffle : mg "_law_shuffle" = some (.ref f_law_shuffle)
  b_law_shuffle : Binds K fd_law_shuffle ["bag", "things"] []
  f_law_whole : Addr
  fd_law_whole : FuncData
  F_law_whole : Fun K "_law_whole" "_law_whole" s_law_whole f_law_whole fd_law_whole
  g_law_whole : mg "_law_whole" = some (.ref f_law_whole)
  b_law_whole : Binds K fd_law_whole ["got"] []
  f_law_same : Addr
  fd_law_same : FuncData
  F_law_same : Fun K "_law_same" "_law_same" s_law_same f_law_same fd_law_same
  g_law_same : mg "_law_same" = some (.ref f_law_same)
  b_law_same : Binds K fd_law_same ["got", "due"] []
  f_law_count : Addr
  fd_law_count : FuncData
  F_law_count : Fun K "_law_count" "_law_count" s_law_count f_law_count fd_law_count
  g_law_count : mg "_law_count" = some (.ref f_law_count)
  b_law_count : Binds K fd_law_count ["bag", "few", "most"] []
  f_law_arcs : Addr
  fd_law_arcs : FuncData
  F_law_arcs : Fun K "_law_arcs" "_law_arcs" s_law_arcs f_law_arcs fd_law_arcs
  g_law_arcs : mg "_law_arcs" = some (.ref f_law_arcs)
  b_law_arcs : Binds K fd_law_arcs ["bag", "count"] []
  f_law_has_ring : Addr
  fd_law_has_ring : FuncData
  F_law_has_ring : Fun K "_law_has_ring" "_law_has_ring" s_law_has_ring f_law_has_ring fd_law_has_ring
  g_law_has_ring : mg "_law_has_ring" = some (.ref f_law_has_ring)
  b_law_has_ring : Binds K fd_law_has_ring ["count", "arcs"] []
  f_law_is_ring : Addr
  fd_law_is_ring : FuncData
  F_law_is_ring : Fun K "_law_is_ring" "_law_is_ring" s_law_is_ring f_law_is_ring fd_law_is_ring
  g_law_is_ring : mg "_law_is_ring" = some (.ref f_law_is_ring)
  b_law_is_ring : Binds K fd_law_is_ring ["arcs", "ring"] []
  n_abs : mg "abs" = none
  n_bool : mg "bool" = none
  n_dict : mg "dict" = none
  n_enumerate : mg "enumerate" = none
  n_int : mg "int" = none
  n_isinstance : mg "isinstance" = none
  n_len : mg "len" = none
  n_list : mg "list" = none
  n_range : mg "range" = none
  n_set : mg "set" = none
  n_str : mg "str" = none
  n_tuple : mg "tuple" = none
local macro_rules | `(tactic| walk_at "neB") => `(tactic| with_reducible first | assumption | (apply Ne.symm; assumption) | (refine' BagAt.ne ?x ?h; (case h => assumption); (case x => assumption)))
local macro_rules | `(tactic| walk_at "hq") => `(tactic| with_reducible first | assumption | exact upd_same | ((first | (refine' hp_new ?nn ?hq; (case nn => assumption)) | (refine' Off.get ?f ?ne ?hq; (case f => assumption); (case ne => walk_at "neB"))); (case hq => walk_at "hq")))
local macro_rules | `(tactic| walk_at "neA") => `(tactic| with_reducible first | (refine' BagAt.ne ?x ?h; (case h => assumption); (case x => assumption)) | (refine' ne_of_none ?x ?h; (case h => assumption); (case x => walk_at "hq")))
local macro_rules | `(tactic| walk_at "ne") => `(tactic| with_reducible first | assumption | (apply Ne.symm; assumption) | walk_at "neA" | (apply Ne.symm; walk_at "neA"))
local macro_rules | `(tactic| walk_at "off") => `(tactic| with_reducible repeat' (first | assumption | exact Off.refl _ _ | apply Off.set | (refine' Off.new ?_ ?h; (case h => assumption)) | (refine' Off.trans ?_ ?f; (case f => assumption))))
local macro_rules | `(tactic| walk_at "hp") => `(tactic| with_reducible first | assumption | exact upd_same | ((first | (refine' hp_new ?nn ?hp; (case nn => assumption)) | (refine' hp_set ?ne ?hp; (case ne => walk_at "ne")) | (refine' Off.get ?f ?ne ?hp; (case f => assumption); (case ne => walk_at "ne"))); (case hp => walk_at "hp")))
local macro_rules | `(tactic| walk_at "sq") => `(tactic| with_reducible first | assumption | (refine' SqL.of ?hh; (case hh => walk_at "hp")) | ((first | (refine' sq_new ?nn ?sq; (case nn => assumption)) | (refine' sq_set ?ne ?sq; (case ne => walk_at "ne")) | (refine' Off.seq ?f ?ne ?sq; (case f => assumption); (case ne => walk_at "ne"))); (case sq => walk_at "sq")))
local macro_rules | `(tactic| walk_at "sqt") => `(tactic| with_reducible first | assumption | (refine' SqT.of ?hh; (case hh => walk_at "hp")) | ((first | (refine' sqt_new ?nn ?sq; (case nn => assumption)) | (refine' sqt_set ?ne ?sq; (case ne => walk_at "ne")) | (refine' Off.seqT ?f ?ne ?sq; (case f => assumption); (case ne => walk_at "ne"))); (case sq => walk_at "sqt")))
/- straight-line steps of a reading -/
local macro_rules | `(tactic| walk_at "at") => `(tactic| first | assumption | rfl | exact atI_nat (j := 0) rfl | exact atI_nat (j := 1) rfl | exact atI_nat (j := 2) rfl | exact at_ints (by omega) (by omega))
local macro_rules | `(tactic| walk_at "sz") => `(tactic| first | assumption | decide | exact sz4 (by omega) | exact sz4' (by omega) | (simp only [List.length_map, List.length_append, List.length_cons, List.length_nil, List.length_range, List.length_replicate]; first | exact sz4 (by omega) | exact sz4' (by omega) | omega))
local macro_rules | `(tactic| walk_at "mul") => `(tactic| first | exact .inr ⟨by decide, by decide⟩ | exact mul_fm (by decide) (by decide) | exact .inl ⟨by omega, by omega⟩ | exact .inr ⟨by omega, by omega⟩)
local macro_rules | `(tactic| walk_at "div") => `(tactic| with_reducible first | exact div97 | exact div3 | exact div2 | exact div_m (by assumption) (by assumption))
local macro_rules | `(tactic| walk_at "nz") => `(tactic| first | decide | omega)
local macro_rules | `(tactic| walk_at "rd") => `(tactic| repeat' walk_at "rd1")
local macro_rules | `(tactic| walk_at "rdA") => `(tactic| with_reducible first
  | refine rd_op ?_
  | refine rd_c ?_
  | refine rd_cb ?_
  | refine rd_cons ?_
  | refine rd_nil ?_
  | refine rd_bl ?_
  | refine rd_ii ?_
  | refine rd_M1 ?_
  | refine rd_M0 ?_
  | refine rd_isS ?_
  | refine rd_test ?_
  | refine rd_B ?_
  | refine rd_and ?_
  | refine rd_or ?_
  | refine rd_not ?_
  | refine rd_andV ?_
  | refine rd_orV ?_
  | refine rd_notV ?_
  | refine rd_ifE ?_
  | refine rd_chain ?_
  | refine rd_seq ?_
  | refine rd_if ?_
  | refine rd_asg ?_
  | refine rd_gname ?_
  | refine rd_gsub ?_
  | refine rd_drop ?_
  | refine rd_ret ?_
  | refine rd_retN ?_
  | refine rd_brk ?_
  | refine rd_cnt ?_
  | refine rd_next ?_
  | refine rd_tup ?_
  | refine rd_lst ?_
  | refine rd_BM ?_
  | refine rd_gcons ?_
  | refine rd_gnil ?_
  | refine rd_sl ?_
  | refine rd_nopart ?_
  | refine rd_part ?_
  | refine rd_un ?_
  | refine rd_call ?_
  | refine rd_callN ?_
  | refine rd_lenSet ?_
  | refine rd_dget ?_
  | refine rd_din ?_
  | refine rd_dnin ?_
  | refine rd_dput ?_
  | refine rd_dnewK ?_
  | refine rd_dnewT ?_
  | refine rd_listRg ?_
  | refine rd_rg1 ?_
  | refine rd_rg2 ?_
  | refine rv_i2 ?_
  | refine rd_yes ?_
  | refine rd_iList ?_
  | refine rd_iTup ?_
  | refine rd_augS ?_
  | refine rv_ipI ?_
  | refine rd_zipA ?_
  | refine rd_enumT ?_
  | refine rd_for ?_
  | refine rd_rng1 ?_
  | refine rd_revL ?_
  | refine rv_addI ?_
  | refine rv_sub ?_
  | refine rv_lt ?_
  | refine rv_le ?_
  | refine rv_gt ?_
  | refine rv_ge ?_
  | refine rv_eqI ?_
  | refine rv_neI ?_
  | refine rv_eqS ?_
  | refine rv_eqB ?_
  | refine rv_neS ?_
  | refine rv_neB ?_
  | refine rv_int ?_
  | refine rv_inS ?_
  | refine rv_isNn ?_
  | refine rv_isNr ?_
  | refine rv_isNi ?_
  | refine rv_isNb ?_
  | refine rv_isNs ?_
  | refine rv_notNn ?_
  | refine rv_notNr ?_
  | refine rv_notNi ?_
  | refine rv_ninS ?_
  | refine rv_abs ?_
  | refine rv_max2 ?_
  | refine rv_min2 ?_
  | refine rv_ord ?_
  | refine rv_neg ?_
  | refine iteT ?_
  | refine iteF ?_
  | refine iteD (fun h => ?_) (fun h => ?_)
  | refine iteND (fun h => ?_) (fun h => ?_))
local macro_rules | `(tactic| walk_at "rd1") => `(tactic| first
  | ((with_reducible refine' rd_andB ?h ?_); (case h => (intro Qe hq; walk_at "rd"; exact hq)))
  | ((with_reducible refine' rd_orB ?h ?_); (case h => (intro Qe hq; walk_at "rd"; exact hq)))
  | walk_at "rdA"
  | ((with_reducible refine' rd_var ?h ?_); (case h => rfl))
  | ((with_reducible refine' rd_wipe ?h ?_); (case h => rfl))
  | ((with_reducible refine' rv_ixL ?h ?c ?_); (case h => walk_at "sq"); (case c => walk_at "at"))
  | ((with_reducible refine' rv_ixS ?h ?c ?_); (case h => walk_at "sz"); (case c => walk_at "at"))
  | ((with_reducible refine' rv_setL ?h ?c ?_); (case h => walk_at "hp"); (case c => rfl))
  | ((with_reducible refine' rv_mulI ?h ?_); (case h => walk_at "mul"))
  | ((with_reducible refine' rv_mod ?h ?_); (case h => walk_at "nz"))
  | ((with_reducible refine' rv_div ?h ?_); (case h => walk_at "div"))
  | ((with_reducible refine' rv_pow ?h ?_); (case h => exact ⟨by decide, by decide, by decide⟩))
  | ((with_reducible refine' rv_get ?h ?h0 ?c ?_); (case h => walk_at "sq"); (case h0 => omega); (case c => walk_at "at"))
  | ((with_reducible refine' rv_lenL ?h ?_); (case h => walk_at "sq"))
  | ((with_reducible refine' rv_lenS ?h ?_); (case h => walk_at "sz"))
  | ((with_reducible refine' rv_addS ?h ?_); (case h => walk_at "sz"))
  | ((with_reducible refine' rd_tyL ?h ?_); (case h => walk_at "sq"))
  | (with_reducible refine rd_tyS ?_)
  | ((with_reducible refine' rv_inL ?h ?hx ?hf ?_); (case h => walk_at "sq"); (case hx => rfl); (case hf => rfl))
  | ((with_reducible refine' rv_ninL ?h ?hx ?hf ?_); (case h => walk_at "sq"); (case hx => rfl); (case hf => rfl))
  | ((with_reducible refine' rv_all ?h ?_); (case h => walk_at "sq"))
  | ((with_reducible refine' rv_addL ?h1 ?h2 ?h3 (fun p hp => ?_)); (case h1 => walk_at "hp"); (case h2 => walk_at "hp"); (case h3 => walk_at "sz"))
  | (with_reducible refine iteB (fun h => ?_) (fun h => ?_))
  | (refine ⟨rfl, rfl, ?_⟩)
  | ((with_reducible refine' rv_up ?h ?_); (case h => omega))
  | ((with_reducible refine' rv_iL ?h ?_); (case h => walk_at "sq"))
  | ((with_reducible refine' rv_iT ?h ?_); (case h => walk_at "sqt"))
  | ((with_reducible refine' rv_listL ?h (fun p hp => ?_)); (case h => walk_at "sq"))
  | ((with_reducible refine' rv_listT ?h (fun p hp => ?_)); (case h => walk_at "sqt"))
  | ((with_reducible refine' rv_tupL ?h (fun p hp => ?_)); (case h => walk_at "sq"))
  | ((with_reducible refine' rv_tupT ?h ?_); (case h => walk_at "sqt"))
  | ((with_reducible refine' rv_ixT ?h ?c ?_); (case h => walk_at "sqt"); (case c => walk_at "at"))
  | ((with_reducible refine' rd_gtup ?h ?c ?_); (case h => walk_at "sqt"); (case c => rfl))
  | ((with_reducible refine' rv_lenT ?h ?_); (case h => walk_at "sqt"))
  | ((with_reducible refine' rv_isiB ?h ?_); (case h => with_reducible first | exact isi_bool_bool | exact isi_bool_int | exact isi_bool_str | exact isi_bool_list | exact isi_bool_tuple | exact isi_bool_dict))
  | ((with_reducible refine' rv_isiI ?h ?_); (case h => with_reducible first | exact isi_int_bool | exact isi_int_int | exact isi_int_str | exact isi_int_list | exact isi_int_tuple | exact isi_int_dict))
  | ((with_reducible refine' rv_isiS ?h ?_); (case h => with_reducible first | exact isi_str_bool | exact isi_str_int | exact isi_str_str | exact isi_str_list | exact isi_str_tuple | exact isi_str_dict))
  | ((with_reducible refine' rv_isiN ?h ?_); (case h => with_reducible first | exact isi_NoneType_bool | exact isi_NoneType_int | exact isi_NoneType_str | exact isi_NoneType_list | exact isi_NoneType_tuple | exact isi_NoneType_dict))
  | ((with_reducible refine' rv_isiL ?e ?h ?_); (case e => walk_at "hp"); (case h => with_reducible first | exact isi_list_bool | exact isi_list_int | exact isi_list_str | exact isi_list_list | exact isi_list_tuple | exact isi_list_dict))
  | ((with_reducible refine' rv_isiT ?e ?h ?_); (case e => walk_at "hp"); (case h => with_reducible first | exact isi_tuple_bool | exact isi_tuple_int | exact isi_tuple_str | exact isi_tuple_list | exact isi_tuple_tuple | exact isi_tuple_dict))
  | ((with_reducible refine' rv_revL ?h ?_); (case h => walk_at "sq"))
  | (with_reducible refine fun (p : Addr) (hp : _ = none) => ?_)
  | ((with_reducible refine' rv_slL ?h (fun p hp => ?_)); (case h => walk_at "sq"))
  | ((with_reducible refine' rv_slS ?h ?_); (case h => walk_at "sz"))
  | ((with_reducible refine' rv_ext ?h ?h2 ?c ?_); (case h => walk_at "hp"); (case h2 => walk_at "hp"); (case c => walk_at "sz"))
  | (refine ⟨(by simp only [List.length_cons, List.length_nil]; decide), fun p hp => ?_⟩)
  | ((with_reducible refine' rv_app ?h ?c ?_); (case h => walk_at "hp"); (case c => walk_at "sz"))
  )
local macro_rules | `(tactic| walk_at "bag") => `(tactic| first | assumption | (refine ⟨_, _, _, _, _, upd_same, (by assumption), ?hp, (by omega), (by omega)⟩; (case hp => walk_at "hp")) | exact ⟨_, _, _, _, _, (by assumption), (by assumption), (by assumption), (by assumption), (by assumption)⟩ | (refine BagAt.new ?_ (by assumption); walk_at "bag") | (refine BagAt.put ?_ (by assumption) (by assumption); walk_at "bag"))

section
variable {P : Program} {w : World} {K : PySem.W.Frag} {mg : Str → Option Value} {base : Heap}
--! _law_draw cut1 yes
theorem ok_law_draw (T : Txt K mg) : FnOk P w K mg base CX0 1 T.f_law_draw T.fd_law_draw ["bag", "many"] spDraw := by
  refine T.F_law_draw.ok sc_law_draw (fun vs H Q E h => ?_) (fun cdv A outer s H vs Q E hr h => ?_)
  · obtain ⟨b, c, cs, m, rfl, _⟩ := h
    rfl
  · obtain ⟨b, c, cs, m, rfl, hm, hm9, B, q⟩ := h
    have p18 : (0 : Int) ≤ 10 ^ Int.toNat 18 := by decide
    refine ⟨_, (C8.pss_cut (ps_if (PW.pt (pw_and (pt_cmpR dEq (pe_ix (dIx K) (pv 0) pe_int (fun _ _ => rfl)) pe_int (nomark _)) (pw_and (pt_cmpR dEq (pe_ix (dIx K) (pv 0) pe_int (fun _ _ => rfl)) pe_int (nomark _)) (pw_and1 (pt_cmpR dLt (pe_ix (dIx K) (pv 0) pe_int (fun _ _ => rfl)) (pe_callB (dLen K) (by rfl) T.n_len (by decide +kernel) (pa_cons (pe_ix (dIx K) (pv 0) pe_int (fun _ _ => rfl)) pa_nil)) (nomark _))))))
    (pss_cons (ps_set (i := 2) sc_law_draw.nd rfl (by first | exact Or.inl rfl | exact Or.inr rfl) (pe_ix (dIx K) (pe_ix (dIx K) (pv 0) pe_int (fun _ _ => rfl)) (pe_ix (dIx K) (pv 0) pe_int (fun _ _ => rfl)) (fun _ _ => rfl)))
    (pss_cons (ps_asg (pe_op (dAdd K) (pe_ix (dIx K) (pv 0) pe_int (fun _ _ => rfl)) pe_int) (pg_sub (pv 0) pe_int set_list))
    (pss_one (ps_if (pt_cmpR dGe (pv 2) (pe_op dPow pe_int pe_int) (nomark _))
     (pss_one (ps_asg (pv 2) (pg_sub (pv 0) pe_int set_list)))
     (pss_cons (ps_asg (pe_op dMod (pe_callTy dInt (by rfl) T.n_int (by decide +kernel) (pa_cons (pe_op (dAdd K) (pe_op dMul (pe_ix (dIx K) (pv 0) pe_int (fun _ _ => rfl)) pe_int) (pv 2)) pa_nil)) pe_int) (pg_sub (pv 0) pe_int set_list))
     (pss_one (ps_asg pe_int (pg_sub (pv 0) pe_int set_list))))))))
    pss_nil)
   (pss_cons (ps_if (pt_cmpR dGt (pe_ix (dIx K) (pv 0) pe_int (fun _ _ => rfl)) pe_int (nomark _))
    (pss_cons (ps_set (i := 3) sc_law_draw.nd rfl (by first | exact Or.inl rfl | exact Or.inr rfl) (pe_op dMod (pe_callTy dInt (by rfl) T.n_int (by decide +kernel) (pa_cons (pe_ix (dIx K) (pv 0) pe_int (fun _ _ => rfl)) pa_nil)) (pv 1)))
    (pss_cons (ps_asg (pe_op dDiv (pe_ix (dIx K) (pv 0) pe_int (fun _ _ => rfl)) (pv 1)) (pg_sub (pv 0) pe_int set_list))
    (pss_one (ps_ret (pv 3)))))
    pss_nil)
   (pss_cons (ps_asg (pe_op (dAdd K) (pe_ix (dIx K) (pv 0) pe_int (fun _ _ => rfl)) pe_int) (pg_sub (pv 0) pe_int set_list))
   (pss_cons (ps_if (pt_cmpR dGt (pe_ix (dIx K) (pv 0) pe_int (fun _ _ => rfl)) pe_int (nomark _))
    (pss_one (ps_asg (pe_op dSub (pe_ix (dIx K) (pv 0) pe_int (fun _ _ => rfl)) pe_int) (pg_sub (pv 0) pe_int set_list)))
    pss_nil)
   (pss_cons (ps_set (i := 4) sc_law_draw.nd rfl (by first | exact Or.inl rfl | exact Or.inr rfl) (pe_op dMod (pe_callTy dInt (by rfl) T.n_int (by decide +kernel) (pa_cons (pe_op (dAdd K) (pe_op (dAdd K) (pe_op dMul (pe_ix (dIx K) (pv 0) pe_int (fun _ _ => rfl)) pe_int) (pe_op dMul (pe_ix (dIx K) (pv 0) pe_int (fun _ _ => rfl)) pe_int)) pe_int) pa_nil)) pe_int))
   (pss_cons (ps_set (i := 5) sc_law_draw.nd rfl (by first | exact Or.inl rfl | exact Or.inr rfl) (pe_op dMod (pe_callTy dInt (by rfl) T.n_int (by decide +kernel) (pa_cons (pe_op (dAdd K) (pe_op (dAdd K) (pe_op dMul (pv 4) (pv 4)) (pe_op dMul (pe_ix (dIx K) (pv 0) pe_int (fun _ _ => rfl)) pe_int)) pe_int) pa_nil)) pe_int))
   (pss_cons (ps_set (i := 6) sc_law_draw.nd rfl (by first | exact Or.inl rfl | exact Or.inr rfl) (pe_op dMod (pe_callTy dInt (by rfl) T.n_int (by decide +kernel) (pa_cons (pe_op (dAdd K) (pe_op dMul (pv 5) (pv 5)) (pe_op dDiv (pv 5) pe_int)) pa_nil)) pe_int))
   (pss_one (ps_ret (pe_op dMod (pe_callTy dInt (by rfl) T.n_int (by decide +kernel) (pa_cons (pe_op dDiv (pv 6) pe_int) pa_nil)) (pv 1))))))))))), ?_⟩
    refine ⟨fun σ H' => ∃ x, σ = [some (.ref b), some (.int m), x, none, none, none, none] ∧ Off b H H' ∧ BagAt b c cs H', ?_, ?_⟩
    · obtain ⟨i, z, s, n, k, hb, ncb, hc, hi, hz⟩ := id B
      walk_at "rd"
      all_goals exact ⟨_, rfl, by walk_at "off", by walk_at "bag"⟩
    · rintro σ H1 ⟨x, rfl, f1, i, z, s, n, k, hb, ncb, hc, hi, hz⟩
      have zdiv : 0 ≤ z / m := Int.ediv_nonneg hz (by omega)
      walk_at "rd"
      all_goals exact q _ _ (by walk_at "off") (by walk_at "bag") (fm0 hm) (fm1 hm)
theorem ok_law_bag (T : Txt K mg) : FnOk P w K mg base CX0 1 T.f_law_bag T.fd_law_bag ["script"] (spBag K) := by
  refine T.F_law_bag.ok sc_law_bag (fun vs H Q E h => ?_) (fun cdv A outer s H vs Q E hr h => ?_)
  · obtain ⟨a, ns, rfl, _⟩ := h
    rfl
  · obtain ⟨a, ns, rfl, hS, hl, q⟩ := h
    refine ⟨_, (pss_one (ps_ret (pe_lst (pa_cons (pe_lc (own := [("cell", 1)]) (g := gName 1) (tt := tYes) rfl sc_law_bag.nd  (dpi_list K (pv 0)) (blkOk_by (own := [("cell", 1)]) (N := ["script", "cell"]) (sc := defScope s_law_bag) (by decide +kernel)) (fun _ _ _ _ _ => (pg_name (i := 1) sc_law_bag.nd rfl (by first | exact Or.inl rfl | exact Or.inr rfl))) (fun _ _ _ _ _ => pts_nil) (fun _ _ _ _ _ => (pe_callB dAbs (by rfl) T.n_abs (by decide +kernel) (pa_cons (pe_callTy dInt (by rfl) T.n_int (by decide +kernel) (pa_cons (pv 1) pa_nil)) pa_nil)))) (pa_cons pe_int (pa_cons pe_int (pa_cons pe_int (pa_cons pe_int (pa_cons pe_int pa_nil))))))))), ?_⟩
    walk_at "rd"
    refine lc_map (a := a) (xs := ns.map V.int) (fun x => match x with | .int i => .int (if i < 0 then -i else i) | _ => x) (fun Qe h => ?_) hS (by rw [List.length_map]; exact Nat.lt_of_le_of_lt hl (by decide)) (fun _ => rfl) ?_ ?_
    · walk_at "rd"; exact h
    · intro i x H' hx s1 Qe hq
      obtain ⟨n, rfl⟩ : ∃ n, x = V.int n := by
        obtain ⟨n, _, e⟩ := List.mem_map.mp (List.mem_of_getElem? hx)
        exact ⟨n, e.symm⟩
      walk_at "rd"
      exact hq _ fun _ _ e => e
    · intro D H1 hD s1 e1
      have e2 : List.map (fun x => match x with | .int i => .int (if i < 0 then -i else i) | _ => x) (ns.map V.int) = (ns.map fun i => if i < 0 then -i else i).map V.int := by
        rw [List.map_map, List.map_map]; rfl
      rw [e2] at e1
      walk_at "rd"
      rename_i p hp
      refine q _ _ D _ (s1.trans (same_upd hp)) (s1.free hp) ⟨_, _, _, _, _, upd_same, ne_of_none e1 hp, hp_new hp e1, by omega, by omega⟩
theorem ok_law_whole (T : Txt K mg) : FnOk P w K mg base CX0 1 T.f_law_whole T.fd_law_whole ["got"] spWhole := by
  refine T.F_law_whole.ok sc_law_whole (fun vs H Q E h => ?_) (fun cdv A outer s H vs Q E hr h => ?_)
  · obtain ⟨i, rfl, _⟩ := h
    rfl
  · obtain ⟨i, rfl, q⟩ := h
    refine ⟨_, (pss_one (ps_ret (pe_and (pe_callB (dIsi K) (by rfl) T.n_isinstance (by decide +kernel) (pa_cons (pv 0) (pa_cons (pe_bltn (v := .ty "int") (u := .type "int") (by rfl) T.n_int (by decide +kernel) rfl) pa_nil))) (pe_one (pe_not (pe_callB (dIsi K) (by rfl) T.n_isinstance (by decide +kernel) (pa_cons (pv 0) (pa_cons (pe_bltn (v := .ty "bool") (u := .type "bool") (by rfl) T.n_bool (by decide +kernel) rfl) pa_nil)))))))), ?_⟩
    walk_at "rd"
    exact q
--! _law_same never:isinstance(due,dict) yes
--! * _law_same 7
theorem ok_same_n (T : Txt K mg) : ∀ n : Nat, FnOk P w K mg base CX0 (n + 2) T.f_law_same T.fd_law_same ["got", "due"] (spSame n) := fun n => by
  induction n with
  | zero =>
    refine T.F_law_same.ok sc_law_same (fun vs H Q E h => ?_) (fun cdv A outer s H vs Q E hr h => ?_)
    · obtain ⟨x, y, rfl, _⟩ := h
      rfl
    · obtain ⟨x, y, rfl, ⟨rfl, hx⟩, q⟩ := h
      have ih : FnOk P w K mg base CX0 0 T.f_law_same T.fd_law_same ["got", "due"] (fun _ _ _ _ => False) := ⟨fun _ _ _ _ h => h.elim, fun _ _ _ _ _ _ _ _ _ _ _ _ _ h => h.elim⟩
      refine ⟨_, (pss_cons (ps_if (pt_cmpR dIsN (pv 1) pe_non (nomark _))
    (pss_one (ps_ret (pe_cmpR dIsN (pv 0) pe_non (nomark _))))
    pss_nil)
   (pss_cons (ps_if (pt_val (pe_callB (dIsi K) (by rfl) T.n_isinstance (by decide +kernel) (pa_cons (pv 1) (pa_cons (pe_bltn (v := .ty "bool") (u := .type "bool") (by rfl) T.n_bool (by decide +kernel) rfl) pa_nil))))
    (pss_one (ps_ret (pe_and (pe_callB (dIsi K) (by rfl) T.n_isinstance (by decide +kernel) (pa_cons (pv 0) (pa_cons (pe_bltn (v := .ty "bool") (u := .type "bool") (by rfl) T.n_bool (by decide +kernel) rfl) pa_nil))) (pe_one (pe_cmpR dEq (pv 0) (pv 1) (nomark _))))))
    pss_nil)
   (pss_cons (ps_if (pt_val (pe_callB (dIsi K) (by rfl) T.n_isinstance (by decide +kernel) (pa_cons (pv 1) (pa_cons (pe_bltn (v := .ty "int") (u := .type "int") (by rfl) T.n_int (by decide +kernel) rfl) pa_nil))))
    (pss_one (ps_ret (pe_and (pe_call (ok_law_whole T) (hr.mono (by omega)) (by rfl) T.g_law_whole T.F_law_whole.kp T.b_law_whole .nil pass0 (pa_cons (pv 0) pa_nil)) (pe_one (pe_cmpR dEq (pv 0) (pv 1) (nomark _))))))
    pss_nil)
   (pss_cons (ps_if (pt_val (pe_callB (dIsi K) (by rfl) T.n_isinstance (by decide +kernel) (pa_cons (pv 1) (pa_cons (pe_bltn (v := .ty "str") (u := .type "str") (by rfl) T.n_str (by decide +kernel) rfl) pa_nil))))
    (pss_one (ps_ret (pe_and (pe_callB (dIsi K) (by rfl) T.n_isinstance (by decide +kernel) (pa_cons (pv 0) (pa_cons (pe_bltn (v := .ty "str") (u := .type "str") (by rfl) T.n_str (by decide +kernel) rfl) pa_nil))) (pe_one (pe_cmpR dEq (pv 0) (pv 1) (nomark _))))))
    pss_nil)
   (pss_cons (ps_if (PW.pt (pw_or (pt_val (pe_callB (dIsi K) (by rfl) T.n_isinstance (by decide +kernel) (pa_cons (pv 1) (pa_cons (pe_bltn (v := .ty "tuple") (u := .type "tuple") (by rfl) T.n_tuple (by decide +kernel) rfl) pa_nil)))) (pw_or1 (pt_val (pe_callB (dIsi K) (by rfl) T.n_isinstance (by decide +kernel) (pa_cons (pv 1) (pa_cons (pe_bltn (v := .ty "list") (u := .type "list") (by rfl) T.n_list (by decide +kernel) rfl) pa_nil)))))))
    (pss_cons (ps_if (PW.pt (pw_and (pt_val (pe_callB (dIsi K) (by rfl) T.n_isinstance (by decide +kernel) (pa_cons (pv 1) (pa_cons (pe_bltn (v := .ty "tuple") (u := .type "tuple") (by rfl) T.n_tuple (by decide +kernel) rfl) pa_nil)))) (pw_and1 (pt_not (pt_val (pe_callB (dIsi K) (by rfl) T.n_isinstance (by decide +kernel) (pa_cons (pv 0) (pa_cons (pe_bltn (v := .ty "tuple") (u := .type "tuple") (by rfl) T.n_tuple (by decide +kernel) rfl) pa_nil))))))))
     (pss_one (ps_ret pe_bl))
     pss_nil)
    (pss_cons (ps_if (PW.pt (pw_and (pt_val (pe_callB (dIsi K) (by rfl) T.n_isinstance (by decide +kernel) (pa_cons (pv 1) (pa_cons (pe_bltn (v := .ty "list") (u := .type "list") (by rfl) T.n_list (by decide +kernel) rfl) pa_nil)))) (pw_and1 (pt_not (pt_val (pe_callB (dIsi K) (by rfl) T.n_isinstance (by decide +kernel) (pa_cons (pv 0) (pa_cons (pe_bltn (v := .ty "list") (u := .type "list") (by rfl) T.n_list (by decide +kernel) rfl) pa_nil))))))))
     (pss_one (ps_ret pe_bl))
     pss_nil)
    (pss_cons (ps_if (pt_cmpR dNe (pe_callB (dLen K) (by rfl) T.n_len (by decide +kernel) (pa_cons (pv 0) pa_nil)) (pe_callB (dLen K) (by rfl) T.n_len (by decide +kernel) (pa_cons (pv 1) pa_nil)) (nomark _))
     (pss_one (ps_ret pe_bl))
     pss_nil)
    (pss_cons (ps_for PassesOwn.never rfl (pi_range1 rfl T.n_range (pa_cons (pe_callB (dLen K) (by rfl) T.n_len (by decide +kernel) (pa_cons (pv 1) pa_nil)) pa_nil)) (pg_name (i := 2) sc_law_same.nd rfl (by first | exact Or.inl rfl | exact Or.inr rfl))
     (pss_one (ps_if (pt_not (pt_val (pe_call ih (hr.mono (by omega)) (by rfl) T.g_law_same T.F_law_same.kp T.b_law_same .nil pass0 (pa_cons (pe_ix (dIx K) (pv 0) (pv 2) (fun _ _ => rfl)) (pa_cons (pe_ix (dIx K) (pv 1) (pv 2) (fun _ _ => rfl)) pa_nil)))))
      (pss_one (ps_ret pe_bl))
      pss_nil)))
    (pss_one (ps_ret pe_bl))))))
    pss_nil)
   (pss_cons (ps_if (pt_val (pe_callB (dIsi K) (by rfl) T.n_isinstance (by decide +kernel) (pa_cons (pv 1) (pa_cons (pe_bltn (v := .ty "dict") (u := .type "dict") (by rfl) T.n_dict (by decide +kernel) rfl) pa_nil)))) pss_never pss_nil)
   (pss_one (ps_ret pe_bl)))))))), ?_⟩
      have q0 := q H (fun _ _ e => e)
      cases x with
      | non => walk_at "rd"; exact q0
      | bl b => walk_at "rd"; simpa using q0
      | int i =>
        walk_at "rd"
        refine ⟨i, rfl, ?_⟩
        walk_at "rd"
        simpa using q0
      | str z => walk_at "rd"; simpa using q0
      | byt _ => cases hx
      | flt _ => cases hx
      | ref _ => cases hx
      | ty _ => cases hx
  | succ n ih =>
    refine T.F_law_same.ok sc_law_same (fun vs H Q E h => ?_) (fun cdv A outer s H vs Q E hr h => ?_)
    · obtain ⟨x, y, rfl, _⟩ := h
      rfl
    · obtain ⟨x, y, rfl, hx, q⟩ := h
      refine ⟨_, (pss_cons (ps_if (pt_cmpR dIsN (pv 1) pe_non (nomark _))
    (pss_one (ps_ret (pe_cmpR dIsN (pv 0) pe_non (nomark _))))
    pss_nil)
   (pss_cons (ps_if (pt_val (pe_callB (dIsi K) (by rfl) T.n_isinstance (by decide +kernel) (pa_cons (pv 1) (pa_cons (pe_bltn (v := .ty "bool") (u := .type "bool") (by rfl) T.n_bool (by decide +kernel) rfl) pa_nil))))
    (pss_one (ps_ret (pe_and (pe_callB (dIsi K) (by rfl) T.n_isinstance (by decide +kernel) (pa_cons (pv 0) (pa_cons (pe_bltn (v := .ty "bool") (u := .type "bool") (by rfl) T.n_bool (by decide +kernel) rfl) pa_nil))) (pe_one (pe_cmpR dEq (pv 0) (pv 1) (nomark _))))))
    pss_nil)
   (pss_cons (ps_if (pt_val (pe_callB (dIsi K) (by rfl) T.n_isinstance (by decide +kernel) (pa_cons (pv 1) (pa_cons (pe_bltn (v := .ty "int") (u := .type "int") (by rfl) T.n_int (by decide +kernel) rfl) pa_nil))))
    (pss_one (ps_ret (pe_and (pe_call (ok_law_whole T) (hr.mono (by omega)) (by rfl) T.g_law_whole T.F_law_whole.kp T.b_law_whole .nil pass0 (pa_cons (pv 0) pa_nil)) (pe_one (pe_cmpR dEq (pv 0) (pv 1) (nomark _))))))
    pss_nil)
   (pss_cons (ps_if (pt_val (pe_callB (dIsi K) (by rfl) T.n_isinstance (by decide +kernel) (pa_cons (pv 1) (pa_cons (pe_bltn (v := .ty "str") (u := .type "str") (by rfl) T.n_str (by decide +kernel) rfl) pa_nil))))
    (pss_one (ps_ret (pe_and (pe_callB (dIsi K) (by rfl) T.n_isinstance (by decide +kernel) (pa_cons (pv 0) (pa_cons (pe_bltn (v := .ty "str") (u := .type "str") (by rfl) T.n_str (by decide +kernel) rfl) pa_nil))) (pe_one (pe_cmpR dEq (pv 0) (pv 1) (nomark _))))))
    pss_nil)
   (pss_cons (ps_if (PW.pt (pw_or (pt_val (pe_callB (dIsi K) (by rfl) T.n_isinstance (by decide +kernel) (pa_cons (pv 1) (pa_cons (pe_bltn (v := .ty "tuple") (u := .type "tuple") (by rfl) T.n_tuple (by decide +kernel) rfl) pa_nil)))) (pw_or1 (pt_val (pe_callB (dIsi K) (by rfl) T.n_isinstance (by decide +kernel) (pa_cons (pv 1) (pa_cons (pe_bltn (v := .ty "list") (u := .type "list") (by rfl) T.n_list (by decide +kernel) rfl) pa_nil)))))))
    (pss_cons (ps_if (PW.pt (pw_and (pt_val (pe_callB (dIsi K) (by rfl) T.n_isinstance (by decide +kernel) (pa_cons (pv 1) (pa_cons (pe_bltn (v := .ty "tuple") (u := .type "tuple") (by rfl) T.n_tuple (by decide +kernel) rfl) pa_nil)))) (pw_and1 (pt_not (pt_val (pe_callB (dIsi K) (by rfl) T.n_isinstance (by decide +kernel) (pa_cons (pv 0) (pa_cons (pe_bltn (v := .ty "tuple") (u := .type "tuple") (by rfl) T.n_tuple (by decide +kernel) rfl) pa_nil))))))))
     (pss_one (ps_ret pe_bl))
     pss_nil)
    (pss_cons (ps_if (PW.pt (pw_and (pt_val (pe_callB (dIsi K) (by rfl) T.n_isinstance (by decide +kernel) (pa_cons (pv 1) (pa_cons (pe_bltn (v := .ty "list") (u := .type "list") (by rfl) T.n_list (by decide +kernel) rfl) pa_nil)))) (pw_and1 (pt_not (pt_val (pe_callB (dIsi K) (by rfl) T.n_isinstance (by decide +kernel) (pa_cons (pv 0) (pa_cons (pe_bltn (v := .ty "list") (u := .type "list") (by rfl) T.n_list (by decide +kernel) rfl) pa_nil))))))))
     (pss_one (ps_ret pe_bl))
     pss_nil)
    (pss_cons (ps_if (pt_cmpR dNe (pe_callB (dLen K) (by rfl) T.n_len (by decide +kernel) (pa_cons (pv 0) pa_nil)) (pe_callB (dLen K) (by rfl) T.n_len (by decide +kernel) (pa_cons (pv 1) pa_nil)) (nomark _))
     (pss_one (ps_ret pe_bl))
     pss_nil)
    (pss_cons (ps_for PassesOwn.never rfl (pi_range1 rfl T.n_range (pa_cons (pe_callB (dLen K) (by rfl) T.n_len (by decide +kernel) (pa_cons (pv 1) pa_nil)) pa_nil)) (pg_name (i := 2) sc_law_same.nd rfl (by first | exact Or.inl rfl | exact Or.inr rfl))
     (pss_one (ps_if (pt_not (pt_val (pe_call ih (hr.mono (by omega)) (by rfl) T.g_law_same T.F_law_same.kp T.b_law_same .nil pass0 (pa_cons (pe_ix (dIx K) (pv 0) (pv 2) (fun _ _ => rfl)) (pa_cons (pe_ix (dIx K) (pv 1) (pv 2) (fun _ _ => rfl)) pa_nil)))))
      (pss_one (ps_ret pe_bl))
      pss_nil)))
    (pss_one (ps_ret pe_bl))))))
    pss_nil)
   (pss_cons (ps_if (pt_val (pe_callB (dIsi K) (by rfl) T.n_isinstance (by decide +kernel) (pa_cons (pv 1) (pa_cons (pe_bltn (v := .ty "dict") (u := .type "dict") (by rfl) T.n_dict (by decide +kernel) rfl) pa_nil)))) pss_never pss_nil)
   (pss_one (ps_ret pe_bl)))))))), ?_⟩
      rcases hx with ⟨rfl, hx⟩ | ⟨a, b, xs, ys, rfl, rfl, l, hab, p⟩
      · have q0 := q H (fun _ _ e => e)
        cases x with
        | non => walk_at "rd"; exact q0
        | bl b => walk_at "rd"; simpa using q0
        | int i =>
          walk_at "rd"
          refine ⟨i, rfl, ?_⟩
          walk_at "rd"
          simpa using q0
        | str z => walk_at "rd"; simpa using q0
        | byt _ => cases hx
        | flt _ => cases hx
        | ref _ => cases hx
        | ty _ => cases hx
      · have le := Paired.len p
        have turn : ∀ (i : Nat) (H' : Hp), Same H H' → i < ys.length → ∃ u v : V, atI xs (i : Int) = some u ∧ atI ys (i : Int) = some v ∧ SameV H' n u v := by
          intro i H' s1 hi
          have hx : xs[i]? = some xs[i] := List.getElem?_eq_getElem (by omega)
          obtain ⟨v, ev, sv⟩ := Paired.get1 p hx
          exact ⟨_, v, atI_nat hx, atI_nat ev, sv.same s1⟩
        rcases hab with ⟨ha, hb⟩ | ⟨ha, hb⟩
        · walk_at "rd"
          all_goals first | exact absurd ‹(!true) = true› (by decide) | (exfalso; omega) | skip
          refine ⟨_, rfl, by omega, by omega, ?_⟩
          refine for_range (lo := 0) (n := ys.length) (fun i σ H' => ∃ x2, σ = [some (.ref a), some (.ref b), x2, none] ∧ Same H H') ⟨none, rfl, fun _ _ e => e⟩ ?_ ?_
          · rintro i σ H' hi ⟨x2, rfl, s1⟩
            obtain ⟨u, v, hu, hv, sv⟩ := turn i H' s1 hi
            have ha' := s1 _ _ ha
            have hb' := s1 _ _ hb
            rw [show (0 : Int) + (i : Int) = i by omega]
            walk_at "rd"
            refine ⟨u, v, rfl, sv, fun H2 s2 => ?_⟩
            walk_at "rd"
            all_goals first | exact absurd ‹(!true) = true› (by decide) | exact ⟨_, rfl, s1.trans s2⟩
          · rintro σ H' ⟨x2, rfl, s1⟩
            walk_at "rd"
            exact q _ s1
        · walk_at "rd"
          all_goals first | exact absurd ‹(!true) = true› (by decide) | (exfalso; omega) | skip
          refine ⟨_, rfl, by omega, by omega, ?_⟩
          refine for_range (lo := 0) (n := ys.length) (fun i σ H' => ∃ x2, σ = [some (.ref a), some (.ref b), x2, none] ∧ Same H H') ⟨none, rfl, fun _ _ e => e⟩ ?_ ?_
          · rintro i σ H' hi ⟨x2, rfl, s1⟩
            obtain ⟨u, v, hu, hv, sv⟩ := turn i H' s1 hi
            have ha' := s1 _ _ ha
            have hb' := s1 _ _ hb
            rw [show (0 : Int) + (i : Int) = i by omega]
            walk_at "rd"
            refine ⟨u, v, rfl, sv, fun H2 s2 => ?_⟩
            walk_at "rd"
            all_goals first | exact absurd ‹(!true) = true› (by decide) | exact ⟨_, rfl, s1.trans s2⟩
          · rintro σ H' ⟨x2, rfl, s1⟩
            walk_at "rd"
            exact q _ s1
theorem ok_law_same (T : Txt K mg) : FnOk P w K mg base CX0 7 T.f_law_same T.fd_law_same ["got", "due"] (spSame 5) := ok_same_n T 5
theorem ok_law_shuffle (T : Txt K mg) : FnOk P w K mg base CX0 2 T.f_law_shuffle T.fd_law_shuffle ["bag", "things"] (spShuffle K) := by
  refine T.F_law_shuffle.ok sc_law_shuffle (fun vs H Q E h => ?_) (fun cdv A outer s H vs Q E hr h => ?_)
  · obtain ⟨b, c, cs, t, xs, rfl, _⟩ := h
    rfl
  · obtain ⟨b, c, cs, t, xs, rfl, ht, tb, hx, B, q⟩ := h
    refine ⟨_, (pss_cons (ps_set (i := 2) sc_law_shuffle.nd rfl (by first | exact Or.inl rfl | exact Or.inr rfl) (pe_callTy (dList K) (by rfl) T.n_list (by decide +kernel) (pa_cons (pv 1) pa_nil)))
   (pss_cons (ps_set (i := 3) sc_law_shuffle.nd rfl (by first | exact Or.inl rfl | exact Or.inr rfl) (pe_lst pa_nil))
   (pss_cons (ps_for PassesOwn.never rfl (pi_range1 rfl T.n_range (pa_cons (pe_callB (dLen K) (by rfl) T.n_len (by decide +kernel) (pa_cons (pv 1) pa_nil)) pa_nil)) (pg_name (i := 4) sc_law_shuffle.nd rfl (by first | exact Or.inl rfl | exact Or.inr rfl))
    (pss_one (ps_expr (pe_bm PySem.F.plainAttrs_list PySem.F.slot_list_append PySem.F.type_list_append mt_append (pv 3) (pa_cons (pe_bm PySem.F.plainAttrs_list PySem.F.slot_list_pop PySem.F.type_list_pop mt_popAt (pv 2) (pa_cons (pe_call (ok_law_draw T) (hr.mono (by omega)) (by rfl) T.g_law_draw T.F_law_draw.kp T.b_law_draw .nil pass0 (pa_cons (pv 0) (pa_cons (pe_callB (dLen K) (by rfl) T.n_len (by decide +kernel) (pa_cons (pv 2) pa_nil)) pa_nil))) pa_nil)) pa_nil)))))
   (pss_one (ps_ret (pv 3)))))), ?_⟩
    have turn : ∀ (r m : Addr) (i : Nat) (Hi : Hp) (ms rs : List V), (ms ++ rs).Perm xs → ms.length = i → i < xs.length → ∃ _ : rs.length = xs.length - i, 0 < rs.length := by
      intro r m i Hi ms rs p hl hi
      have := p.length_eq
      rw [List.length_append] at this
      exact ⟨by omega, by omega⟩
    rcases ht with ht | ht
    all_goals
      walk_at "rd"
      rename_i r hr0 m hm0
      have rb := B.ne hr0
      have rc := B.ne2 hr0
      have mb := (B.new hr0 (o := .lst xs)).ne hm0
      have mc := (B.new hr0 (o := .lst xs)).ne2 hm0
      have rm : r ≠ m := ne_of_none upd_same hm0
      have m0 : H m = none := ((Off.refl b H).new hr0).fresh mb hm0
      refine ⟨_, rfl, by omega, by omega, ?_⟩
      refine for_range (lo := 0) (n := xs.length) (fun i σ H' => ∃ (x4 : Option V) (ms rs : List V), σ = [some (.ref b), some (.ref t), some (.ref r), some (.ref m), x4] ∧ Off b H H' ∧ BagAt b c cs H' ∧ H' r = some (.lst rs) ∧ H' m = some (.lst ms) ∧ (ms ++ rs).Perm xs ∧ ms.length = i) ⟨none, [], xs, rfl, ((Off.refl b H).new hr0).new hm0, (B.new hr0).new hm0, hp_new hm0 upd_same, upd_same, List.Perm.refl _, rfl⟩ ?_ ?_
      · rintro i σ H1 hi ⟨x4, ms, rs, rfl, f1, B1, er, em, p, hl⟩
        have hpl := p.length_eq
        rw [List.length_append] at hpl
        walk_at "rd"
        refine ⟨b, c, cs, _, rfl, by omega, Int.lt_of_le_of_lt (show (rs.length : Int) ≤ 1000 by omega) (by decide), B1, fun H2 d f2 B2 d0 d1 => ?_⟩
        have er2 := f2.get rb er
        have em2 := f2.get mb em
        have hk : d.toNat < rs.length := by omega
        walk_at "rd"
        refine rv_pop er2 d0 d1 (by omega) rfl (List.getElem?_eq_getElem hk) ?_
        walk_at "rd"
        exact ⟨_, ms ++ [rs[d.toNat]], rs.eraseIdx d.toNat, rfl, ((f1.trans f2).mut ((B.ne hr0 |> fun _ => hr0))).mut m0, (B2.put rb rc).put mb mc, hp_set rm upd_same, upd_same, perm_take p (List.getElem?_eq_getElem hk), by simp [hl]⟩
      · rintro σ H1 ⟨x4, ms, rs, rfl, f1, B1, er, em, p, hl⟩
        have hpl := p.length_eq
        rw [List.length_append] at hpl
        have h0 : rs = [] := List.length_eq_zero_iff.mp (by omega)
        subst h0
        walk_at "rd"
        rw [List.append_nil] at p
        exact q H1 m ms f1 B1 em mb mc m0 p
end
def spFirst : Sp := fun vs H Q _ => ∃ (n : Nat) (a l : Addr) (as : List (Nat × Nat)) (al : List Bool), vs = [.int n, .ref a, .ref l] ∧ n ≤ 1000 ∧ ArcsAt H a as ∧ as.length ≤ 1000 ∧ OkA n as ∧ H l = some (.lst (al.map V.bl)) ∧ al.length = n ∧
  ∀ H' r, Same H H' → H r = none → H' r = some (.lst ((onwA n as al).map optV)) → Q (.ref r) H'
section
variable {P : Program} {w : World} {K : PySem.W.Frag} {mg : Str → Option Value} {base : Heap}
theorem ok_first_arcs (T : Txt K mg) : FnOk P w K mg base CX0 1 T.f_first_arcs T.fd_first_arcs ["count", "arcs", "alive"] spFirst := by
  refine T.F_first_arcs.ok sc_first_arcs (fun vs H Q E h => ?_) (fun cdv A outer s H vs Q E hr h => ?_)
  · obtain ⟨n, a, l, as, al, rfl, _⟩ := h
    rfl
  · obtain ⟨n, a, l, as, al, rfl, hn, ⟨vs, ea, ra⟩, hl, ok, el, ll, q⟩ := h
    have lv : vs.length = as.length := by rw [Paired.len ra, List.length_map]
    refine ⟨_, (pss_cons (ps_set (i := 3) sc_first_arcs.nd rfl (by first | exact Or.inl rfl | exact Or.inr rfl) (pe_op dMul (pe_lst (pa_cons pe_non pa_nil)) (pv 0)))
   (pss_cons (ps_for PassesOwn.never rfl (dpi_enumT K (by rfl) T.n_enumerate (pa_cons (pv 1) pa_nil)) (dpg_tup K (n := 2) (by rfl) (pgs_cons (pg_name (i := 4) sc_first_arcs.nd rfl (by first | exact Or.inl rfl | exact Or.inr rfl)) (pgs_cons (dpg_tup K (n := 2) (by rfl) (pgs_cons (pg_name (i := 5) sc_first_arcs.nd rfl (by first | exact Or.inl rfl | exact Or.inr rfl)) (pgs_cons (pg_name (i := 6) sc_first_arcs.nd rfl (by first | exact Or.inl rfl | exact Or.inr rfl)) pgs_nil))) pgs_nil)))
    (pss_one (ps_if (PW.pt (pw_and (pt_cmpR dIsN (pe_ix (dIx K) (pv 3) (pv 5) (fun _ _ => rfl)) pe_non (nomark _)) (pw_and1 (pt_val (pe_ix (dIx K) (pv 2) (pv 6) (fun _ _ => rfl))))))
     (pss_one (ps_asg (pv 4) (pg_sub (pv 3) (pv 5) set_list)))
     pss_nil)))
   (pss_one (ps_ret (pv 3))))), ?_⟩
    walk_at "rd"
    rename_i z hz
    refine rv_rep upd_same ⟨by omega, by omega, by simp; exact sz4 (by omega)⟩ (fun f hf => ?_)
    rw [rep_one n _ _ rfl]
    have f0 : H f = none := (same_upd hz).free hf
    have s0 : Same H (upd (upd H z (.lst [.non])) f (.lst (List.replicate n .non))) := (same_upd hz).trans (same_upd hf)
    walk_at "rd"
    refine ⟨a, vs, rfl, SqT.of (s0 _ _ ea), ?_⟩
    refine for_it (walk_enumT (K := K) (a := a) (xs := vs)) (fun i σ H' => ∃ (x4 x5 x6 : Option V), σ = [some (.int n), some (.ref a), some (.ref l), some (.ref f), x4, x5, x6] ∧ Same H H' ∧ H' f = some (.lst ((onwA n (as.take i) al).map optV))) ⟨none, none, none, rfl, s0, by rw [upd_same, List.take_zero, onwA_nil, List.map_replicate]; rfl⟩ (fun i σ H' _ h => by obtain ⟨_, _, _, _, s, _⟩ := h; exact SqT.of (s _ _ ea)) ?_ ?_
    · rintro i x σ H1 H2 hi ⟨x4, x5, x6, rfl, s1, ef⟩ ⟨T2, u, v, rfl, hT, rfl, hu, hx⟩
      cases hu
      have ex : (as.map row2)[i]? = some (row2 (as[i]'(by omega))) := by rw [List.getElem?_map, List.getElem?_eq_getElem (by omega)]; rfl
      obtain ⟨r, er, y, rfl, ey⟩ := Paired.get1 ra hx
      rw [ex] at er
      cases er
      have hm : as[i]? = some (as[i]'(by omega)) := List.getElem?_eq_getElem (by omega)
      obtain ⟨o1, o2⟩ := ok _ (List.mem_of_getElem? hm)
      generalize hp : as[i]'(by omega) = p at *
      obtain ⟨s, e⟩ := p
      have ey1 : H1 y = some (.tup [.int (s : Int), .int (e : Int)]) := s1 _ _ ey
      have el1 : H1 l = some (.lst (al.map V.bl)) := s1 _ _ el
      have a1 := at_opt (onwA_get (as := as.take i) (al := al) o1)
      have a2 := at_bl (al := al) (x := e) (by rw [ll]; exact o2)
      have st := onwA_snoc (n := n) (l := as.take i) (s := s) (e := e) (al := al) o1
      have tk : as.take (i + 1) = as.take i ++ [(s, e)] := by rw [List.take_add_one, hm]; rfl
      have ltk : (as.take i).length = i := by rw [List.length_take]; omega
      rw [ltk] at st
      obtain ⟨o, ho⟩ : ∃ o, firstA (as.take i) al s = o := ⟨_, rfl⟩
      replace a1 : atI ((onwA n (as.take i) al).map optV) (s : Int) = some (optV o) := ho ▸ a1
      rw [ho] at st
      cases o with
      | none =>
        replace a1 : atI ((onwA n (as.take i) al).map optV) (s : Int) = some .non := a1
        walk_at "rd"
        · rename_i h1
          refine rv_setL (hp_new hT ef) (by rw [List.length_map, onwA_len]; exact ixN_of o1) ?_
          rw [setm_opt]
          walk_at "rd"
          refine ⟨_, _, _, rfl, ?_, upd_same.trans ?_⟩
          · intro b o eb
            rw [upd_ne (ne_of_none eb f0)]
            exact hp_new hT (s1 _ _ eb)
          · rw [tk, st, if_pos ⟨rfl, h1⟩]
        · rename_i h1
          refine ⟨_, _, _, rfl, s1.trans (same_upd hT), hp_new hT ?_⟩
          rw [tk, st, if_neg (fun z => by rw [h1] at z; exact Bool.false_ne_true z.2)]
          exact ef
      | some k =>
        replace a1 : atI ((onwA n (as.take i) al).map optV) (s : Int) = some (.int (k : Int)) := a1
        walk_at "rd"
        refine ⟨_, _, _, rfl, s1.trans (same_upd hT), hp_new hT ?_⟩
        rw [tk, st, if_neg (fun z => by cases z.1)]
        exact ef
    · rintro σ H1 ⟨x4, x5, x6, rfl, s1, ef⟩
      rw [List.take_of_length_le (by omega)] at ef
      walk_at "rd"
      exact q _ f s1 f0 ef
def spOnward : Sp := fun vs H Q _ => ∃ (n : Nat) (a : Addr) (as : List (Nat × Nat)), vs = [.int n, .ref a] ∧ n ≤ 1000 ∧ ArcsAt H a as ∧ as.length ≤ 1000 ∧ OkA n as ∧
  ∀ H' r k, Same H H' → H r = none → stepA n as (iterA n as k) = iterA n as k → H' r = some (.lst ((onwA n as (iterA n as k)).map optV)) → Q (.ref r) H'
theorem ok_onward_arcs (T : Txt K mg) : FnOk P w K mg base CX0 2 T.f_onward_arcs T.fd_onward_arcs ["count", "arcs"] spOnward := by
  refine T.F_onward_arcs.ok sc_onward_arcs (fun vs H Q E h => ?_) (fun cdv A outer s H vs Q E hr h => ?_)
  · obtain ⟨n, a, as, rfl, _⟩ := h
    rfl
  · obtain ⟨n, a, as, rfl, hn, ha, hl, ok, q⟩ := h
    refine ⟨_, (pss_cons (ps_set (i := 2) sc_onward_arcs.nd rfl (by first | exact Or.inl rfl | exact Or.inr rfl) (pe_op dMul (pe_lst (pa_cons pe_bl pa_nil)) (pv 0)))
   (pss_cons (ps_set (i := 3) sc_onward_arcs.nd rfl (by first | exact Or.inl rfl | exact Or.inr rfl) (pe_call (ok_first_arcs T) (hr.mono (by omega)) (by rfl) T.g_first_arcs T.F_first_arcs.kp T.b_first_arcs .nil pass0 (pa_cons (pv 0) (pa_cons (pv 1) (pa_cons (pv 2) pa_nil)))))
   (pss_cons (ps_while PassesOwn.never (pt_cmpR (dNeD K hr.units) (pe_lc (own := [("step", 4)]) (g := gName 4) (tt := tYes) rfl sc_onward_arcs.nd  (dpi_list K (pv 3)) (blkOk_by (own := [("step", 4)]) (N := ["count", "arcs", "alive", "onward", "step"]) (sc := defScope s_onward_arcs) (by decide +kernel)) (fun _ _ _ _ _ => (pg_name (i := 4) sc_onward_arcs.nd rfl (by first | exact Or.inl rfl | exact Or.inr rfl))) (fun _ _ _ _ _ => pts_nil) (fun _ _ _ _ _ => (pe_cmpR dNotN (pv 4) pe_non (nomark _)))) (pv 2) (nomark _))
    (pss_cons (ps_setLc (i := 2) (own := [("step", 4)]) (g := gName 4) (tt := tYes) rfl sc_onward_arcs.nd rfl rfl (sw_true rfl rfl rfl (by decide +kernel)) (dpi_list K (pv 3)) (blkOk_by (own := [("step", 4)]) (N := ["count", "arcs", "alive", "onward", "step"]) (sc := defScope s_onward_arcs) (by decide +kernel)) (fun _ _ _ _ _ => (pg_name (i := 4) sc_onward_arcs.nd rfl (by first | exact Or.inl rfl | exact Or.inr rfl))) (fun _ _ _ _ _ => pts_nil) (fun _ _ _ _ _ => (pe_cmpR dNotN (pv 4) pe_non (nomark _))))
    (pss_one (ps_set (i := 3) sc_onward_arcs.nd rfl (by first | exact Or.inl rfl | exact Or.inr rfl) (pe_call (ok_first_arcs T) (hr.mono (by omega)) (by rfl) T.g_first_arcs T.F_first_arcs.kp T.b_first_arcs .nil pass0 (pa_cons (pv 0) (pa_cons (pv 1) (pa_cons (pv 2) pa_nil))))))))
   (pss_one (ps_ret (pv 3)))))), ?_⟩
    walk_at "rd"
    rename_i z hz
    refine rv_rep upd_same ⟨by omega, by omega, by simp; exact sz4 (by omega)⟩ (fun f hf => ?_)
    rw [rep_one n _ _ rfl]
    have f0 : H f = none := (same_upd hz).free hf
    have s0 : Same H (upd (upd H z (.lst [.bl true])) f (.lst (List.replicate n (.bl true)))) := (same_upd hz).trans (same_upd hf)
    have ef : (upd (upd H z (.lst [.bl true])) f (.lst (List.replicate n (.bl true)))) f = some (.lst ((iterA n as 0).map V.bl)) := by
      rw [upd_same]; show _ = some (HO.lst ((List.replicate n true).map V.bl)); rw [List.map_replicate]
    generalize (upd (upd H z (.lst [.bl true])) f (.lst (List.replicate n (.bl true)))) = H0 at s0 ef
    walk_at "rd"
    refine ⟨n, a, f, as, iterA n as 0, rfl, hn, ha.same s0, hl, ok, ef, iterA_len .., fun H1 r s1 hr1 er => ?_⟩
    walk_at "rd"
    refine rd_whl (fun m σ H' => ∃ (x4 : Option V) (f r : Addr) (k : Nat), σ = [some (.int n), some (.ref a), some (.ref f), some (.ref r), x4] ∧ Same H H' ∧ H r = none ∧ H' f = some (.lst ((iterA n as k).map V.bl)) ∧ H' r = some (.lst ((onwA n as (iterA n as k)).map optV)) ∧ m = cntB (iterA n as k)) _ ⟨none, f, r, 0, rfl, s0.trans s1, s0.free hr1, s1 _ _ ef, er, rfl⟩ ?_
    rintro m σ H2 ⟨x4, f, r, k, rfl, s2, r0, ef2, er2, rfl⟩
    walk_at "rd"
    refine rd_lc ?_
    walk_at "rd"
    refine lc_pureF (walk_list (K := K) (a := r) (xs := (onwA n as (iterA n as k)).map optV)) (fun _ => true) (fun i => .bl (firstA as (iterA n as k) i).isSome) (by rw [List.length_map, onwA_len]; omega) (fun H' s => SqL.of (s _ _ er2)) same_at ?_ ?_
    · rintro i x H' H3 Nx E hi s s3 ⟨rfl, hx⟩ hN _
      rw [List.length_map, onwA_len] at hi
      rw [List.getElem?_map, onwA_get hi] at hx
      cases hx
      walk_at "rd"
      refine rv_notNany ?_
      rw [optV_some]
      exact hN rfl _ fun _ _ e => e
    · intro D H3 hD s3 e3
      rw [step_list] at e3
      walk_at "rd"
      refine rv_neK (lstK (boolK K)) ⟨D, _, rfl, SqL.of e3, boolsK _ _⟩ ⟨f, _, rfl, SqL.of (s3 _ _ ef2), boolsK _ _⟩ ?_
      walk_at "rd"
      · rename_i hne
        refine ⟨_, fun _ _ h => h, ?_⟩
        have er3 := s3 _ _ er2
        walk_at "rd"
        refine rd_lc ?_
        walk_at "rd"
        refine lc_pureF (walk_list (K := K) (a := r) (xs := (onwA n as (iterA n as k)).map optV)) (fun _ => true) (fun i => .bl (firstA as (iterA n as k) i).isSome) (by rw [List.length_map, onwA_len]; omega) (fun H' s => SqL.of (s _ _ er3)) same_at ?_ ?_
        · rintro i x H' H4 Nx E hi s s4 ⟨rfl, hx⟩ hN _
          rw [List.length_map, onwA_len] at hi
          rw [List.getElem?_map, onwA_get hi] at hx
          cases hx
          walk_at "rd"
          refine rv_notNany ?_
          rw [optV_some]
          exact hN rfl _ fun _ _ e => e
        · intro D2 H4 hD2 s4 e4
          rw [step_list] at e4
          walk_at "rd"
          have s24 := s2.trans (s3.trans s4)
          refine ⟨n, a, D2, as, iterA n as (k + 1), rfl, hn, ha.same s24, hl, ok, e4, iterA_len .., fun H5 r5 s5 hr5 er5 => ?_⟩
          walk_at "rd"
          exact ⟨_, cntB_lt (by rw [iterA_len, iterA_len]) (iterA_dec n as k) hne, _, D2, r5, k + 1, rfl, s24.trans s5, s24.free hr5, s5 _ _ e4, er5, rfl⟩
      · rename_i hst
        walk_at "rd"
        exact q _ r k (s2.trans s3) r0 hst (s3 _ _ er2)
end
def spGoing : Sp := fun vs H Q _ => ∃ (n : Nat) (a r : Addr) (as : List (Nat × Nat)) (al : List Bool) (at0 : Nat), vs = [.int at0, .ref a, .ref r] ∧ n ≤ 1000 ∧ ArcsAt H a as ∧ as.length ≤ 1000 ∧ OkA n as ∧ H r = some (.lst ((onwA n as al).map optV)) ∧ stepA n as al = al ∧ at0 < n ∧ al.getD at0 false = true ∧
  ∀ H' p j m, Same H H' → j < m → seqA as al at0 m = seqA as al at0 j → (∀ i i', i < i' → i' < m → seqA as al at0 i ≠ seqA as al at0 i') → H' p = some (.tup (((List.range' j (m - j)).map fun i => (firstA as al (seqA as al at0 i)).getD 0).map fun k : Nat => V.int (k : Int))) → Q (.ref p) H'
section
variable {P : Program} {w : World} {K : PySem.W.Frag} {mg : Str → Option Value} {base : Heap}
theorem ok_ring_from (T : Txt K mg) : FnOk P w K mg base CX0 1 T.f_ring_from T.fd_ring_from ["at", "arcs", "onward"] spGoing := by
  refine T.F_ring_from.ok sc_ring_from (fun vs H Q E h => ?_) (fun cdv A outer s H vs Q E hr h => ?_)
  · obtain ⟨n, a, r, as, al, at0, rfl, _⟩ := h
    rfl
  · obtain ⟨n, a, r, as, al, at0, rfl, hn, ⟨vs, ea, ra⟩, hl, ok, er, hst, h0, ht, q⟩ := h
    have lv : vs.length = as.length := by rw [Paired.len ra, List.length_map]
    have AL := seqA_alive hst h0 ok ht
    generalize hf : seqA as al at0 = f at *
    have hf0 : f 0 = at0 := by rw [← hf]; rfl
    refine ⟨_, (pss_cons (ps_set (i := 3) sc_ring_from.nd rfl (by first | exact Or.inl rfl | exact Or.inr rfl) pe_dnewK)
   (pss_cons (ps_set (i := 4) sc_ring_from.nd rfl (by first | exact Or.inl rfl | exact Or.inr rfl) (pe_lst pa_nil))
   (pss_cons (ps_while PassesOwn.never (pt_cmp (pc_dnotin (hu_of hr) (pv 0) (pv 3)))
    (pss_cons (ps_dput (hu_of hr) (pv 3) (pv 0) (pe_callB (dLen K) (by rfl) T.n_len (by decide +kernel) (pa_cons (pv 4) pa_nil)) rfl)
    (pss_cons (ps_expr (pe_bm PySem.F.plainAttrs_list PySem.F.slot_list_append PySem.F.type_list_append mt_append (pv 4) (pa_cons (pe_ix (dIx K) (pv 2) (pv 0) (fun _ _ => rfl)) pa_nil)))
    (pss_one (ps_set (i := 0) sc_ring_from.nd rfl (by first | exact Or.inl rfl | exact Or.inr rfl) (pe_ix (dIx K) (pe_ix (dIx K) (pv 1) (pe_ix (dIx K) (pv 2) (pv 0) (fun _ _ => rfl)) (fun _ _ => rfl)) pe_int (fun _ _ => rfl)))))))
   (pss_one (ps_ret (pe_callTy (dTuple K) (by rfl) T.n_tuple (by decide +kernel) (pa_cons (pe_slice (dSl K) (pv 4) (po_some (pe_dget (hu_of hr) (pv 3) (pv 0) (fun _ _ => rfl))) po_none) pa_nil))))))), ?_⟩
    walk_at "rd"
    rename_i d hd p hp
    have p0 : H p = none := (same_upd hd).free hp
    have dp : d ≠ p := ne_of_none upd_same hp
    refine rd_whl (fun k σ H' => ∃ (m : Nat) (kvs : List (Key × V)), σ = [some (.int (f m : Int)), some (.ref a), some (.ref r), some (.ref d), some (.ref p)] ∧ k = 2000 - m ∧ Same H H' ∧ H' d = some (.dK kvs) ∧ kvs.length = m ∧ H' p = some (.lst ((List.range m).map fun i => V.int (((firstA as al (f i)).getD 0 : Nat) : Int))) ∧
      (∀ i i', i < i' → i' < m → f i ≠ f i') ∧ (∀ i, i < m → valV kvs (.inl (f i : Int)) = some (.int (i : Int))) ∧ (∀ x : Nat, (∀ i, i < m → f i ≠ x) → valV kvs (.inl (x : Int)) = none)) _ ⟨0, [], by rw [hf0]; rfl, rfl, (same_upd hd).trans (same_upd hp), hp_new hp upd_same, rfl, upd_same, fun _ _ _ h => absurd h (by omega), fun _ h => absurd h (by omega), fun _ _ => rfl⟩ ?_
    rintro k σ H1 ⟨m, kvs, rfl, rfl, s1, ed, lk, ep, hdis, hin, hout⟩
    have mn : m ≤ n := pigeon_fn f hdis fun i _ => (AL i).1
    obtain ⟨fm, _, am, efm, eam⟩ := AL m
    have ea1 := s1 _ _ ea
    have er1 := s1 _ _ er
    have og : atI ((onwA n as al).map optV) (f m : Int) = some (.int (am : Int)) := by rw [at_opt (onwA_get fm), efm]; rfl
    walk_at "rd"
    by_cases hc : ∃ i, i < m ∧ f i = f m
    · obtain ⟨j, hj, hjm⟩ := hc
      have hv : valV kvs (.inl (f m : Int)) = some (.int (j : Int)) := by rw [← hjm]; exact hin j hj
      refine rv_din (dg_int ed hv) ?_
      refine ⟨_, rfl, iteF ?_⟩
      walk_at "rd"
      refine rv_dget (dg_int ed hv) ?_
      walk_at "rd"
      rename_i t ht t2 ht2
      refine q _ t2 j m ((s1.trans (same_upd ht)).trans (same_upd ht2)) hj hjm.symm hdis ?_
      rw [upd_same, cut_drop, drop_range_map _ _ _ (by omega), List.map_map]
      rfl
    · have hno := hout (f m) fun i hi e => hc ⟨i, hi, e⟩
      refine rv_din (dg_int ed hno) ?_
      refine ⟨_, rfl, iteT ?_⟩
      refine ⟨_, fun _ _ h => h, ?_⟩
      have exm : (as.map row2)[am]? = some (row2 (f m, f (m + 1))) := by rw [List.getElem?_map, eam]; rfl
      obtain ⟨v, ev, y, rfl, ey⟩ := Paired.get2 ra exm
      have ey1 : H1 y = some (.tup [.int (f m : Int), .int (f (m + 1) : Int)]) := s1 _ _ ey
      have a2 : atI vs (am : Int) = some (.ref y) := atI_nat ev
      have pd : p ≠ d := dp.symm
      have rd' : r ≠ d := ne_of_none er hd
      have rp' : r ≠ p := ne_of_none er p0
      have ad' : a ≠ d := ne_of_none ea hd
      have ap' : a ≠ p := ne_of_none ea p0
      have yd' : y ≠ d := ne_of_none ey hd
      have yp' : y ≠ p := ne_of_none ey p0
      walk_at "rd"
      refine rv_dput (dpu_int ed (sz4' (by omega))) ?_
      walk_at "rd"
      rw [List.length_map, List.length_range]
      refine ⟨2000 - (m + 1), by omega, m + 1, _, rfl, rfl, fun b o eb => ?_, hp_set dp upd_same, ?_, ?_, ?_, ?_, ?_⟩
      · rw [upd_ne (ne_of_none eb p0), upd_ne (ne_of_none eb hd)]
        exact s1 _ _ eb
      · rw [putK_new _ hno, List.length_append, lk]; rfl
      · rw [upd_same, List.range_succ, List.map_append, List.map_cons, List.map_nil, efm]; rfl
      · intro i i' hii hi' e
        by_cases h : i' = m
        · subst h; exact hc ⟨i, hii, e⟩
        · exact hdis i i' hii (by omega) e
      · intro i hi
        rw [valV_put]
        by_cases h : i = m
        · rw [h, if_pos rfl]
        · rw [if_neg (fun e => hc ⟨i, by omega, by
            have : (f i : Int) = (f m : Int) := Sum.inl.inj e
            omega⟩)]
          exact hin i (by omega)
      · intro x hx
        rw [valV_put, if_neg (fun e => hx m (by omega) (by
            have : (x : Int) = (f m : Int) := Sum.inl.inj e
            omega))]
        exact hout x fun i hi => hx i (by omega)
def spFind : Sp := fun vs H Q _ => ∃ (n : Nat) (a : Addr) (as : List (Nat × Nat)), vs = [.int n, .ref a] ∧ n ≤ 1000 ∧ ArcsAt H a as ∧ as.length ≤ 1000 ∧ OkA n as ∧ ∀ H' v o, Same H H' → RingOut n as o → RingV H' v o → Q v H'
theorem ok_find_ring (T : Txt K mg) : FnOk P w K mg base CX0 3 T.f_find_ring T.fd_find_ring ["count", "arcs"] spFind := by
  refine T.F_find_ring.ok sc_find_ring (fun vs H Q E h => ?_) (fun cdv A outer s H vs Q E hr h => ?_)
  · obtain ⟨n, a, as, rfl, _⟩ := h
    rfl
  · obtain ⟨n, a, as, rfl, hn, ha, hl, ok, q⟩ := h
    refine ⟨_, (pss_cons (ps_set (i := 2) sc_find_ring.nd rfl (by first | exact Or.inl rfl | exact Or.inr rfl) (pe_call (ok_onward_arcs T) (hr.mono (by omega)) (by rfl) T.g_onward_arcs T.F_onward_arcs.kp T.b_onward_arcs .nil pass0 (pa_cons (pv 0) (pa_cons (pv 1) pa_nil))))
   (pss_cons (ps_for PassesOwn.never rfl (pi_range1 rfl T.n_range (pa_cons (pv 0) pa_nil)) (pg_name (i := 3) sc_find_ring.nd rfl (by first | exact Or.inl rfl | exact Or.inr rfl))
    (pss_one (ps_if (pt_cmpR dNotN (pe_ix (dIx K) (pv 2) (pv 3) (fun _ _ => rfl)) pe_non (nomark _))
     (pss_one (ps_ret (pe_call (ok_ring_from T) (hr.mono (by omega)) (by rfl) T.g_ring_from T.F_ring_from.kp T.b_ring_from .nil pass0 (pa_cons (pv 3) (pa_cons (pv 1) (pa_cons (pv 2) pa_nil))))))
     pss_nil)))
   (pss_one (ps_ret pe_non)))), ?_⟩
    walk_at "rd"
    refine ⟨n, a, as, rfl, hn, ha, hl, ok, fun H1 r k s1 r0 hst er => ?_⟩
    walk_at "rd"
    refine ⟨_, rfl, by omega, by omega, ?_⟩
    refine for_range (lo := 0) (n := n) (fun i σ H' => ∃ (x3 : Option V), σ = [some (.int n), some (.ref a), some (.ref r), x3] ∧ H' = H1 ∧ ∀ y, y < i → (iterA n as k).getD y false = false) ⟨none, rfl, rfl, fun _ h => absurd h (by omega)⟩ ?_ ?_
    · rintro i σ H' hi ⟨x3, rfl, rfl, hb⟩
      rw [show (0 : Int) + (i : Int) = i by omega]
      have a1 := at_opt (onwA_get (as := as) (al := iterA n as k) hi)
      have hg := stepA_get (as := as) (al := iterA n as k) hi
      rw [hst] at hg
      obtain ⟨o, ho⟩ : ∃ o, firstA as (iterA n as k) i = o := ⟨_, rfl⟩
      rw [ho] at a1 hg
      cases o with
      | none =>
        replace a1 : atI ((onwA n as (iterA n as k)).map optV) (i : Int) = some .non := a1
        walk_at "rd"
        · exact ⟨_, rfl, rfl, fun y hy => by
            by_cases h : y = i
            · rw [h, hg]; rfl
            · exact hb y (by omega)⟩
      | some m =>
        replace a1 : atI ((onwA n as (iterA n as k)).map optV) (i : Int) = some (.int (m : Int)) := a1
        walk_at "rd"
        refine ⟨n, a, r, as, iterA n as k, i, rfl, hn, ha.same s1, hl, ok, er, hst, hi, by rw [hg]; rfl, fun H2 p j m s2 jm e hd ep => ?_⟩
        exact q H2 _ (some _) (s1.trans s2) ⟨k, hst, i, hi, by rw [hg]; rfl, hb, j, m, jm, e, hd, rfl⟩ ⟨p, rfl, ep⟩
    · rintro σ H' ⟨x3, rfl, rfl, hb⟩
      walk_at "rd"
      exact q _ _ none s1 ⟨k, hst, hb⟩ rfl
end
def spCount : Sp := fun vs H Q _ => ∃ (b c : Addr) (cs : List Int) (f m : Nat), vs = [.ref b, .int f, .int m] ∧ f ≤ 100 ∧ m ≤ 100 ∧ BagAt b c cs H ∧ ∀ H' (k : Nat), Off b H H' → BagAt b c cs H' → k ≤ 100 → Q (.int k) H'
def spArcs : Sp := fun vs H Q _ => ∃ (b c : Addr) (cs : List Int) (n : Nat), vs = [.ref b, .int n] ∧ n ≤ 100 ∧ BagAt b c cs H ∧ ∀ H' a as, Off b H H' → BagAt b c cs H' → ArcsAt H' a as → as.length ≤ 100 → OkA n as → Q (.ref a) H'
section
variable {P : Program} {w : World} {K : PySem.W.Frag} {mg : Str → Option Value} {base : Heap}
theorem ok_law_count (T : Txt K mg) : FnOk P w K mg base CX0 2 T.f_law_count T.fd_law_count ["bag", "few", "most"] spCount := by
  refine T.F_law_count.ok sc_law_count (fun vs H Q E h => ?_) (fun cdv A outer s H vs Q E hr h => ?_)
  · obtain ⟨b, c, cs, f, m, rfl, _⟩ := h
    rfl
  · obtain ⟨b, c, cs, f, m, rfl, hf, hm, B, q⟩ := h
    refine ⟨_, (pss_cons (ps_if (pt_cmpR dEq (pe_call (ok_law_draw T) (hr.mono (by omega)) (by rfl) T.g_law_draw T.F_law_draw.kp T.b_law_draw .nil pass0 (pa_cons (pv 0) (pa_cons pe_int pa_nil))) pe_int (nomark _))
    (pss_one (ps_ret (pe_call (ok_law_draw T) (hr.mono (by omega)) (by rfl) T.g_law_draw T.F_law_draw.kp T.b_law_draw .nil pass0 (pa_cons (pv 0) (pa_cons (pe_op (dAdd K) (pv 2) pe_int) pa_nil)))))
    pss_nil)
   (pss_one (ps_ret (pe_call (ok_law_draw T) (hr.mono (by omega)) (by rfl) T.g_law_draw T.F_law_draw.kp T.b_law_draw .nil pass0 (pa_cons (pv 0) (pa_cons (pe_op (dAdd K) (pv 1) pe_int) pa_nil)))))), ?_⟩
    walk_at "rd"
    refine ⟨b, c, cs, 16, rfl, by decide, by decide, B, fun H1 r f1 B1 r0 r1 => ?_⟩
    walk_at "rd"
    · refine ⟨b, c, cs, _, rfl, by omega, Int.lt_of_le_of_lt (show (m : Int) + 1 ≤ 10000 by omega) (by decide), B1, fun H2 r f2 B2 r0 r1 => ?_⟩
      obtain ⟨k, rfl⟩ := Int.eq_ofNat_of_zero_le r0
      exact q H2 k (f1.trans f2) B2 (by omega)
    · refine ⟨b, c, cs, _, rfl, by omega, Int.lt_of_le_of_lt (show (f : Int) + 1 ≤ 10000 by omega) (by decide), B1, fun H2 r f2 B2 r0 r1 => ?_⟩
      obtain ⟨k, rfl⟩ := Int.eq_ofNat_of_zero_le r0
      exact q H2 k (f1.trans f2) B2 (by omega)
theorem fmod_nat (a n : Nat) (h : 0 < n) : (a : Int).fmod (n : Int) = ((a % n : Nat) : Int) := by
  rw [Int.fmod_eq_emod_of_nonneg _ (by omega)]; rfl
theorem ok_law_arcs (T : Txt K mg) : FnOk P w K mg base CX0 3 T.f_law_arcs T.fd_law_arcs ["bag", "count"] spArcs := by
  refine T.F_law_arcs.ok sc_law_arcs (fun vs H Q E h => ?_) (fun cdv A outer s H vs Q E hr h => ?_)
  · obtain ⟨b, c, cs, n, rfl, _⟩ := h
    rfl
  · obtain ⟨b, c, cs, n, rfl, hn, B, q⟩ := h
    refine ⟨_, (pss_cons (ps_set (i := 2) sc_law_arcs.nd rfl (by first | exact Or.inl rfl | exact Or.inr rfl) (pe_call (ok_law_count T) (hr.mono (by omega)) (by rfl) T.g_law_count T.F_law_count.kp T.b_law_count .nil pass0 (pa_cons (pv 0) (pa_cons pe_int (pa_cons pe_int pa_nil)))))
   (pss_cons (ps_set (i := 3) sc_law_arcs.nd rfl (by first | exact Or.inl rfl | exact Or.inr rfl) (pe_call (ok_law_draw T) (hr.mono (by omega)) (by rfl) T.g_law_draw T.F_law_draw.kp T.b_law_draw .nil pass0 (pa_cons (pv 0) (pa_cons pe_int pa_nil))))
   (pss_cons (ps_if (pt_cmpR dEq (pv 1) pe_int (nomark _))
    (pss_one (ps_ret (pe_tup pa_nil)))
    pss_nil)
   (C8.pss_cut (ps_if (pt_cmpR dEq (pv 1) pe_int (nomark _))
    (pss_one (ps_set (i := 3) sc_law_arcs.nd rfl (by first | exact Or.inl rfl | exact Or.inr rfl) pe_int))
    pss_nil)
   (pss_cons (ps_set (i := 4) sc_law_arcs.nd rfl (by first | exact Or.inl rfl | exact Or.inr rfl) (pe_lst pa_nil))
   (pss_cons (ps_for PassesOwn.never rfl (pi_range1 rfl T.n_range (pa_cons (pv 2) pa_nil)) (pg_name (i := 5) sc_law_arcs.nd rfl (by first | exact Or.inl rfl | exact Or.inr rfl))
    (pss_one (ps_if (pt_cmpR dEq (pv 3) pe_int (nomark _))
     (pss_one (ps_expr (pe_bm PySem.F.plainAttrs_list PySem.F.slot_list_append PySem.F.type_list_append mt_append (pv 4) (pa_cons (pe_tup (pa_cons (pe_call (ok_law_draw T) (hr.mono (by omega)) (by rfl) T.g_law_draw T.F_law_draw.kp T.b_law_draw .nil pass0 (pa_cons (pv 0) (pa_cons (pv 1) pa_nil))) (pa_cons (pe_call (ok_law_draw T) (hr.mono (by omega)) (by rfl) T.g_law_draw T.F_law_draw.kp T.b_law_draw .nil pass0 (pa_cons (pv 0) (pa_cons (pv 1) pa_nil))) pa_nil))) pa_nil))))
     (pss_one (ps_if (pt_cmpR dEq (pv 3) pe_int (nomark _))
      (pss_one (ps_expr (pe_bm PySem.F.plainAttrs_list PySem.F.slot_list_append PySem.F.type_list_append mt_append (pv 4) (pa_cons (pe_tup (pa_cons (pe_op dMod (pe_callTy dInt (by rfl) T.n_int (by decide +kernel) (pa_cons (pv 5) pa_nil)) (pv 1)) (pa_cons (pe_op dMod (pe_callTy dInt (by rfl) T.n_int (by decide +kernel) (pa_cons (pe_op (dAdd K) (pv 5) pe_int) pa_nil)) (pv 1)) pa_nil))) pa_nil))))
      (pss_cons (ps_set (i := 6) sc_law_arcs.nd rfl (by first | exact Or.inl rfl | exact Or.inr rfl) (pe_call (ok_law_draw T) (hr.mono (by omega)) (by rfl) T.g_law_draw T.F_law_draw.kp T.b_law_draw .nil pass0 (pa_cons (pv 0) (pa_cons (pe_op dSub (pv 1) pe_int) pa_nil))))
      (pss_one (ps_expr (pe_bm PySem.F.plainAttrs_list PySem.F.slot_list_append PySem.F.type_list_append mt_append (pv 4) (pa_cons (pe_tup (pa_cons (pv 6) (pa_cons (pe_op (dAdd K) (pe_op (dAdd K) (pv 6) pe_int) (pe_call (ok_law_draw T) (hr.mono (by omega)) (by rfl) T.g_law_draw T.F_law_draw.kp T.b_law_draw .nil pass0 (pa_cons (pv 0) (pa_cons (pe_op dSub (pe_op dSub (pv 1) pe_int) (pv 6)) pa_nil)))) pa_nil))) pa_nil))))))))))
   (C8.pss_cut (ps_if (PW.pt (pw_and (pt_cmpR dEq (pv 3) pe_int (nomark _)) (pw_and1 (pt_cmpR dGt (pv 2) pe_int (nomark _)))))
    (pss_cons (ps_set (i := 7) sc_law_arcs.nd rfl (by first | exact Or.inl rfl | exact Or.inr rfl) (pe_call (ok_law_draw T) (hr.mono (by omega)) (by rfl) T.g_law_draw T.F_law_draw.kp T.b_law_draw .nil pass0 (pa_cons (pv 0) (pa_cons (pv 2) pa_nil))))
    (pss_one (ps_asg (pe_tup (pa_cons (pe_ix (dIx K) (pe_ix (dIx K) (pv 4) (pv 7) (fun _ _ => rfl)) pe_int (fun _ _ => rfl)) (pa_cons (pe_ix (dIx K) (pe_ix (dIx K) (pv 4) (pv 7) (fun _ _ => rfl)) pe_int (fun _ _ => rfl)) pa_nil))) (pg_sub (pv 4) (pv 7) set_list))))
    pss_nil)
   (C8.pss_cut (ps_if (PW.pt (pw_and (pt_cmpR dEq (pv 3) pe_int (nomark _)) (pw_and (pt_cmpR dGt (pv 2) pe_int (nomark _)) (pw_and1 (pt_cmpR dEq (pe_call (ok_law_draw T) (hr.mono (by omega)) (by rfl) T.g_law_draw T.F_law_draw.kp T.b_law_draw .nil pass0 (pa_cons (pv 0) (pa_cons pe_int pa_nil))) pe_int (nomark _))))))
    (pss_one (ps_expr (pe_bm PySem.F.plainAttrs_list PySem.F.slot_list_pop PySem.F.type_list_pop mt_popAt (pv 4) (pa_cons (pe_call (ok_law_draw T) (hr.mono (by omega)) (by rfl) T.g_law_draw T.F_law_draw.kp T.b_law_draw .nil pass0 (pa_cons (pv 0) (pa_cons (pv 2) pa_nil))) pa_nil))))
    pss_nil)
   (pss_cons (ps_set (i := 8) sc_law_arcs.nd rfl (by first | exact Or.inl rfl | exact Or.inr rfl) (pe_call (ok_law_shuffle T) (hr.mono (by omega)) (by rfl) T.g_law_shuffle T.F_law_shuffle.kp T.b_law_shuffle .nil pass0 (pa_cons (pv 0) (pa_cons (pe_listRg rfl (by rfl) T.n_list (prg_1 (by rfl) T.n_range (pv 1))) pa_nil))))
   (pss_one (ps_ret (pe_callTy (dTuple K) (by rfl) T.n_tuple (by decide +kernel) (pa_cons (pe_call (ok_law_shuffle T) (hr.mono (by omega)) (by rfl) T.g_law_shuffle T.F_law_shuffle.kp T.b_law_shuffle .nil pass0 (pa_cons (pv 0) (pa_cons (pe_lc (own := [("arc", 9)]) (g := gName 9) (tt := tYes) rfl sc_law_arcs.nd  (dpi_list K (pv 4)) (blkOk_by (own := [("arc", 9)]) (N := ["bag", "count", "many", "way_of", "arcs", "k", "start", "at", "mixed", "arc"]) (sc := defScope s_law_arcs) (by decide +kernel)) (fun _ _ _ _ _ => (pg_name (i := 9) sc_law_arcs.nd rfl (by first | exact Or.inl rfl | exact Or.inr rfl))) (fun _ _ _ _ _ => pts_nil) (fun _ _ _ _ _ => (pe_tup (pa_cons (pe_ix (dIx K) (pv 8) (pe_ix (dIx K) (pv 9) pe_int (fun _ _ => rfl)) (fun _ _ => rfl)) (pa_cons (pe_ix (dIx K) (pv 8) (pe_ix (dIx K) (pv 9) pe_int (fun _ _ => rfl)) (fun _ _ => rfl)) pa_nil))))) pa_nil))) pa_nil))))))))))))), ?_⟩
    walk_at "rd"
    refine ⟨b, c, cs, 9, 80, rfl, by decide, by decide, B, fun H1 m f1 B1 hm => ?_⟩
    walk_at "rd"
    refine ⟨b, c, cs, 4, rfl, by decide, by decide, B1, fun H2 wy f2 B2 w0 w1 => ?_⟩
    walk_at "rd"
    · rename_i t ht
      exact q _ t [] ((f1.trans f2).new ht) (B2.new ht) ⟨[], upd_same, .nil⟩ (Nat.zero_le _) (fun _ h => nomatch h)
    · rename_i hn0
      have hn1 : 1 ≤ n := by omega
      refine ⟨fun σ H' => ∃ wy : Int, σ = [some (.ref b), some (.int n), some (.int m), some (.int wy), none, none, none, none, none, none] ∧ (n = 1 → wy = 0) ∧ H' = H2, ?_, ?_⟩
      · walk_at "rd"
        · exact ⟨_, rfl, fun _ => rfl, rfl⟩
        · exact ⟨_, rfl, fun e => absurd (show (n : Int) = 1 by omega) ‹_›, rfl⟩
      · rintro σ H' ⟨wy, rfl, hw1, rfl⟩
        walk_at "rd"
        rename_i l hl
        have lb : l ≠ b := B2.ne hl
        have lc : l ≠ c := B2.ne2 hl
        have l0 : H l = none := (f1.trans f2).fresh lb hl
        refine ⟨_, rfl, by omega, by omega, ?_⟩
        refine for_range (lo := 0) (n := m) (fun i σ H' => ∃ (x5 x6 : Option V) (vs : List V) (as : List (Nat × Nat)), σ = [some (.ref b), some (.int n), some (.int m), some (.int wy), some (.ref l), x5, x6, none, none, none] ∧
          Off b H H' ∧ BagAt b c cs H' ∧ H' l = some (.lst vs) ∧ RowsAt H' vs (as.map row2) ∧ OkA n as ∧ as.length = i) ⟨none, none, [], [], rfl, (f1.trans f2).new hl, B2.new hl, upd_same, .nil, (fun _ h => nomatch h), rfl⟩ ?_ ?_
        · rintro i σ H3 hi ⟨x5, x6, vs, as, rfl, f3, B3, el, ra, ok, hlen⟩
          rw [show (0 : Int) + (i : Int) = i by omega]
          have lv : vs.length = as.length := by rw [Paired.len ra, List.length_map]
          have fin : ∀ (H5 : Hp) (s e : Nat) (x5 x6 : Option V) (p : Addr), Off b H3 H5 → BagAt b c cs H5 → s < n → e < n → H5 p = none → ∃ (x5' x6' : Option V) (vs' : List V) (as' : List (Nat × Nat)), [some (.ref b), some (.int n), some (.int m), some (.int wy), some (.ref l), x5, x6, none, none, none] = [some (.ref b), some (.int n), some (.int m), some (.int wy), some (.ref l), x5', x6', none, none, none] ∧
            Off b H (upd (upd H5 p (.tup [.int (s : Int), .int (e : Int)])) l (.lst (vs ++ [.ref p]))) ∧ BagAt b c cs (upd (upd H5 p (.tup [.int (s : Int), .int (e : Int)])) l (.lst (vs ++ [.ref p]))) ∧ (upd (upd H5 p (.tup [.int (s : Int), .int (e : Int)])) l (.lst (vs ++ [.ref p]))) l = some (.lst vs') ∧ RowsAt (upd (upd H5 p (.tup [.int (s : Int), .int (e : Int)])) l (.lst (vs ++ [.ref p]))) vs' (as'.map row2) ∧ OkA n as' ∧ as'.length = i + 1 := by
            intro H5 s e x5 x6 p f B5 hs he hp
            have el5 := f.get lb el
            have pl : p ≠ l := (ne_of_none el5 hp).symm
            have t5 : TS H3 H5 := Off.ts f B3.lst
            refine ⟨_, _, vs ++ [.ref p], as ++ [(s, e)], rfl, ((f3.trans f).new hp).mut l0, (B5.new hp).put lb lc, upd_same, ?_, ?_, by simp [hlen]⟩
            · rw [List.map_append]
              exact (ra.ts ((t5.new hp).put (hp_new hp el5))).snoc ⟨p, rfl, hp_set pl upd_same⟩
            · intro q hq
              rcases List.mem_append.mp hq with hq | hq
              · exact ok q hq
              · rw [List.mem_singleton.mp hq]; exact ⟨hs, he⟩
          walk_at "rd"
          · refine ⟨b, c, cs, n, rfl, by omega, Int.lt_of_le_of_lt (show (n : Int) ≤ 10000 by omega) (by decide), B3, fun H4 r f4 B4 r0 r1 => ?_⟩
            walk_at "rd"
            refine ⟨b, c, cs, n, rfl, by omega, Int.lt_of_le_of_lt (show (n : Int) ≤ 10000 by omega) (by decide), B4, fun H5 r' f5 B5 r0' r1' => ?_⟩
            obtain ⟨s, rfl⟩ := Int.eq_ofNat_of_zero_le r0
            obtain ⟨e, rfl⟩ := Int.eq_ofNat_of_zero_le r0'
            have el5 := (f4.trans f5).get lb el
            walk_at "rd"
            exact fin H5 s e _ _ _ (f4.trans f5) B5 (by omega) (by omega) ‹_›
          · rw [fmod_nat i n hn1, show (i : Int) + 1 = ((i + 1 : Nat) : Int) by omega, fmod_nat (i + 1) n hn1]
            exact fin H3 _ _ _ _ _ (Off.refl _ _) B3 (Nat.mod_lt _ hn1) (Nat.mod_lt _ hn1) ‹_›
          · have hn2 : n ≠ 1 := fun e => ‹¬ wy = 0› (hw1 e)
            refine ⟨b, c, cs, _, rfl, by omega, Int.lt_of_le_of_lt (show (n : Int) - 1 ≤ 10000 by omega) (by decide), B3, fun H4 r f4 B4 r0 r1 => ?_⟩
            obtain ⟨s, rfl⟩ := Int.eq_ofNat_of_zero_le r0
            have el4 := f4.get lb el
            walk_at "rd"
            refine ⟨b, c, cs, _, rfl, by omega, Int.lt_of_le_of_lt (show (n : Int) - 1 - s ≤ 10000 by omega) (by decide), B4, fun H5 r' f5 B5 r0' r1' => ?_⟩
            obtain ⟨e, rfl⟩ := Int.eq_ofNat_of_zero_le r0'
            have el5 := f5.get lb el4
            walk_at "rd"
            rename_i p hp
            rw [show (s : Int) + 1 + (e : Int) = ((s + 1 + e : Nat) : Int) by omega]
            exact fin H5 s (s + 1 + e) _ _ p (f4.trans f5) B5 (by omega) (by omega) hp
        · rintro σ H3 ⟨x5, x6, vs, as, rfl, f3, B3, el, ra, ok, hlen⟩
          refine ⟨fun σ H' => ∃ (x5 x6 x7 : Option V) (vs : List V) (as : List (Nat × Nat)), σ = [some (.ref b), some (.int n), some (.int m), some (.int wy), some (.ref l), x5, x6, x7, none, none] ∧
            Off b H H' ∧ BagAt b c cs H' ∧ H' l = some (.lst vs) ∧ RowsAt H' vs (as.map row2) ∧ OkA n as ∧ as.length = m, ?_, ?_⟩
          · have stay : ∃ (x5' x6' x7' : Option V) (vs' : List V) (as' : List (Nat × Nat)), [some (.ref b), some (.int n), some (.int m), some (.int wy), some (.ref l), x5, x6, none, none, none] = [some (.ref b), some (.int n), some (.int m), some (.int wy), some (.ref l), x5', x6', x7', none, none] ∧
              Off b H H3 ∧ BagAt b c cs H3 ∧ H3 l = some (.lst vs') ∧ RowsAt H3 vs' (as'.map row2) ∧ OkA n as' ∧ as'.length = m := ⟨_, _, _, vs, as, rfl, f3, B3, el, ra, ok, hlen⟩
            walk_at "rd"
            · refine ⟨b, c, cs, m, rfl, by assumption, Int.lt_of_le_of_lt (show (m : Int) ≤ 10000 by omega) (by decide), B3, fun H4 r f4 B4 r0 r1 => ?_⟩
              obtain ⟨k, rfl⟩ := Int.eq_ofNat_of_zero_le r0
              have el4 := f4.get lb el
              have t4 : TS H3 H4 := Off.ts f4 B3.lst
              have hk : k < as.length := by omega
              have eak : as[k]? = some as[k] := List.getElem?_eq_getElem hk
              obtain ⟨o1, o2⟩ := ok _ (List.getElem_mem hk)
              obtain ⟨v, ev, y, rfl, ey⟩ := Paired.get2 ra (show (as.map row2)[k]? = some (row2 as[k]) by rw [List.getElem?_map, eak]; rfl)
              generalize as[k] = p at *
              obtain ⟨s, e⟩ := p
              have ey4 : H4 y = some (.tup [.int (s : Int), .int (e : Int)]) := t4 _ _ ey
              have a1 : atI vs (k : Int) = some (.ref y) := atI_nat ev
              walk_at "rd"
              rename_i p hp
              have pl : p ≠ l := (ne_of_none el4 hp).symm
              have lvk : k < vs.length := (List.getElem?_eq_some_iff.mp ev).1
              refine rv_setL (hp_new hp el4) (ixN_of lvk) ?_
              walk_at "rd"
              refine ⟨_, _, _, _, as.set k (e, s), rfl, ((f3.trans f4).new hp).mut l0, (B4.new hp).put lb lc, upd_same, ?_, ?_, by rw [List.length_set]; exact hlen⟩
              · rw [List.map_set]
                exact Paired.set k (ra.ts ((t4.new hp).put (hp_new hp el4))) ⟨p, rfl, hp_set pl upd_same⟩
              · intro q hq
                rcases List.mem_or_eq_of_mem_set hq with hq | hq
                · exact ok q hq
                · rw [hq]; exact ⟨o2, o1⟩
            · exact stay
            · exact stay
          · rintro σ H' ⟨x5, x6, x7, vs, as, rfl, f3, B3, el, ra, ok, hlen⟩
            refine ⟨fun σ H' => ∃ (x5 x6 x7 : Option V) (vs : List V) (as : List (Nat × Nat)), σ = [some (.ref b), some (.int n), some (.int m), some (.int wy), some (.ref l), x5, x6, x7, none, none] ∧
              Off b H H' ∧ BagAt b c cs H' ∧ H' l = some (.lst vs) ∧ RowsAt H' vs (as.map row2) ∧ OkA n as ∧ as.length ≤ 100, ?_, ?_⟩
            · have stay : ∀ H3, Off b H' H3 → BagAt b c cs H3 → ∃ (x5' x6' x7' : Option V) (vs' : List V) (as' : List (Nat × Nat)), [some (.ref b), some (.int n), some (.int m), some (.int wy), some (.ref l), x5, x6, x7, none, none] = [some (.ref b), some (.int n), some (.int m), some (.int wy), some (.ref l), x5', x6', x7', none, none] ∧
                Off b H H3 ∧ BagAt b c cs H3 ∧ H3 l = some (.lst vs') ∧ RowsAt H3 vs' (as'.map row2) ∧ OkA n as' ∧ as'.length ≤ 100 := fun H3 f B => ⟨_, _, _, vs, as, rfl, f3.trans f, B, f.get lb el, ra.ts (Off.ts f B3.lst), ok, by omega⟩
              walk_at "rd"
              · refine ⟨b, c, cs, 2, rfl, by decide, by decide, B3, fun H4 r f4 B4 r0 r1 => ?_⟩
                have el4 := f4.get lb el
                walk_at "rd"
                · refine ⟨b, c, cs, m, rfl, by assumption, Int.lt_of_le_of_lt (show (m : Int) ≤ 10000 by omega) (by decide), B4, fun H5 r f5 B5 r0 r1 => ?_⟩
                  have el5 := f5.get lb el4
                  have lv : vs.length = as.length := by rw [Paired.len ra, List.length_map]
                  have hk : r.toNat < vs.length := by omega
                  refine rv_pop el5 r0 (by omega) (by omega) rfl (List.getElem?_eq_getElem hk) ?_
                  walk_at "rd"
                  have t5 : TS H' H5 := Off.ts (f4.trans f5) B3.lst
                  refine ⟨_, _, _, _, as.eraseIdx r.toNat, rfl, ((f3.trans f4).trans f5).mut l0, B5.put lb lc, upd_same, ?_, ?_, ?_⟩
                  · rw [← map_eraseIdx]
                    exact Paired.erase _ (ra.ts (t5.put el5))
                  · exact fun q hq => ok q (mem_eraseIdx' _ _ _ hq)
                  · have := List.length_eraseIdx_le as r.toNat
                    omega
                · exact stay _ f4 B4
              · exact stay _ (Off.refl _ _) B3
              · exact stay _ (Off.refl _ _) B3
            · rintro σ H3 ⟨x5, x6, x7, vs, as, rfl, f3, B3, el, ra, ok, hlen⟩
              have lv : vs.length = as.length := by rw [Paired.len ra, List.length_map]
              walk_at "rd"
              refine ⟨.of_le (by omega) (by omega) (by omega) (by omega), fun r hr0 => ?_⟩
              refine ⟨b, c, cs, r, rgV 0 n, rfl, .inl (SqL.of upd_same), B3.ne hr0, by rw [rgV_length]; omega, B3.new hr0, fun H4 t ys f4 B4 et tb tc tn pm => ?_⟩
              rw [rg_nats] at pm
              obtain ⟨ms, rfl, pq⟩ := nats_perm pm
              have f34 : Off b H3 H4 := ((Off.refl b H3).new hr0).trans f4
              have el4 := f34.get lb el
              have ra4 := ra.ts (Off.ts f34 B3.lst)
              walk_at "rd"
              refine rd_lc ?_
              walk_at "rd"
              have mg : ∀ x, x < n → ∃ y, ms[x]? = some y ∧ ms.getD x 0 = y ∧ y < n := fun x hx => by
                have hx' : x < ms.length := by rw [pq.length_eq, List.length_range]; exact hx
                refine ⟨ms[x], List.getElem?_eq_getElem hx', by rw [List.getD_eq_getElem?_getD, List.getElem?_eq_getElem hx']; rfl, ?_⟩
                exact List.mem_range.mp (pq.mem_iff.mp (List.getElem_mem hx'))
              refine lc_pureT (walk_list (K := K) (a := l) (xs := vs)) as (fun H y p => Tn H y (row2 (ms.getD p.1 0, ms.getD p.2 0))) lv (by omega) (fun H' s => SqL.of (s _ _ el4)) same_at (fun H1 H2 y r t h => h.ts t) ?_ ?_
              · rintro i p x H' H5 Nx E ep s s2 ⟨rfl, hx⟩ hN
                obtain ⟨v, ev, y, rfl, ey⟩ := Paired.get2 ra4 (show (as.map row2)[i]? = some (row2 p) by rw [List.getElem?_map, ep]; rfl)
                rw [hx] at ev
                cases ev
                obtain ⟨o1, o2⟩ := ok _ (List.mem_of_getElem? ep)
                obtain ⟨s', e'⟩ := p
                obtain ⟨u, eu, gu, _⟩ := mg s' o1
                obtain ⟨w, ew, gw, _⟩ := mg e' o2
                have ey5 : H5 y = some (.tup [.int (s' : Int), .int (e' : Int)]) := s _ _ ey
                have et5 := s _ _ et
                have a1 := at_nats eu
                have a2 := at_nats ew
                walk_at "rd"
                rename_i q hq
                refine hN _ _ (same_upd hq) ⟨q, rfl, ?_⟩
                show _ = some (HO.tup ((row2 (ms.getD s' 0, ms.getD e' 0)).map V.int))
                rw [gu, gw]
                exact upd_same
              · intro d zs H5 hd s5 e5 pz
                have pz' : Paired (Tn H5) zs ((as.map fun p => (ms.getD p.1 0, ms.getD p.2 0)).map row2) := by
                  rw [List.map_map]
                  exact Paired.map2 _ pz
                have lz : zs.length = as.length := by rw [Paired.len pz', List.length_map, List.length_map]
                have B5 := B4.same s5
                refine ⟨b, c, cs, d, zs, rfl, .inl (SqL.of e5), B4.ne hd, by omega, B5, fun H6 t6 ys6 f6 B6 et6 t6b t6c t6n pm6 => ?_⟩
                obtain ⟨ss, ps, qs⟩ := Paired.perm pm6 (Paired.mapP (Paired.map2' row2 pz') fun _ _ h => h.ts (Off.ts f6 B5.lst))
                walk_at "rd"
                rename_i t7 ht7
                refine q _ t7 ss (((((f3.trans f34).trans (Off.of_same s5)).trans f6)).new ht7) (B6.new ht7) ⟨ys6, upd_same, Paired.map2 _ (Paired.mapP ps fun _ _ h => h.same (same_upd ht7))⟩ (by rw [qs.length_eq, List.length_map]; exact hlen) ?_
                intro p hp
                obtain ⟨p', hp', rfl⟩ := List.mem_map.mp (qs.mem_iff.mp hp)
                obtain ⟨o1, o2⟩ := ok _ hp'
                obtain ⟨u, eu, gu, u1⟩ := mg _ o1
                obtain ⟨w, ew, gw, w1⟩ := mg _ o2
                exact ⟨by show ms.getD p'.1 0 < n; rw [gu]; exact u1, by show ms.getD p'.2 0 < n; rw [gw]; exact w1⟩
end
def endsM (as : List (Nat × Nat)) (lf : List Nat) : List Nat := (as.filter fun p => decide (p.1 ∈ lf)).map Prod.snd
def keptM (as : List (Nat × Nat)) (lf : List Nat) : List Nat := lf.filter fun x => decide (x ∈ endsM as lf)
def leftM (n : Nat) (as : List (Nat × Nat)) : Nat → List Nat
  | 0 => List.range n
  | k + 1 => keptM as (leftM n as k)
theorem mem_left {n : Nat} {as : List (Nat × Nat)} (ok : OkA n as) : ∀ k x, x ∈ leftM n as k ↔ x < n ∧ ∃ y, y < n ∧ walkA as k y x
  | 0, x => by
    show x ∈ List.range n ↔ _
    rw [List.mem_range]
    exact ⟨fun h => ⟨h, x, h, rfl⟩, fun h => h.1⟩
  | k + 1, x => by
    show x ∈ keptM as (leftM n as k) ↔ _
    unfold keptM endsM
    rw [List.mem_filter, decide_eq_true_eq, List.mem_map]
    constructor
    · rintro ⟨h1, p, hp, rfl⟩
      rw [List.mem_filter, decide_eq_true_eq, mem_left ok k] at hp
      obtain ⟨hm, _, y, hy, w⟩ := hp
      exact ⟨(ok p hm).2, y, hy, walkA_snoc w hm⟩
    · rintro ⟨h1, y, hy, w⟩
      obtain ⟨z, w1, w2⟩ := walkA_init w
      refine ⟨(mem_left ok k x).mpr ⟨h1, ?_⟩, (z, x), ?_, rfl⟩
      · obtain ⟨v, hv, w3⟩ := w
        exact ⟨v, (ok _ hv).2, w3⟩
      · rw [List.mem_filter, decide_eq_true_eq, mem_left ok k]
        exact ⟨w2, (ok _ w2).1, y, hy, w1⟩
theorem left_stays {n : Nat} {as : List (Nat × Nat)} {k : Nat} (h : leftM n as (k + 1) = leftM n as k) : ∀ j, leftM n as (k + j) = leftM n as k
  | 0 => rfl
  | j + 1 => by
    show keptM as (leftM n as (k + j)) = _
    rw [left_stays h j]
    exact h
/-- a ring, told by taking away -/
theorem left_ring {n : Nat} {as : List (Nat × Nat)} (ok : OkA n as) {k : Nat} (h : leftM n as (k + 1) = leftM n as k) : (0 < (leftM n as k).length) ↔ ∀ j, ∃ x y, x < n ∧ walkA as j x y := by
  constructor
  · intro hp j
    obtain ⟨x, hx⟩ := List.exists_mem_of_length_pos hp
    rw [← left_stays h j] at hx
    obtain ⟨_, y, hy, w⟩ := (mem_left ok _ x).mp hx
    obtain ⟨z, w2⟩ := walkA_less (j := k) (k := j) w
    exact ⟨y, z, hy, w2⟩
  · intro hw
    obtain ⟨x, y, hx, w⟩ := hw k
    have : y ∈ leftM n as k := by
      refine (mem_left ok k y).mpr ⟨?_, x, hx, w⟩
      cases k with
      | zero => cases w; exact hx
      | succ k =>
        obtain ⟨z, _, w2⟩ := walkA_init w
        exact (ok _ w2).2
    exact List.length_pos_of_mem this
def spHas : Sp := fun vs H Q _ => ∃ (n : Nat) (a : Addr) (as : List (Nat × Nat)), vs = [.int n, .ref a] ∧ n ≤ 1000 ∧ ArcsAt H a as ∧ as.length ≤ 1000 ∧ OkA n as ∧
  ∀ H' b, Same H H' → (b = true ↔ ∀ j, ∃ x y, x < n ∧ walkA as j x y) → Q (.bl b) H'
section
variable {P : Program} {w : World} {K : PySem.W.Frag} {mg : Str → Option Value} {base : Heap}
theorem ok_law_has_ring (T : Txt K mg) : FnOk P w K mg base CX0 1 T.f_law_has_ring T.fd_law_has_ring ["count", "arcs"] spHas := by
  refine T.F_law_has_ring.ok sc_law_has_ring (fun vs H Q E h => ?_) (fun cdv A outer s H vs Q E hr h => ?_)
  · obtain ⟨n, a, as, rfl, _⟩ := h
    rfl
  · obtain ⟨n, a, as, rfl, hn, ⟨vs, ea, ra⟩, hl, ok, q⟩ := h
    have lv : vs.length = as.length := by rw [Paired.len ra, List.length_map]
    refine ⟨_, (pss_cons (ps_set (i := 2) sc_law_has_ring.nd rfl (by first | exact Or.inl rfl | exact Or.inr rfl) (pe_listRg rfl (by rfl) T.n_list (prg_1 (by rfl) T.n_range (pv 0))))
   (pss_cons (ps_for PassesOwn.never rfl (pi_range1 rfl T.n_range (pa_cons (pe_op (dAdd K) (pv 0) pe_int) pa_nil)) (pg_name (i := 3) sc_law_has_ring.nd rfl (by first | exact Or.inl rfl | exact Or.inr rfl))
    (pss_cons (ps_set (i := 4) sc_law_has_ring.nd rfl (by first | exact Or.inl rfl | exact Or.inr rfl) (pe_lc (own := [("arc", 5)]) (g := gName 5) rfl sc_law_has_ring.nd  (dpi_tup K (pv 1)) (blkOk_by (own := [("arc", 5)]) (N := ["count", "arcs", "left", "turn", "ends", "arc", "kept", "number"]) (sc := defScope s_law_has_ring) (by decide +kernel)) (fun _ _ _ _ _ => (pg_name (i := 5) sc_law_has_ring.nd rfl (by first | exact Or.inl rfl | exact Or.inr rfl))) (fun _ _ _ _ _ => (pts_one (pt_cmpR (dIn K) (pe_ix (dIx K) (pv 5) pe_int (fun _ _ => rfl)) (pv 2) (by rfl)))) (fun _ _ _ _ _ => (pe_ix (dIx K) (pv 5) pe_int (fun _ _ => rfl)))))
    (pss_cons (ps_setLc (i := 6) (own := [("number", 7)]) (g := gName 7) rfl sc_law_has_ring.nd rfl rfl (sw_true rfl rfl rfl (by decide +kernel)) (dpi_list K (pv 2)) (blkOk_by (own := [("number", 7)]) (N := ["count", "arcs", "left", "turn", "ends", "arc", "kept", "number"]) (sc := defScope s_law_has_ring) (by decide +kernel)) (fun _ _ _ _ _ => (pg_name (i := 7) sc_law_has_ring.nd rfl (by first | exact Or.inl rfl | exact Or.inr rfl))) (fun _ _ _ _ _ => (pts_one (pt_cmpR (dIn K) (pv 7) (pv 4) (by rfl)))) (fun _ _ _ _ _ => (pv 7)))
    (pss_cons (ps_if (pt_cmpR dEq (pe_callB (dLen K) (by rfl) T.n_len (by decide +kernel) (pa_cons (pv 6) pa_nil)) (pe_callB (dLen K) (by rfl) T.n_len (by decide +kernel) (pa_cons (pv 2) pa_nil)) (nomark _))
     (pss_one (ps_ret (pe_cmpR dGt (pe_callB (dLen K) (by rfl) T.n_len (by decide +kernel) (pa_cons (pv 2) pa_nil)) pe_int (nomark _))))
     pss_nil)
    (pss_one (ps_set (i := 2) sc_law_has_ring.nd rfl (by first | exact Or.inl rfl | exact Or.inr rfl) (pv 6)))))))
   (pss_one (ps_ret pe_bl)))), ?_⟩
    walk_at "rd"
    refine ⟨.of_le (by omega) (by omega) (by omega) (by omega), fun l hl0 => ?_⟩
    rw [rg_nats]
    walk_at "rd"
    refine ⟨_, rfl, by omega, by omega, ?_⟩
    refine for_range (lo := 0) (n := ((n : Int) + 1).toNat) (fun i σ H' => ∃ (x3 x4 x5 x6 x7 : Option V) (l : Addr), σ = [some (.int n), some (.ref a), some (.ref l), x3, x4, x5, x6, x7] ∧ Same H H' ∧ H' l = some (.lst (natsV (leftM n as i))) ∧ (leftM n as i).length + i ≤ n) ⟨none, none, none, none, none, l, rfl, same_upd hl0, upd_same, by show (List.range n).length + 0 ≤ n; rw [List.length_range]; omega⟩ ?_ ?_
    · rintro i0 σ H1 hi ⟨x3, x4, x5, x6, x7, l, rfl, s1, el, hsz⟩
      have ea1 := s1 _ _ ea
      walk_at "rd"
      refine rd_lc ?_
      walk_at "rd"
      refine lc_pureF (walk_tup (K := K) (a := a) (xs := vs)) (fun i => decide ((as.getD i (0, 0)).1 ∈ leftM n as i0)) (fun i => .int ((as.getD i (0, 0)).2 : Int)) (by omega) (fun H' s => SqT.of (s _ _ ea1)) same_at ?_ ?_
      · rintro i x H' H3 Nx E hi' s s3 ⟨rfl, hx⟩ hN hE
        have ep : as[i]? = some (as[i]'(by omega)) := List.getElem?_eq_getElem (by omega)
        have gp : as.getD i (0, 0) = as[i]'(by omega) := by rw [List.getD_eq_getElem?_getD, ep]; rfl
        rw [gp] at hN hE
        obtain ⟨v, ev, y, rfl, ey⟩ := Paired.get2 ra (show (as.map row2)[i]? = some (row2 (as[i]'(by omega))) by rw [List.getElem?_map, ep]; rfl)
        rw [hx] at ev
        cases ev
        generalize as[i]'(by omega) = p at *
        obtain ⟨s', e'⟩ := p
        have ey3 : H3 y = some (.tup [.int (s' : Int), .int (e' : Int)]) := s _ _ (s1 _ _ ey)
        have el3 := s _ _ el
        walk_at "rd"
        refine rv_inN (SqL.of el3) ?_
        walk_at "rd"
        · rename_i h1
          exact hN (decide_eq_true h1) _ fun _ _ e => e
        · rename_i h1
          exact hE (decide_eq_false h1) _ fun _ _ e => e
      · intro d H3 hd s3 e3
        have e3' : H3 d = some (.lst (natsV (endsM as (leftM n as i0)))) := by
          rw [e3, lv]
          congr 2
          rw [range_filter_map as (0, 0) (fun p => decide (p.1 ∈ leftM n as i0)) (fun p => V.int (p.2 : Int))]
          unfold natsV endsM
          rw [List.map_map]; rfl
        have el3 := s3 _ _ el
        walk_at "rd"
        refine rd_lc ?_
        walk_at "rd"
        refine lc_pureF (walk_list (K := K) (a := l) (xs := natsV (leftM n as i0))) (fun i => decide ((leftM n as i0).getD i 0 ∈ endsM as (leftM n as i0))) (fun i => .int ((leftM n as i0).getD i 0 : Int)) (by rw [natsV_len]; omega) (fun H' s => SqL.of (s _ _ el3)) same_at ?_ ?_
        · rintro i x H' H4 Nx E hi' s s4 ⟨rfl, hx⟩ hN hE
          rw [natsV_get] at hx
          obtain ⟨y, hy, rfl⟩ := Option.map_eq_some_iff.mp hx
          have gy : (leftM n as i0).getD i 0 = y := by rw [List.getD_eq_getElem?_getD, hy]; rfl
          rw [gy] at hN hE
          have ed4 := s _ _ e3'
          walk_at "rd"
          refine rv_inN (SqL.of ed4) ?_
          walk_at "rd"
          · rename_i h1
            exact hN (decide_eq_true h1) _ fun _ _ e => e
          · rename_i h1
            exact hE (decide_eq_false h1) _ fun _ _ e => e
        · intro d2 H4 hd2 s4 e4
          have e4' : H4 d2 = some (.lst (natsV (leftM n as (i0 + 1)))) := by
            rw [e4, natsV_len]
            congr 2
            rw [range_filter_map (leftM n as i0) 0 (fun x => decide (x ∈ endsM as (leftM n as i0))) (fun x => V.int (x : Int))]
            rfl
          have el4 := s4 _ _ el3
          have s14 := (s1.trans s3).trans s4
          have hle : (leftM n as (i0 + 1)).length ≤ (leftM n as i0).length := List.length_filter_le ..
          walk_at "rd"
          · rename_i h1
            rw [natsV_len, natsV_len] at h1
            have hst : leftM n as (i0 + 1) = leftM n as i0 := filter_len_eq _ _ (by show (leftM n as (i0 + 1)).length = _; omega)
            refine q _ _ s14 ?_
            rw [decide_eq_true_eq, ← left_ring ok hst, natsV_len]
            omega
          · rename_i h1
            rw [natsV_len, natsV_len] at h1
            exact ⟨_, _, _, _, _, d2, rfl, s14, e4', by omega⟩
    · rintro σ H1 ⟨x3, x4, x5, x6, x7, l, rfl, s1, el, hsz⟩
      exfalso
      omega
end
def startsM (as : List (Nat × Nat)) (ks : List Nat) : List Nat := ks.map fun k => (as.getD k (0, 0)).1
def spIs : Sp := fun vs H Q _ => ∃ (n : Nat) (a p : Addr) (as : List (Nat × Nat)) (ks : List Nat), vs = [.ref a, .ref p] ∧ n ≤ 1000 ∧ ArcsAt H a as ∧ as.length ≤ 1000 ∧ OkA n as ∧ H p = some (.tup (natsV ks)) ∧ IsRing n as ks ∧
  ∀ H', Same H H' → Q (.bl true) H'
theorem ring_len {n : Nat} {as : List (Nat × Nat)} {ks : List Nat} (ok : OkA n as) (r : IsRing n as ks) : ks.length ≤ n := by
  have := pigeon n _ r.nodup fun x hx => by
    obtain ⟨k, hk, rfl⟩ := List.mem_map.mp hx
    have h := r.into k hk
    rw [List.getD_eq_getElem?_getD, List.getElem?_eq_getElem h]
    exact (ok _ (List.getElem_mem h)).1
  rwa [List.length_map] at this
theorem at_last {l : List Nat} (h : 0 < l.length) : atI (natsV l) (((0 : Nat) : Int) - 1) = some (.int (l.getD (l.length - 1) 0 : Int)) := by
  unfold atI ixN
  rw [if_neg (by omega), if_pos (by rw [natsV_len]; omega), natsV_len, show ((((0 : Nat) : Int) - 1 + (l.length : Int)).toNat) = l.length - 1 by omega]
  show (natsV l)[l.length - 1]? = _
  rw [natsV_get, List.getElem?_eq_getElem (by omega), List.getD_eq_getElem?_getD, List.getElem?_eq_getElem (by omega)]; rfl
section
variable {P : Program} {w : World} {K : PySem.W.Frag} {mg : Str → Option Value} {base : Heap}
theorem ok_law_is_ring (T : Txt K mg) : FnOk P w K mg base CX0 2 T.f_law_is_ring T.fd_law_is_ring ["arcs", "ring"] spIs := by
  refine T.F_law_is_ring.ok sc_law_is_ring (fun vs H Q E h => ?_) (fun cdv A outer s H vs Q E hr h => ?_)
  · obtain ⟨n, a, p, as, ks, rfl, _⟩ := h
    rfl
  · obtain ⟨n, a, p, as, ks, rfl, hn, ⟨vs, ea, ra⟩, hl, ok, ep, R, q⟩ := h
    have lv : vs.length = as.length := by rw [Paired.len ra, List.length_map]
    have lk := ring_len ok R
    have lp := R.pos
    have arc : ∀ k, k < as.length → ∃ y, atI vs (k : Int) = some (.ref y) ∧ H y = some (.tup [.int ((as.getD k (0, 0)).1 : Int), .int ((as.getD k (0, 0)).2 : Int)]) := fun k hk => by
      obtain ⟨v, ev, y, rfl, ey⟩ := Paired.get2 ra (show (as.map row2)[k]? = some (row2 (as.getD k (0, 0))) by rw [List.getElem?_map, List.getD_eq_getElem?_getD, List.getElem?_eq_getElem hk]; rfl)
      exact ⟨y, atI_nat ev, ey⟩
    refine ⟨_, (pss_cons (ps_if (PW.pt (pw_or (pt_not (pt_val (pe_callB (dIsi K) (by rfl) T.n_isinstance (by decide +kernel) (pa_cons (pv 1) (pa_cons (pe_bltn (v := .ty "tuple") (u := .type "tuple") (by rfl) T.n_tuple (by decide +kernel) rfl) pa_nil))))) (pw_or1 (pt_cmpR dEq (pe_callB (dLen K) (by rfl) T.n_len (by decide +kernel) (pa_cons (pv 1) pa_nil)) pe_int (nomark _)))))
    (pss_one (ps_ret pe_bl))
    pss_nil)
   (pss_cons (ps_set (i := 2) sc_law_is_ring.nd rfl (by first | exact Or.inl rfl | exact Or.inr rfl) (pe_lst pa_nil))
   (pss_cons (ps_for PassesOwn.never rfl (dpi_tup K (pv 1)) (pg_name (i := 3) sc_law_is_ring.nd rfl (by first | exact Or.inl rfl | exact Or.inr rfl))
    (pss_cons (ps_if (PW.pt (pw_or (pt_not (pt_val (pe_call (ok_law_whole T) (hr.mono (by omega)) (by rfl) T.g_law_whole T.F_law_whole.kp T.b_law_whole .nil pass0 (pa_cons (pv 3) pa_nil)))) (pw_or (pt_cmpR dLt (pv 3) pe_int (nomark _)) (pw_or1 (pt_cmpR dGe (pv 3) (pe_callB (dLen K) (by rfl) T.n_len (by decide +kernel) (pa_cons (pv 0) pa_nil)) (nomark _))))))
     (pss_one (ps_ret pe_bl))
     pss_nil)
    (pss_one (ps_expr (pe_bm PySem.F.plainAttrs_list PySem.F.slot_list_append PySem.F.type_list_append mt_append (pv 2) (pa_cons (pe_ix (dIx K) (pe_ix (dIx K) (pv 0) (pv 3) (fun _ _ => rfl)) pe_int (fun _ _ => rfl)) pa_nil))))))
   (pss_cons (ps_for PassesOwn.never rfl (pi_range1 rfl T.n_range (pa_cons (pe_callB (dLen K) (by rfl) T.n_len (by decide +kernel) (pa_cons (pv 1) pa_nil)) pa_nil)) (pg_name (i := 4) sc_law_is_ring.nd rfl (by first | exact Or.inl rfl | exact Or.inr rfl))
    (pss_one (ps_if (pt_cmpR dNe (pe_ix (dIx K) (pv 2) (pv 4) (fun _ _ => rfl)) (pe_ix (dIx K) (pe_ix (dIx K) (pv 0) (pe_ix (dIx K) (pv 1) (pe_op dSub (pv 4) pe_int) (fun _ _ => rfl)) (fun _ _ => rfl)) pe_int (fun _ _ => rfl)) (nomark _))
     (pss_one (ps_ret pe_bl))
     pss_nil)))
   (pss_one (ps_ret (pe_cmpR dEq (dLenSet K (by rfl) T.n_len (by rfl) T.n_set (pv 2)) (pe_callB (dLen K) (by rfl) T.n_len (by decide +kernel) (pa_cons (pv 2) pa_nil)) (nomark _)))))))), ?_⟩
    walk_at "rd"
    · exact absurd ‹(!true) = true› (by decide)
    · rename_i h0
      rw [natsV_len] at h0
      omega
    · rename_i z hz
      refine for_it (walk_tup (K := K) (a := p) (xs := natsV ks)) (fun i σ H' => ∃ (x3 x4 : Option V), σ = [some (.ref a), some (.ref p), some (.ref z), x3, x4] ∧ Same H H' ∧ H' z = some (.lst (natsV (startsM as (ks.take i))))) ⟨none, none, rfl, same_upd hz, upd_same⟩ (fun i σ H' _ h => by obtain ⟨_, _, _, s, _⟩ := h; exact SqT.of (s _ _ ep)) ?_ ?_
      · rintro i x σ H1 H2 hi ⟨x3, x4, rfl, s1, ez⟩ ⟨rfl, hx⟩
        rw [natsV_get] at hx
        obtain ⟨k, hk, rfl⟩ := Option.map_eq_some_iff.mp hx
        have hka := R.into k (List.mem_of_getElem? hk)
        obtain ⟨y, a1, ey⟩ := arc k hka
        have ey1 := s1 _ _ ey
        have ea1 := s1 _ _ ea
        have zlen : (natsV (startsM as (ks.take i))).length < sizeLine := sz4' (by rw [natsV_len]; unfold startsM; rw [List.length_map, List.length_take]; omega)
        walk_at "rd"
        refine ⟨_, rfl, ?_⟩
        walk_at "rd"
        all_goals first | exact absurd ‹(!true) = true› (by decide) | (exfalso; omega) | skip
        refine ⟨_, _, rfl, fun b o eb => ?_, upd_same.trans ?_⟩
        · rw [upd_ne (ne_of_none eb hz)]
          exact s1 _ _ eb
        · rw [List.take_add_one, hk]
          unfold natsV startsM
          rw [List.map_append, List.map_append]
          rfl
      · rintro σ H1 ⟨x3, x4, rfl, s1, ez⟩
        rw [natsV_len, List.take_length] at ez
        have ep1 := s1 _ _ ep
        walk_at "rd"
        refine ⟨_, rfl, by rw [natsV_len]; omega, by rw [natsV_len]; omega, ?_⟩
        refine for_range (lo := 0) (n := (natsV ks).length) (fun i σ H' => ∃ (x3 x4 : Option V), σ = [some (.ref a), some (.ref p), some (.ref z), x3, x4] ∧ H' = H1) ⟨_, _, rfl, rfl⟩ ?_ ?_
        · rintro i σ H' hi ⟨x3, x4, rfl, rfl⟩
          rw [natsV_len] at hi
          rw [show (0 : Int) + (i : Int) = i by omega]
          have as1 : atI (natsV (startsM as ks)) (i : Int) = some (.int ((as.getD (ks.getD i 0) (0, 0)).1 : Int)) := by
            refine at_nats ?_
            unfold startsM
            rw [List.getElem?_map, List.getElem?_eq_getElem hi, List.getD_eq_getElem?_getD (l := ks), List.getElem?_eq_getElem hi]; rfl
          have key : ∃ j, j < as.length ∧ atI (natsV ks) ((i : Int) - 1) = some (.int (j : Int)) ∧ (as.getD j (0, 0)).2 = (as.getD (ks.getD i 0) (0, 0)).1 := by
            by_cases h0 : i = 0
            · subst h0
              refine ⟨ks.getD (ks.length - 1) 0, ?_, at_last lp, R.closes⟩
              refine R.into _ ?_
              rw [List.getD_eq_getElem?_getD, List.getElem?_eq_getElem (by omega)]
              exact List.getElem_mem ..
            · have hi1 : i - 1 < ks.length := by omega
              refine ⟨ks[i - 1], R.into _ (List.getElem_mem ..), ?_, ?_⟩
              · rw [show (i : Int) - 1 = ((i - 1 : Nat) : Int) by omega]
                exact at_nats (List.getElem?_eq_getElem hi1)
              · have := R.next (i - 1) (by omega)
                rw [this, List.getD_eq_getElem?_getD (l := ks), List.getElem?_eq_getElem hi]
                simp only [show i - 1 + 1 = i by omega]
                rfl
          obtain ⟨j, hj, aj, ej⟩ := key
          obtain ⟨y, a1, ey⟩ := arc j hj
          have ey1 := s1 _ _ ey
          have ea1 := s1 _ _ ea
          walk_at "rd"
          · rename_i h1
            exact absurd (by rw [ej]) h1
          · exact ⟨_, _, rfl, rfl⟩
        · rintro σ H' ⟨x3, x4, rfl, rfl⟩
          walk_at "rd"
          rw [natsV_eq] at ez
          refine ⟨z, _, rfl, SqL.of ez, ?_, by rw [List.length_map]; unfold startsM; rw [List.length_map]; omega, ?_⟩
          · refine List.Pairwise.map _ (fun a b h e => h (by omega)) R.nodup
          · walk_at "rd"
            rw [List.length_map, List.length_map, List.length_map, decide_eq_true rfl]
            exact q _ s1
end
section
variable {P : Program} {w : World} {K : PySem.W.Frag} {mg : Str → Option Value} {base : Heap}
def spLaw (K : PySem.W.Frag) : Sp := fun vs H Q _ => ∃ (a : Addr) (ns : List Int), vs = [.ref a] ∧ SqL K H a (ns.map V.int) ∧ ns.length ≤ 63 ∧ ∀ H', Q (.bl true) H'
theorem same_nats {H : Hp} {p q : Addr} {ks : List Nat} (hp : H p = some (.tup (natsV ks))) (hq : H q = some (.tup (natsV ks))) (hl : ks.length ≤ 100000) : SameV H 5 (.ref p) (.ref q) := by
  refine .inr ⟨p, q, _, _, rfl, rfl, by rw [natsV_len]; exact hl, .inl ⟨hp, hq⟩, ?_⟩
  unfold natsV
  exact Paired.map1 _ (Paired.map2 _ (by
    induction ks with
    | nil => exact .nil
    | cons k r ih => exact .cons (.inl ⟨rfl, rfl⟩) (ih_of r)))
where ih_of : ∀ r : List Nat, Paired (fun x y : Nat => SameV H 4 (.int (x : Int)) (.int (y : Int))) r r
  | [] => .nil
  | _ :: r => .cons (.inl ⟨rfl, rfl⟩) (ih_of r)
theorem ok_law (T : Txt K mg) {f : Addr} {fd : FuncData} (F : Fun K "law" "law" s_law f fd) : FnOk P w K mg base CX0 8 f fd ["script"] (spLaw K) := by
  refine F.ok sc_law (fun vs H Q E h => ?_) (fun cdv A outer s H vs Q E hr h => ?_)
  · obtain ⟨a, ns, rfl, _⟩ := h
    rfl
  · obtain ⟨a, ns, rfl, hS, hlen, q⟩ := h
    refine ⟨_, (pss_cons (ps_set (i := 1) sc_law.nd rfl (by first | exact Or.inl rfl | exact Or.inr rfl) (pe_call (ok_law_bag T) (hr.mono (by omega)) (by rfl) T.g_law_bag T.F_law_bag.kp T.b_law_bag .nil pass0 (pa_cons (pv 0) pa_nil)))
   (pss_cons (ps_set (i := 2) sc_law.nd rfl (by first | exact Or.inl rfl | exact Or.inr rfl) (pe_call (ok_law_count T) (hr.mono (by omega)) (by rfl) T.g_law_count T.F_law_count.kp T.b_law_count .nil pass0 (pa_cons (pv 1) (pa_cons pe_int (pa_cons pe_int pa_nil)))))
   (pss_cons (ps_set (i := 3) sc_law.nd rfl (by first | exact Or.inl rfl | exact Or.inr rfl) (pe_call (ok_law_arcs T) (hr.mono (by omega)) (by rfl) T.g_law_arcs T.F_law_arcs.kp T.b_law_arcs .nil pass0 (pa_cons (pv 1) (pa_cons (pv 2) pa_nil))))
   (pss_cons (ps_for PassesOwn.never rfl (pi_range1 rfl T.n_range (pa_cons pe_int pa_nil)) (pg_name (i := 4) sc_law.nd rfl (by first | exact Or.inl rfl | exact Or.inr rfl))
    (pss_cons (ps_set (i := 5) sc_law.nd rfl (by first | exact Or.inl rfl | exact Or.inr rfl) (pe_call (ok_find_ring T) (hr.mono (by omega)) (by rfl) T.g_find_ring T.F_find_ring.kp T.b_find_ring .nil pass0 (pa_cons (pv 2) (pa_cons (pv 3) pa_nil))))
    (pss_cons (ps_if (pt_not (pt_val (pe_call (ok_law_has_ring T) (hr.mono (by omega)) (by rfl) T.g_law_has_ring T.F_law_has_ring.kp T.b_law_has_ring .nil pass0 (pa_cons (pv 2) (pa_cons (pv 3) pa_nil)))))
     (pss_one (ps_ret (pe_and (pe_cmpR dIsN (pv 5) pe_non (nomark _)) (pe_one (pe_cmpR dIsN (pe_call (ok_find_ring T) (hr.mono (by omega)) (by rfl) T.g_find_ring T.F_find_ring.kp T.b_find_ring .nil pass0 (pa_cons (pv 2) (pa_cons (pv 3) pa_nil))) pe_non (nomark _))))))
     pss_nil)
    (pss_cons (ps_if (PW.pt (pw_or (pt_not (pt_val (pe_call (ok_law_is_ring T) (hr.mono (by omega)) (by rfl) T.g_law_is_ring T.F_law_is_ring.kp T.b_law_is_ring .nil pass0 (pa_cons (pv 3) (pa_cons (pv 5) pa_nil))))) (pw_or1 (pt_not (pt_val (pe_call (ok_law_same T) (hr.mono (by omega)) (by rfl) T.g_law_same T.F_law_same.kp T.b_law_same .nil pass0 (pa_cons (pe_call (ok_find_ring T) (hr.mono (by omega)) (by rfl) T.g_find_ring T.F_find_ring.kp T.b_find_ring .nil pass0 (pa_cons (pv 2) (pa_cons (pv 3) pa_nil))) (pa_cons (pv 5) pa_nil))))))))
     (pss_one (ps_ret pe_bl))
     pss_nil)
    (pss_cons (ps_set (i := 6) sc_law.nd rfl (by first | exact Or.inl rfl | exact Or.inr rfl) (pe_ix (dIx K) (pv 5) (pe_call (ok_law_draw T) (hr.mono (by omega)) (by rfl) T.g_law_draw T.F_law_draw.kp T.b_law_draw .nil pass0 (pa_cons (pv 1) (pa_cons (pe_callB (dLen K) (by rfl) T.n_len (by decide +kernel) (pa_cons (pv 5) pa_nil)) pa_nil))) (fun _ _ => rfl)))
    (pss_one (ps_set (i := 3) sc_law.nd rfl (by first | exact Or.inl rfl | exact Or.inr rfl) (pe_op (dCatA K) (pe_slice (dSlTA K) (pv 3) po_none (po_some (pv 6))) (pe_slice (dSlTA K) (pv 3) (po_some (pe_op (dAdd K) (pv 6) pe_int)) po_none)))))))))
   (pss_one (ps_ret pe_bl)))))), ?_⟩
    walk_at "rd"
    refine ⟨a, ns, rfl, hS, hlen, fun H1 b c cs s1 hb B => ?_⟩
    walk_at "rd"
    refine ⟨b, c, cs, 6, 40, rfl, by decide, by decide, B, fun H2 n f2 B2 hn => ?_⟩
    walk_at "rd"
    refine ⟨b, c, cs, n, rfl, hn, B2, fun H3 ar as f3 B3 A3 l3 ok3 => ?_⟩
    walk_at "rd"
    refine ⟨_, rfl, by decide, by decide, ?_⟩
    refine for_range (lo := 0) (n := Int.toNat 6) (fun i σ H' => ∃ (x4 x5 x6 : Option V) (ar : Addr) (as : List (Nat × Nat)), σ = [some (.ref a), some (.ref b), some (.int n), some (.ref ar), x4, x5, x6] ∧ BagAt b c cs H' ∧ ArcsAt H' ar as ∧ as.length ≤ 100 ∧ OkA n as) ⟨none, none, none, ar, as, rfl, B3, A3, l3, ok3⟩ ?_ ?_
    · rintro i σ H4 hi ⟨x4, x5, x6, ar, as, rfl, B4, A4, l4, ok4⟩
      walk_at "rd"
      refine ⟨n, ar, as, rfl, by omega, A4, by omega, ok4, fun H5 v o s5 R5 v5 => ?_⟩
      have A5 := A4.same s5
      walk_at "rd"
      refine ⟨n, ar, as, rfl, by omega, A5, by omega, ok4, fun H6 hb s6 hiff => ?_⟩
      have A6 := A5.same s6
      have v6 := v5.same s6
      have B6 := (B4.same s5).same s6
      cases hb with
      | false =>
        have on : o = none := by
          cases o with
          | none => rfl
          | some ks => exact absurd (hiff.mpr (R5.ring ok4).2) Bool.false_ne_true
        subst on
        obtain rfl : v = .non := v6
        walk_at "rd"
        · refine ⟨n, ar, as, rfl, by omega, A6, by omega, ok4, fun H7 v o s7 R7 v7 => ?_⟩
          have on : o = none := R7.one R5
          subst on
          obtain rfl : v = .non := v7
          walk_at "rd"
          exact q _
        · exact absurd ‹(!false) = false› (by decide)
      | true =>
        cases o with
        | none =>
          exfalso
          obtain ⟨k, hk⟩ := R5.never ok4
          obtain ⟨x, y, hx, hw⟩ := hiff.mp rfl k
          exact hk x y hx hw
        | some ks =>
          obtain ⟨p, rfl, ep⟩ := id v6
          have IR := (R5.ring ok4).1
          have lk := ring_len ok4 IR
          have lpos := IR.pos
          walk_at "rd"
          · exact absurd ‹(!true) = true› (by decide)
          · refine ⟨n, ar, p, as, ks, rfl, by omega, A6, by omega, ok4, ep, IR, fun H7 s7 => ?_⟩
            have A7 := A6.same s7
            walk_at "rd"
            · exact absurd ‹(!true) = true› (by decide)
            · refine ⟨n, ar, as, rfl, by omega, A7, by omega, ok4, fun H8 v o s8 R8 v8 => ?_⟩
              have on : o = some ks := R8.one R5
              subst on
              obtain ⟨p2, rfl, ep2⟩ := v8
              have ep8 := s8 _ _ (s7 _ _ ep)
              walk_at "rd"
              refine ⟨_, _, rfl, same_nats ep2 ep8 (by omega), fun H9 s9 => ?_⟩
              have A9 := (A7.same s8).same s9
              have ep9 := s9 _ _ ep8
              have B9 := ((B6.same s7).same s8).same s9
              replace ep9 : H9 p = some (.tup (natsV ks)) := ep9
              walk_at "rd"
              · exact absurd ‹(!true) = true› (by decide)
              · refine ⟨b, c, cs, _, rfl, by rw [natsV_len]; omega, Int.lt_of_le_of_lt (show _ ≤ (10000 : Int) by rw [natsV_len]; omega) (by decide), B9, fun H10 r f10 B10 r0 r1 => ?_⟩
                rw [natsV_len] at r1
                obtain ⟨k, rfl⟩ := Int.eq_ofNat_of_zero_le r0
                have hk : k < ks.length := by omega
                have a1 := at_nats (List.getElem?_eq_getElem hk)
                generalize ks[k] = cut at a1
                have T10 := Off.ts f10 B9.lst
                have ep10 := T10 _ _ ep9
                obtain ⟨vs, ea, ra⟩ := A9.ts T10
                have lv : vs.length = as.length := by rw [Paired.len ra, List.length_map]
                walk_at "rd"
                refine rv_slTA ea fun a2 H11 s11 e11 => ?_
                rw [cut_take] at e11
                have ea11 := s11 _ _ ea
                walk_at "rd"
                refine rv_slTA ea11 fun a3 H12 s12 e12 => ?_
                rw [show (cut : Int) + 1 = ((cut + 1 : Nat) : Int) by omega, cut_drop] at e12
                refine rv_catA (s12 _ _ e11) e12 (by rw [List.length_take, List.length_drop]; exact sz4 (by omega)) fun a4 H13 s13 e13 => ?_
                walk_at "rd"
                refine ⟨_, _, _, a4, as.take cut ++ as.drop (cut + 1), rfl, ((B10.same s11).same s12).same s13, ⟨_, e13, ?_⟩, ?_, ?_⟩
                · rw [List.map_append, List.map_take, List.map_drop]
                  exact Paired.mapP (Paired.app (Paired.take cut ra) (Paired.drop (cut + 1) ra)) fun _ _ h => ((h.same s11).same s12).same s13
                · rw [List.length_append, List.length_take, List.length_drop]; omega
                · intro x hx
                  rcases List.mem_append.mp hx with hx | hx
                  · exact ok4 x (List.mem_of_mem_take hx)
                  · exact ok4 x (List.mem_of_mem_drop hx)
    · rintro σ H4 ⟨x4, x5, x6, ar, as, rfl, B4, A4, l4, ok4⟩
      walk_at "rd"
      exact q _
end
theorem all_mk {l : PySem.W.OpenLaw} {w : World} {K : PySem.W.Frag} {h : Heap} {mg : Str → Option Value} {fa f0 f1 f2 f3 f4 f5 f6 f7 f8 f9 f10 f11 f12 f13 : Addr} (X : K.In h) (G : h.Ns mainGlobals mg) (hfa : mg "law" = some (.ref fa))
    {od0 an0 od1 an1 od2 an2 od3 an3 od4 an4 od5 an5 od6 an6 od7 an7 od8 an8 od9 an9 od10 an10 od11 an11 od12 an12 od13 an13 : Option Addr} {sl0 sl1 sl2 sl3 sl4 sl5 sl6 sl7 sl8 sl9 sl10 sl11 sl12 sl13 : Array (Option Value)} {oc0 kV0 dc0 pm0 cd0 ct0 oc1 kV1 dc1 pm1 cd1 ct1 oc2 kV2 dc2 pm2 cd2 ct2 oc3 kV3 dc3 pm3 cd3 ct3 oc4 kV4 dc4 pm4 cd4 ct4 oc5 kV5 dc5 pm5 cd5 ct5 oc6 kV6 dc6 pm6 cd6 ct6 oc7 kV7 dc7 pm7 cd7 ct7 oc8 kV8 dc8 pm8 cd8 ct8 oc9 kV9 dc9 pm9 cd9 ct9 oc10 kV10 dc10 pm10 cd10 ct10 oc11 kV11 dc11 pm11 cd11 ct11 oc12 kV12 dc12 pm12 cd12 ct12 oc13 kV13 dc13 pm13 cd13 ct13 : Value}
    (a0 : PySem.W.nsIn K mainGlobals "find_ring" = some (some (.ref f0))) (l0 : K.lookup f0 = some ⟨oc0, od0, .func (PySem.W.fnOf "find_ring" "find_ring" (defArgs s_find_ring) (defBody s_find_ring) (defScope s_find_ring) .none kV0 dc0 pm0 an0 cd0 ct0), sl0⟩) (c0 : PySem.W.codeIn K cd0 "find_ring" = true) (k0 : PySem.W.keepIn K (.ref f0) = true)
    (a1 : PySem.W.nsIn K mainGlobals "_onward_arcs" = some (some (.ref f1))) (l1 : K.lookup f1 = some ⟨oc1, od1, .func (PySem.W.fnOf "_onward_arcs" "_onward_arcs" (defArgs s_onward_arcs) (defBody s_onward_arcs) (defScope s_onward_arcs) .none kV1 dc1 pm1 an1 cd1 ct1), sl1⟩) (c1 : PySem.W.codeIn K cd1 "_onward_arcs" = true) (k1 : PySem.W.keepIn K (.ref f1) = true)
    (a2 : PySem.W.nsIn K mainGlobals "_first_arcs" = some (some (.ref f2))) (l2 : K.lookup f2 = some ⟨oc2, od2, .func (PySem.W.fnOf "_first_arcs" "_first_arcs" (defArgs s_first_arcs) (defBody s_first_arcs) (defScope s_first_arcs) .none kV2 dc2 pm2 an2 cd2 ct2), sl2⟩) (c2 : PySem.W.codeIn K cd2 "_first_arcs" = true) (k2 : PySem.W.keepIn K (.ref f2) = true)
    (a3 : PySem.W.nsIn K mainGlobals "_ring_from" = some (some (.ref f3))) (l3 : K.lookup f3 = some ⟨oc3, od3, .func (PySem.W.fnOf "_ring_from" "_ring_from" (defArgs s_ring_from) (defBody s_ring_from) (defScope s_ring_from) .none kV3 dc3 pm3 an3 cd3 ct3), sl3⟩) (c3 : PySem.W.codeIn K cd3 "_ring_from" = true) (k3 : PySem.W.keepIn K (.ref f3) = true)
    (a4 : PySem.W.nsIn K mainGlobals "_law_bag" = some (some (.ref f4))) (l4 : K.lookup f4 = some ⟨oc4, od4, .func (PySem.W.fnOf "_law_bag" "_law_bag" (defArgs s_law_bag) (defBody s_law_bag) (defScope s_law_bag) .none kV4 dc4 pm4 an4 cd4 ct4), sl4⟩) (c4 : PySem.W.codeIn K cd4 "_law_bag" = true) (k4 : PySem.W.keepIn K (.ref f4) = true)
    (a5 : PySem.W.nsIn K mainGlobals "_law_draw" = some (some (.ref f5))) (l5 : K.lookup f5 = some ⟨oc5, od5, .func (PySem.W.fnOf "_law_draw" "_law_draw" (defArgs s_law_draw) (defBody s_law_draw) (defScope s_law_draw) .none kV5 dc5 pm5 an5 cd5 ct5), sl5⟩) (c5 : PySem.W.codeIn K cd5 "_law_draw" = true) (k5 : PySem.W.keepIn K (.ref f5) = true)
    (a6 : PySem.W.nsIn K mainGlobals "_law_shuffle" = some (some (.ref f6))) (l6 : K.lookup f6 = some ⟨oc6, od6, .func (PySem.W.fnOf "_law_shuffle" "_law_shuffle" (defArgs s_law_shuffle) (defBody s_law_shuffle) (defScope s_law_shuffle) .none kV6 dc6 pm6 an6 cd6 ct6), sl6⟩) (c6 : PySem.W.codeIn K cd6 "_law_shuffle" = true) (k6 : PySem.W.keepIn K (.ref f6) = true)
    (a7 : PySem.W.nsIn K mainGlobals "_law_whole" = some (some (.ref f7))) (l7 : K.lookup f7 = some ⟨oc7, od7, .func (PySem.W.fnOf "_law_whole" "_law_whole" (defArgs s_law_whole) (defBody s_law_whole) (defScope s_law_whole) .none kV7 dc7 pm7 an7 cd7 ct7), sl7⟩) (c7 : PySem.W.codeIn K cd7 "_law_whole" = true) (k7 : PySem.W.keepIn K (.ref f7) = true)
    (a8 : PySem.W.nsIn K mainGlobals "_law_same" = some (some (.ref f8))) (l8 : K.lookup f8 = some ⟨oc8, od8, .func (PySem.W.fnOf "_law_same" "_law_same" (defArgs s_law_same) (defBody s_law_same) (defScope s_law_same) .none kV8 dc8 pm8 an8 cd8 ct8), sl8⟩) (c8 : PySem.W.codeIn K cd8 "_law_same" = true) (k8 : PySem.W.keepIn K (.ref f8) = true)
    (a9 : PySem.W.nsIn K mainGlobals "_law_count" = some (some (.ref f9))) (l9 : K.lookup f9 = some ⟨oc9, od9, .func (PySem.W.fnOf "_law_count" "_law_count" (defArgs s_law_count) (defBody s_law_count) (defScope s_law_count) .none kV9 dc9 pm9 an9 cd9 ct9), sl9⟩) (c9 : PySem.W.codeIn K cd9 "_law_count" = true) (k9 : PySem.W.keepIn K (.ref f9) = true)
    (a10 : PySem.W.nsIn K mainGlobals "_law_arcs" = some (some (.ref f10))) (l10 : K.lookup f10 = some ⟨oc10, od10, .func (PySem.W.fnOf "_law_arcs" "_law_arcs" (defArgs s_law_arcs) (defBody s_law_arcs) (defScope s_law_arcs) .none kV10 dc10 pm10 an10 cd10 ct10), sl10⟩) (c10 : PySem.W.codeIn K cd10 "_law_arcs" = true) (k10 : PySem.W.keepIn K (.ref f10) = true)
    (a11 : PySem.W.nsIn K mainGlobals "_law_has_ring" = some (some (.ref f11))) (l11 : K.lookup f11 = some ⟨oc11, od11, .func (PySem.W.fnOf "_law_has_ring" "_law_has_ring" (defArgs s_law_has_ring) (defBody s_law_has_ring) (defScope s_law_has_ring) .none kV11 dc11 pm11 an11 cd11 ct11), sl11⟩) (c11 : PySem.W.codeIn K cd11 "_law_has_ring" = true) (k11 : PySem.W.keepIn K (.ref f11) = true)
    (a12 : PySem.W.nsIn K mainGlobals "_law_is_ring" = some (some (.ref f12))) (l12 : K.lookup f12 = some ⟨oc12, od12, .func (PySem.W.fnOf "_law_is_ring" "_law_is_ring" (defArgs s_law_is_ring) (defBody s_law_is_ring) (defScope s_law_is_ring) .none kV12 dc12 pm12 an12 cd12 ct12), sl12⟩) (c12 : PySem.W.codeIn K cd12 "_law_is_ring" = true) (k12 : PySem.W.keepIn K (.ref f12) = true)
    (a13 : PySem.W.nsIn K mainGlobals "law" = some (some (.ref f13))) (l13 : K.lookup f13 = some ⟨oc13, od13, .func (PySem.W.fnOf "law" "law" (defArgs s_law) (defBody s_law) (defScope s_law) .none kV13 dc13 pm13 an13 cd13 ct13), sl13⟩) (c13 : PySem.W.codeIn K cd13 "law" = true) (k13 : PySem.W.keepIn K (.ref f13) = true)
    (z_abs : PySem.W.nsIn K mainGlobals "abs" = some none)
    (z_bool : PySem.W.nsIn K mainGlobals "bool" = some none)
    (z_dict : PySem.W.nsIn K mainGlobals "dict" = some none)
    (z_enumerate : PySem.W.nsIn K mainGlobals "enumerate" = some none)
    (z_int : PySem.W.nsIn K mainGlobals "int" = some none)
    (z_isinstance : PySem.W.nsIn K mainGlobals "isinstance" = some none)
    (z_len : PySem.W.nsIn K mainGlobals "len" = some none)
    (z_list : PySem.W.nsIn K mainGlobals "list" = some none)
    (z_range : PySem.W.nsIn K mainGlobals "range" = some none)
    (z_set : PySem.W.nsIn K mainGlobals "set" = some none)
    (z_str : PySem.W.nsIn K mainGlobals "str" = some none)
    (z_tuple : PySem.W.nsIn K mainGlobals "tuple" = some none)
    : ∃ fd : FuncData, (∀ (s : Shared) (v : Value), BindsTo s fd ⟨[v], []⟩ [("script", v)]) ∧ ∀ base : Heap, K.In base → base.Ns mainGlobals mg → FnOk l.prog w K mg base CX0 8 fa fd ["script"] (spLaw K) := by
  have e := hfa.symm.trans (PySem.W.mg_of X G a13)
  cases e
  have F0 := fun_mk (st := s_find_ring) l0 c0 k0
  have b0 := F0.binds (ps := ["count", "arcs"]) fun _ _ _ _ _ _ us hl => match us, hl with | [_, _], _ => rfl
  have F1 := fun_mk (st := s_onward_arcs) l1 c1 k1
  have b1 := F1.binds (ps := ["count", "arcs"]) fun _ _ _ _ _ _ us hl => match us, hl with | [_, _], _ => rfl
  have F2 := fun_mk (st := s_first_arcs) l2 c2 k2
  have b2 := F2.binds (ps := ["count", "arcs", "alive"]) fun _ _ _ _ _ _ us hl => match us, hl with | [_, _, _], _ => rfl
  have F3 := fun_mk (st := s_ring_from) l3 c3 k3
  have b3 := F3.binds (ps := ["at", "arcs", "onward"]) fun _ _ _ _ _ _ us hl => match us, hl with | [_, _, _], _ => rfl
  have F4 := fun_mk (st := s_law_bag) l4 c4 k4
  have b4 := F4.binds (ps := ["script"]) fun _ _ _ _ _ _ us hl => match us, hl with | [_], _ => rfl
  have F5 := fun_mk (st := s_law_draw) l5 c5 k5
  have b5 := F5.binds (ps := ["bag", "many"]) fun _ _ _ _ _ _ us hl => match us, hl with | [_, _], _ => rfl
  have F6 := fun_mk (st := s_law_shuffle) l6 c6 k6
  have b6 := F6.binds (ps := ["bag", "things"]) fun _ _ _ _ _ _ us hl => match us, hl with | [_, _], _ => rfl
  have F7 := fun_mk (st := s_law_whole) l7 c7 k7
  have b7 := F7.binds (ps := ["got"]) fun _ _ _ _ _ _ us hl => match us, hl with | [_], _ => rfl
  have F8 := fun_mk (st := s_law_same) l8 c8 k8
  have b8 := F8.binds (ps := ["got", "due"]) fun _ _ _ _ _ _ us hl => match us, hl with | [_, _], _ => rfl
  have F9 := fun_mk (st := s_law_count) l9 c9 k9
  have b9 := F9.binds (ps := ["bag", "few", "most"]) fun _ _ _ _ _ _ us hl => match us, hl with | [_, _, _], _ => rfl
  have F10 := fun_mk (st := s_law_arcs) l10 c10 k10
  have b10 := F10.binds (ps := ["bag", "count"]) fun _ _ _ _ _ _ us hl => match us, hl with | [_, _], _ => rfl
  have F11 := fun_mk (st := s_law_has_ring) l11 c11 k11
  have b11 := F11.binds (ps := ["count", "arcs"]) fun _ _ _ _ _ _ us hl => match us, hl with | [_, _], _ => rfl
  have F12 := fun_mk (st := s_law_is_ring) l12 c12 k12
  have b12 := F12.binds (ps := ["arcs", "ring"]) fun _ _ _ _ _ _ us hl => match us, hl with | [_, _], _ => rfl
  have T : Txt K mg := { f_find_ring := _, fd_find_ring := _, F_find_ring := F0, g_find_ring := PySem.W.mg_of X G a0, b_find_ring := b0, f_onward_arcs := _, fd_onward_arcs := _, F_onward_arcs := F1, g_onward_arcs := PySem.W.mg_of X G a1, b_onward_arcs := b1, f_first_arcs := _, fd_first_arcs := _, F_first_arcs := F2, g_first_arcs := PySem.W.mg_of X G a2, b_first_arcs := b2, f_ring_from := _, fd_ring_from := _, F_ring_from := F3, g_ring_from := PySem.W.mg_of X G a3, b_ring_from := b3, f_law_bag := _, fd_law_bag := _, F_law_bag := F4, g_law_bag := PySem.W.mg_of X G a4, b_law_bag := b4, f_law_draw := _, fd_law_draw := _, F_law_draw := F5, g_law_draw := PySem.W.mg_of X G a5, b_law_draw := b5, f_law_shuffle := _, fd_law_shuffle := _, F_law_shuffle := F6, g_law_shuffle := PySem.W.mg_of X G a6, b_law_shuffle := b6, f_law_whole := _, fd_law_whole := _, F_law_whole := F7, g_law_whole := PySem.W.mg_of X G a7, b_law_whole := b7, f_law_same := _, fd_law_same := _, F_law_same := F8, g_law_same := PySem.W.mg_of X G a8, b_law_same := b8, f_law_count := _, fd_law_count := _, F_law_count := F9, g_law_count := PySem.W.mg_of X G a9, b_law_count := b9, f_law_arcs := _, fd_law_arcs := _, F_law_arcs := F10, g_law_arcs := PySem.W.mg_of X G a10, b_law_arcs := b10, f_law_has_ring := _, fd_law_has_ring := _, F_law_has_ring := F11, g_law_has_ring := PySem.W.mg_of X G a11, b_law_has_ring := b11, f_law_is_ring := _, fd_law_is_ring := _, F_law_is_ring := F12, g_law_is_ring := PySem.W.mg_of X G a12, b_law_is_ring := b12, n_abs := PySem.W.mg_none_of X G z_abs, n_bool := PySem.W.mg_none_of X G z_bool, n_dict := PySem.W.mg_none_of X G z_dict, n_enumerate := PySem.W.mg_none_of X G z_enumerate, n_int := PySem.W.mg_none_of X G z_int, n_isinstance := PySem.W.mg_none_of X G z_isinstance, n_len := PySem.W.mg_none_of X G z_len, n_list := PySem.W.mg_none_of X G z_list, n_range := PySem.W.mg_none_of X G z_range, n_set := PySem.W.mg_none_of X G z_set, n_str := PySem.W.mg_none_of X G z_str, n_tuple := PySem.W.mg_none_of X G z_tuple }
  exact ⟨PySem.W.fnOf "law" "law" (defArgs s_law) (defBody s_law) (defScope s_law) .none kV13 dc13 pm13 an13 cd13 ct13, fun s v => .of_eq rfl, fun base _ _ => ok_law T (fun_mk (st := s_law) l13 c13 k13)⟩
end K09
open PySem PySem.W PyProof.Rows
set_option maxHeartbeats 0 in
set_option maxRecDepth 100000 in
theorem PySem.Challenge.cw_drawnlayers_k09_rings_of_arcs_holds : PySem.Challenge.rw_drawnlayers_k09_rings_of_arcs.Holds := by
  w_on; o_law; k_head; (case hw => w_witness2)
  k_fill
  refine L2.walk_of (l := PySem.Challenge.rw_drawnlayers_k09_rings_of_arcs) (n := 63) (k := 8) (x := "script") (CX := fun _ => L2.CX0) (sp := fun w => K09.spLaw _) rfl (by decide) rfl ⟨rfl, by decide, by decide⟩ (fun w h Y => PySem.W.kIn_of Y) ?F (fun _ _ a ns hl _ hS => ⟨a, ns, rfl, hS, hl, fun _ => rfl⟩) (fun _ _ _ _ _ z => z)
  case F =>
    intro w mg fa h KX G hmg
    refine' K09.all_mk KX G hmg ?a0 ?l0 ?c0 ?k0 ?a1 ?l1 ?c1 ?k1 ?a2 ?l2 ?c2 ?k2 ?a3 ?l3 ?c3 ?k3 ?a4 ?l4 ?c4 ?k4 ?a5 ?l5 ?c5 ?k5 ?a6 ?l6 ?c6 ?k6 ?a7 ?l7 ?c7 ?k7 ?a8 ?l8 ?c8 ?k8 ?a9 ?l9 ?c9 ?k9 ?a10 ?l10 ?c10 ?k10 ?a11 ?l11 ?c11 ?k11 ?a12 ?l12 ?c12 ?k12 ?a13 ?l13 ?c13 ?k13 ?z_abs ?z_bool ?z_dict ?z_enumerate ?z_int ?z_isinstance ?z_len ?z_list ?z_range ?z_set ?z_str ?z_tuple
    (case a0 => k_is)
    (case l0 => k_is)
    (case c0 => k_is)
    (case k0 => k_is)
    (case a1 => k_is)
    (case l1 => k_is)
    (case c1 => k_is)
    (case k1 => k_is)
    (case a2 => k_is)
    (case l2 => k_is)
    (case c2 => k_is)
    (case k2 => k_is)
    (case a3 => k_is)
    (case l3 => k_is)
    (case c3 => k_is)
    (case k3 => k_is)
    (case a4 => k_is)
    (case l4 => k_is)
    (case c4 => k_is)
    (case k4 => k_is)
    (case a5 => k_is)
    (case l5 => k_is)
    (case c5 => k_is)
    (case k5 => k_is)
    (case a6 => k_is)
    (case l6 => k_is)
    (case c6 => k_is)
    (case k6 => k_is)
    (case a7 => k_is)
    (case l7 => k_is)
    (case c7 => k_is)
    (case k7 => k_is)
    (case a8 => k_is)
    (case l8 => k_is)
    (case c8 => k_is)
    (case k8 => k_is)
    (case a9 => k_is)
    (case l9 => k_is)
    (case c9 => k_is)
    (case k9 => k_is)
    (case a10 => k_is)
    (case l10 => k_is)
    (case c10 => k_is)
    (case k10 => k_is)
    (case a11 => k_is)
    (case l11 => k_is)
    (case c11 => k_is)
    (case k11 => k_is)
    (case a12 => k_is)
    (case l12 => k_is)
    (case c12 => k_is)
    (case k12 => k_is)
    (case a13 => k_is)
    (case l13 => k_is)
    (case c13 => k_is)
    (case k13 => k_is)
    (case z_abs => k_is)
    (case z_bool => k_is)
    (case z_dict => k_is)
    (case z_enumerate => k_is)
    (case z_int => k_is)
    (case z_isinstance => k_is)
    (case z_len => k_is)
    (case z_list => k_is)
    (case z_range => k_is)
    (case z_set => k_is)
    (case z_str => k_is)
    (case z_tuple => k_is)
