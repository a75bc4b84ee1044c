import PyProof.Rows.All
import Wide.All
import OpenK.AllK
import Wide.FinOn
import PySem.Challenge.RW_toldstarts_k30_states_and_formulas_told
import HandS.ForMost
import HandS.Exc
import HandS.ExcOwn
import HandS.ExcInit
import HandS.TryOnly
import HandS.WordsExc
import HandS.IsInst
import HandS.FStr
import HandS.Wide
import HandS.WideMore
import HandS.Zip
import HandS.Walk
import HandS.ReplaceLit
import HandS.ReplaceDef
import HandS.ReplaceList
import HandS.CallSlots
import HandS.TupAny
import HandS.Evl
import HandS.Codes
import PyProof.StrBlock2
import KE.KxField
import HandS.ExcField
import PyProof.FString3
import KE.GoesMore
import KE.GoesZip
import KE.GoesEnum
import HandS.Lambda
import OpenK.KMeth
import OpenK.KOps
import KE.KOpsOwn
import PyProof.InstNe
import KE.KDictPairs
import HandS.Property
import HandS.More
import HandS.SortInts
import HandS.StrMore
import HandS.RevRange
import HandS.ClsMeth
import HandS.Star
import HandS.Small
import HandS.Defaults
import HandS.Flow
import HandS.TryMany
import KE.KTryMore
import HandS.Style
import HandS.EndTab
import HandS.SetKeys
import HandS.TupMul
import HandS.RaiseMore
import HandS.HeadHook3
import PyProof.StrOps2
import PyProof.AutoSeq1
import HandS.EndOwn
set_option Elab.async false
set_option linter.all false
set_option maxRecDepth 100000
set_option maxHeartbeats 4000000
/-! A prelude over the hand layer: values' operators by match, calls bundled. -/
namespace G
open PySem PySem.Spec PyProof.Rows L2

/-- the text with these signs -/
abbrev S (l : List Nat) : Str := SX.S l
abbrev tl (x : Str) : List Nat := x.cps.toList

/-! ### calls of own defs, bundled -/
structure CallOk (P : Program) (w : World) (K : PySem.W.Frag) (mg : Str → Option Value) (base : Heap) (x : Str) (k : Nat) (ps : List Str) (sp : Sp) : Prop where
  ex : ∃ (f : Addr) (fd : FuncData), mg x = some (.ref f) ∧ PySem.W.keepIn K (.ref f) = true ∧ Binds K fd ps [] ∧ FnOk P w K mg base (L2.CX P w) k f fd ps sp
section
variable {X : Cx} {k : Nat} {ps : List Str} {sp : Sp} {x : Str} {e : Expr} {es : List Expr} {t : TA} {p pos : Pos}
theorem pe_cc {E : XK} (C : CallOk X.prog X.w X.K X.mg X.base x k ps sp) (hx : Passes (L2.CX X.prog X.w) X E) (hr : Room k X.A) (ha : PA X (e :: es) t) (hg : Gl X x := by rfl)
    (hdb : (x == ("__debug__" : Str)) = false := by decide) (he : starEach (e :: es) X.env = (false, eval e X.env) :: starEach es X.env := by rfl) (hpl : (backTo pos (starEach es X.env)).any (·.1) = false := by rfl) :
    PE X (.Call (.Name x p) (e :: es) [] pos) (tCall sp [] E t) := by
  obtain ⟨f, fd, hm, hk, hb, F⟩ := C.ex
  exact pe_call F hr hg hm hk hb .nil hx ha hdb he hpl
/-- a call of what raises nothing -/
theorem pe_c0 (C : CallOk X.prog X.w X.K X.mg X.base x k ps sp) (hr : Room k X.A) (ha : PA X (e :: es) t) (hg : Gl X x := by rfl)
    (hdb : (x == ("__debug__" : Str)) = false := by decide) (he : starEach (e :: es) X.env = (false, eval e X.env) :: starEach es X.env := by rfl) (hpl : (backTo pos (starEach es X.env)).any (·.1) = false := by rfl) :
    PE X (.Call (.Name x p) (e :: es) [] pos) (tCall sp [] E0 t) := pe_cc C passL hr ha hg hdb he hpl
end

/-- a module's number -/
theorem pe_gI {X : Cx} {x : Str} {n : Int} {pos : Pos} (hm : ∃ t, X.mg x = some (.int n t)) (hg : Gl X x := by rfl) (hd : (x == ("__debug__" : Str)) = false := by decide) : PE X (.Name x pos) (tC (.int n)) := by
  obtain ⟨t, h⟩ := hm
  exact pe_glob hg h ⟨t, rfl⟩ hd
/-! ### operators by the values' kinds -/
section
variable {X : Cx}
def rAddG (K : PySem.W.Frag) : R2 := fun x y H Q => match x, y with
  | .int i, .int j => Q (.int (i + j)) H
  | .str a, .str b => a.length + b.length ≤ sizeLine ∧ Q (.str (a ++ b)) H
  | .ref p, .ref q => (∃ xs ys, H p = some (.lst xs) ∧ H q = some (.lst ys) ∧ xs.length + ys.length ≤ sizeLine ∧ ∀ r, H r = none → Q (.ref r) (upd H r (.lst (xs ++ ys)))) ∨ rCatA K x y H Q
  | _, _ => False
theorem op_addG : OpR X (binaryOp .Add) (rAddG X.K) := by
  intro pins s σ H x y v u Q I rx ry h
  cases x <;> cases y <;> first
    | exact False.elim h
    | exact op_add pins s σ H _ _ v u Q I rx ry ⟨_, _, rfl, rfl, h⟩
    | exact op_add_str pins s σ H _ _ v u Q I rx ry ⟨_, _, rfl, rfl, h⟩
    | exact h.elim (fun ⟨xs, ys, h1, h2, h3, h4⟩ => op_cat pins s σ H _ _ v u Q I rx ry ⟨_, _, xs, ys, rfl, rfl, h1, h2, h3, h4⟩) (fun h => op_catA pins s σ H _ _ v u Q I rx ry h)
def rSubG : R2 := fun x y H Q => match x, y with
  | .int i, .int j => Q (.int (i - j)) H
  | _, _ => False
theorem op_subG : OpR X (binaryOp .Sub) rSubG := by
  intro pins s σ H x y v u Q I rx ry h
  cases x <;> cases y <;> first
    | exact False.elim h
    | exact op_sub pins s σ H _ _ v u Q I rx ry ⟨_, _, rfl, rfl, h⟩
theorem op_mul_str : OpR X (binaryOp .Mult) (fun x y H Q => ∃ a n, x = .str a ∧ y = .int n ∧ MulOk a n ∧ Q (.str (Txt.mul a n)) H) := by
  intro pins s σ H x y v u Q I rx ry h
  obtain ⟨a, n, rfl, rfl, hz, q⟩ := h
  obtain ⟨t, rfl⟩ := rx
  obtain ⟨t', rfl⟩ := ry
  exact SB.mul hz fun t' k => ⟨.str _, H, I.tok _, ⟨_, rfl⟩, q⟩
def rMulG : R2 := fun x y H Q => match x, y with
  | .int i, .int j => (CMul i j ∨ CMulW i j) ∧ Q (.int (i * j)) H
  | .str a, .int n => MulOk a n ∧ Q (.str (Txt.mul a n)) H
  | .ref l, .int k => ∃ xs, H l = some (.lst xs) ∧ -(2 ^ 63) ≤ k ∧ k < 2 ^ 63 ∧ xs.length * k.toNat ≤ sizeLine ∧ ∀ p, H p = none → Q (.ref p) (upd H p (.lst (List.replicate k.toNat xs).flatten))
  | _, _ => False
theorem op_mulG : OpR X (binaryOp .Mult) rMulG := by
  intro pins s σ H x y v u Q I rx ry h
  cases x <;> cases y <;> first
    | exact False.elim h
    | exact h.1.elim (fun c => op_mul pins s σ H _ _ v u Q I rx ry ⟨_, _, rfl, rfl, c, h.2⟩) (fun c => op_mulW pins s σ H _ _ v u Q I rx ry ⟨_, _, rfl, rfl, c, h.2⟩)
    | exact op_mul_str pins s σ H _ _ v u Q I rx ry ⟨_, _, rfl, rfl, h.1, h.2⟩
    | exact (let ⟨xs, h1, h2, h3, h4, h5⟩ := h; op_rep pins s σ H _ _ v u Q I rx ry ⟨_, _, xs, rfl, rfl, h1, h2, h3, h4, h5⟩)
def rModG : R2 := fun x y H Q => match x, y with
  | .int i, .int j => 0 < j ∧ Q (.int (i % j)) H
  | _, _ => False
theorem op_modG : OpR X (binaryOp .Mod) rModG := by
  intro pins s σ H x y v u Q I rx ry h
  cases x <;> cases y <;> first
    | exact False.elim h
    | exact op_mod pins s σ H _ _ v u Q I rx ry ⟨_, _, rfl, rfl, h.1, h.2⟩
def rDivG : R2 := fun x y H Q => match x, y with
  | .int i, .int j => CDivW i j ∧ Q (.int (i / j)) H
  | _, _ => False
theorem op_divG : OpR X (binaryOp .FloorDiv) rDivG := by
  intro pins s σ H x y v u Q I rx ry h
  cases x <;> cases y <;> first
    | exact False.elim h
    | exact op_fdivW pins s σ H _ _ v u Q I rx ry ⟨_, _, rfl, rfl, h.1, h.2⟩
def rPowG : R2 := fun x y H Q => match x, y with
  | .int i, .int j => CPow i j ∧ Q (.int (i ^ j.toNat)) H
  | _, _ => False
theorem op_powG : OpR X (binaryOp .Pow) rPowG := by
  intro pins s σ H x y v u Q I rx ry h
  cases x <;> cases y <;> first
    | exact False.elim h
    | exact op_pow pins s σ H _ _ v u Q I rx ry ⟨_, _, rfl, rfl, h.1, h.2⟩

/-! ### comparisons -/
def rLtG : R2 := fun x y H Q => match x, y with
  | .int i, .int j => Q (.bl (decide (i < j))) H
  | .str a, .str b => Q (.bl (decide (tl a < tl b))) H
  | _, _ => False
theorem op_ltG : OpR X (compareOp .Lt) rLtG := by
  intro pins s σ H x y v u Q I rx ry h
  cases x <;> cases y <;> first
    | exact False.elim h
    | exact op_lt pins s σ H _ _ v u Q I rx ry ⟨_, _, rfl, rfl, h⟩
    | exact op_lt_str pins s σ H _ _ v u Q I rx ry ⟨_, _, rfl, rfl, h⟩
def rLeG : R2 := fun x y H Q => match x, y with
  | .int i, .int j => Q (.bl (decide (i ≤ j))) H
  | .str a, .str b => Q (.bl (!decide (tl b < tl a))) H
  | _, _ => False
theorem op_leG : OpR X (compareOp .LtE) rLeG := by
  intro pins s σ H x y v u Q I rx ry h
  cases x <;> cases y <;> first
    | exact False.elim h
    | exact op_le pins s σ H _ _ v u Q I rx ry ⟨_, _, rfl, rfl, h⟩
    | exact op_le_str pins s σ H _ _ v u Q I rx ry ⟨_, _, rfl, rfl, h⟩
def rGtG : R2 := fun x y H Q => match x, y with
  | .int i, .int j => Q (.bl (decide (j < i))) H
  | .str a, .str b => Q (.bl (decide (tl b < tl a))) H
  | _, _ => False
theorem op_gtG : OpR X (compareOp .Gt) rGtG := by
  intro pins s σ H x y v u Q I rx ry h
  cases x <;> cases y <;> first
    | exact False.elim h
    | exact op_gt pins s σ H _ _ v u Q I rx ry ⟨_, _, rfl, rfl, h⟩
    | exact op_gt_str pins s σ H _ _ v u Q I rx ry ⟨_, _, rfl, rfl, h⟩
def rGeG : R2 := fun x y H Q => match x, y with
  | .int i, .int j => Q (.bl (decide (j ≤ i))) H
  | .str a, .str b => Q (.bl (!decide (tl a < tl b))) H
  | _, _ => False
theorem op_geG : OpR X (compareOp .GtE) rGeG := by
  intro pins s σ H x y v u Q I rx ry h
  cases x <;> cases y <;> first
    | exact False.elim h
    | exact op_ge pins s σ H _ _ v u Q I rx ry ⟨_, _, rfl, rfl, h⟩
    | exact op_ge_str pins s σ H _ _ v u Q I rx ry ⟨_, _, rfl, rfl, h⟩
def rEqG (K : PySem.W.Frag) : R2 := fun x y H Q => match x, y with
  | .int i, .int j => Q (.bl (decide (i = j))) H
  | .str a, .str b => Q (.bl (decide (tl a = tl b))) H
  | .bl a, .bl b => Q (.bl (decide (a = b))) H
  | .ref _, _ => rEqD K x y H Q
  | _, .ref _ => rEqD K x y H Q
  | _, _ => scal x y = true ∧ Q (.bl (decide (x = y))) H
theorem str_tl {a b : Str} : decide (V.str a = V.str b) = decide (tl a = tl b) := by
  by_cases h : a = b
  · subst h
    simp
  · have h2 : ¬ tl a = tl b := fun q => h (TL.ext_tl q)
    have h1 : ¬ V.str a = V.str b := fun q => h (V.str.inj q)
    rw [decide_eq_false h1, decide_eq_false h2]
theorem int_dec {a b : Int} : decide (V.int a = V.int b) = decide (a = b) := by
  by_cases h : a = b
  · subst h
    simp
  · have h1 : ¬ V.int a = V.int b := fun q => h (V.int.inj q)
    rw [decide_eq_false h1, decide_eq_false h]
theorem bl_dec {a b : Bool} : decide (V.bl a = V.bl b) = decide (a = b) := by cases a <;> cases b <;> rfl
theorem op_eqG (hu : X.A.units + 64 < cLine) : OpR X (compareOp .Eq) (rEqG X.K) := by
  intro pins s σ H x y v u Q I rx ry h
  cases x <;> cases y <;> first
    | exact op_eq pins s σ H _ _ v u Q I rx ry ⟨rfl, by rw [int_dec]; exact h⟩
    | exact op_eq pins s σ H _ _ v u Q I rx ry ⟨rfl, by rw [str_tl]; exact h⟩
    | exact op_eq pins s σ H _ _ v u Q I rx ry ⟨rfl, by rw [bl_dec]; exact h⟩
    | exact op_eqD hu pins s σ H _ _ v u Q I rx ry h
    | exact op_eq pins s σ H _ _ v u Q I rx ry h
def rNeG (K : PySem.W.Frag) : R2 := fun x y H Q => match x, y with
  | .int i, .int j => Q (.bl (!decide (i = j))) H
  | .str a, .str b => Q (.bl (!decide (tl a = tl b))) H
  | .bl a, .bl b => Q (.bl (!decide (a = b))) H
  | .ref _, _ => rNeD K x y H Q
  | _, .ref _ => rNeD K x y H Q
  | _, _ => scal x y = true ∧ Q (.bl (!decide (x = y))) H
theorem op_neG (hu : X.A.units + 64 < cLine) : OpR X (compareOp .NotEq) (rNeG X.K) := by
  intro pins s σ H x y v u Q I rx ry h
  cases x <;> cases y <;> first
    | exact op_ne pins s σ H _ _ v u Q I rx ry ⟨rfl, by rw [int_dec]; exact h⟩
    | exact op_ne pins s σ H _ _ v u Q I rx ry ⟨rfl, by rw [str_tl]; exact h⟩
    | exact op_ne pins s σ H _ _ v u Q I rx ry ⟨rfl, by rw [bl_dec]; exact h⟩
    | exact op_neD hu pins s σ H _ _ v u Q I rx ry h
    | exact op_ne pins s σ H _ _ v u Q I rx ry h
/-- x in y, x not in y: y a list, a tuple, or a text and x one sign -/
def rInG (K : PySem.W.Frag) (neg : Bool) : R2 := fun x y H Q => match y with
  | .ref p => ∃ xs, (SqL K H p xs ∨ SqT K H p xs) ∧ flatV x = true ∧ xs.all flatV = true ∧ Q (.bl (if neg then !inV x xs else inV x xs)) H
  | .str z => ∃ c, x = .str ⟨#[c]⟩ ∧ Q (.bl (if neg then !decide (c ∈ tl z) else decide (c ∈ tl z))) H
  | _ => False
theorem op_inG : OpR X (compareOp .In) (rInG X.K false) := by
  intro pins s σ H x y v u Q I rx ry h
  cases y <;> first
    | exact False.elim h
    | exact (let ⟨xs, h1, h2, h3, h4⟩ := h; op_in_seq pins s σ H _ _ v u Q I rx ry ⟨_, xs, rfl, h1, h2, h3, h4⟩)
    | exact (let ⟨c, h1, h2⟩ := h; op_in_sign pins s σ H _ _ v u Q I rx ry ⟨c, _, h1, rfl, h2⟩)
theorem op_notInG : OpR X (compareOp .NotIn) (rInG X.K true) := by
  intro pins s σ H x y v u Q I rx ry h
  cases y <;> first
    | exact False.elim h
    | exact (let ⟨xs, h1, h2, h3, h4⟩ := h; op_notIn_seq pins s σ H _ _ v u Q I rx ry ⟨_, xs, rfl, h1, h2, h3, h4⟩)
    | exact (let ⟨c, h1, h2⟩ := h; op_notIn_sign pins s σ H _ _ v u Q I rx ry ⟨c, _, h1, rfl, h2⟩)

/-! ### subscripts, slices -/
def rIxG (K : PySem.W.Frag) : R2 := fun x y H Q => match x, y with
  | .str z, .int i => z.length ≤ sizeLine ∧ ∃ c, atI (tl z) i = some c ∧ Q (.str (S [c])) H
  | .ref p, .int i => ∃ xs v, (SqL K H p xs ∨ SqT K H p xs) ∧ atI xs i = some v ∧ Q v H
  | _, _ => False
theorem ix_G : IxR X (rIxG X.K) := by
  intro a b pins s σ H x y v u Q I rx ry h hs
  cases x <;> cases y <;> first
    | exact False.elim h
    | exact (let ⟨h0, c, h1, h2⟩ := h; ix_str a b pins s σ H _ _ v u Q I rx ry ⟨_, _, c, rfl, rfl, h0, h1, h2⟩ hs)
    | exact (let ⟨xs, z, h1, h2, h3⟩ := h; h1.elim (fun h1 => ix_list a b pins s σ H _ _ v u Q I rx ry ⟨_, xs, _, z, rfl, rfl, h1, h2, h3⟩ hs) (fun h1 => ix_tup a b pins s σ H _ _ v u Q I rx ry ⟨_, xs, _, z, rfl, rfl, h1, h2, h3⟩ hs))
def rSlG (K : PySem.W.Frag) : V → Option Int → Option Int → Hp → VK → Prop := fun x lo hi H Q => match x with
  | .str z => z.length ≤ sizeLine ∧ Q (.str (cutS z lo hi)) H
  | .ref a => (∃ xs, SqL K H a xs ∧ ∀ p, H p = none → Q (.ref p) (upd H p (.lst (cutV xs lo hi)))) ∨ rSlT K x lo hi H Q
  | _ => False
theorem sl_G : SlR X (rSlG X.K) := by
  intro pins s σ H x v vl vu lo hi sl Q I rx hs pl pu h
  cases x <;> first
    | exact False.elim h
    | exact sl_str pins s σ H _ v vl vu lo hi sl Q I rx hs pl pu ⟨_, rfl, h.1, h.2⟩
    | exact h.elim (fun ⟨xs, h1, h2⟩ => sl_list pins s σ H _ v vl vu lo hi sl Q I rx hs pl pu ⟨_, xs, rfl, h1, h2⟩) (fun h => sl_tup pins s σ H _ v vl vu lo hi sl Q I rx hs pl pu h)

/-! ### built-in functions -/
def rLenG (K : PySem.W.Frag) : List V → Hp → VK → Prop := fun vs H Q => match vs with
  | [.str z] => z.length ≤ sizeLine ∧ Q (.int z.length) H
  | [.ref p] => ∃ ys, (SqL K H p ys ∨ SqT K H p ys) ∧ Q (.int ys.length) H
  | _ => False
theorem call_lenG : CallR X (.builtin "len") (rLenG X.K) := by
  intro pins s σ H xs us Q I r h
  match xs, h with
  | [.str z], h => exact call_len_str pins s σ H _ us Q I r ⟨z, rfl, h.1, h.2⟩
  | [.ref p], h => exact (let ⟨ys, h1, h2⟩ := h; call_len_seq pins s σ H _ us Q I r ⟨p, ys, rfl, h1, h2⟩)
def rIntG : List V → Hp → VK → Prop := fun vs H Q => match vs with
  | [.int i] => Q (.int i) H
  | [.bl b] => Q (.int (if b then 1 else 0)) H
  | [.str a] => ∃ n, PySem.intText? a = some n ∧ a.length ≤ 640 ∧ Q (.int n) H
  | _ => False
theorem call_intG : CallR X (.type "int") rIntG := by
  intro pins s σ H xs us Q I r h
  match xs, h with
  | [.int i], h => exact call_int1 pins s σ H _ us Q I r (.inl ⟨i, rfl, h⟩)
  | [.bl b], h => exact call_int1 pins s σ H _ us Q I r (.inr ⟨b, rfl, h⟩)
  | [.str a], h => exact (let ⟨n, h1, h2, h3⟩ := h; call_int_str pins s σ H _ us Q I r ⟨a, n, rfl, h1, h2, h3⟩)
def rAbsG : List V → Hp → VK → Prop := fun vs H Q => match vs with
  | [.int i] => Q (.int (if i < 0 then -i else i)) H
  | _ => False
theorem call_absG : CallR X (.builtin "abs") rAbsG := by
  intro pins s σ H xs us Q I r h
  match xs, h with
  | [.int i], h => exact call_abs pins s σ H _ us Q I r ⟨i, rfl, h⟩
def rMaxG : List V → Hp → VK → Prop := fun vs H Q => match vs with
  | [.int i, .int j] => Q (.int (if j > i then j else i)) H
  | _ => False
theorem call_maxG (hc : X.calm = true) : CallR X (.builtin "max") rMaxG := by
  intro pins s σ H xs us Q I r h
  match xs, h with
  | [.int i, .int j], h => exact call_max2 hc pins s σ H _ us Q I r ⟨i, j, rfl, h⟩
def rMinG : List V → Hp → VK → Prop := fun vs H Q => match vs with
  | [.int i, .int j] => Q (.int (if j < i then j else i)) H
  | _ => False
theorem call_minG (hc : X.calm = true) : CallR X (.builtin "min") rMinG := by
  intro pins s σ H xs us Q I r h
  match xs, h with
  | [.int i, .int j], h => exact call_min2 hc pins s σ H _ us Q I r ⟨i, j, rfl, h⟩
def rStrG : List V → Hp → VK → Prop := fun vs H Q => match vs with
  | [.int i] => i.natAbs.log2 < 1920 ∧ Q (.str (Str.ofString (toString i))) H
  | _ => False
theorem call_strG : CallR X (.type "str") rStrG := by
  intro pins s σ H xs us Q I r h
  match xs, h with
  | [.int i], h => exact call_str_int pins s σ H _ us Q I r ⟨i, rfl, h.1, h.2⟩
def rDivmodG : List V → Hp → VK → Prop := fun vs H Q => match vs with
  | [.int i, .int j] => CDiv i j ∧ ∀ p, H p = none → Q (.ref p) (upd H p (.tup [.int (i / j), .int (i % j)]))
  | _ => False
theorem call_divmodG : CallR X (.builtin "divmod") rDivmodG := by
  intro pins s σ H xs us Q I r h
  match xs, h with
  | [.int i, .int j], h => exact call_divmod pins s σ H _ us Q I r ⟨i, j, rfl, h.1, h.2⟩
/-- isinstance(x, T), T built-in, x flat -/
def tyOf : V → String
  | .non => "NoneType" | .bl _ => "bool" | .int _ => "int" | .str _ => "str" | _ => ""
def rIsiG : List V → Hp → VK → Prop := fun vs H Q => match vs with
  | [x, .ty n] => flatV x = true ∧ tyOf x ≠ "" ∧ ∃ b, kitB (tyOf x) n = some b ∧ Q (.bl b) H
  | _ => False
theorem call_isiG : CallR X (.builtin "isinstance") rIsiG := by
  intro pins s σ H xs us Q I r h
  match xs, h with
  | [x, .ty n], h =>
    obtain ⟨h0, h1, b, h2, h3⟩ := h
    refine call_isi pins s σ H _ us Q I r ⟨x, .ty n, .type (tyOf x), .type n, b, rfl, .ty n, ?_, kit_ty h2, h3⟩
    cases x with
    | non => exact .base .non
    | bl b => exact .base (.bl b)
    | int i => exact .base (.int i)
    | str z => exact .base (.str z)
    | _ => exact absurd rfl h1
/-- a value's truth, flat ones by match -/
def tTruG (K : PySem.W.Frag) (ta : TE) : TT := fun σ H Q => ta σ H fun x H' => match x with
  | .bl b => Q b H'
  | .int i => Q (i != 0) H'
  | .non => Q false H'
  | _ => ∃ k, TruV K x H' k ∧ Q k H'
theorem pt_truG {a : Expr} {ta : TE} (ha : PE X a ta) (he : ∀ whole, isTrue a X.env whole = (do let v ← whole; standAt a.pos; holding [v] (truthy v)) := by intro _; rfl) :
    PT X a (tTruG X.K ta) := by
  refine ⟨fun pins s σ H Q I h => ?_⟩
  refine isTrue_plain (thn (ha.run pins s σ H _ I h) fun v s1 ⟨x, H1, I1, r1, q1⟩ => tru_ok pins s1 σ H1 x v Q I1 r1 ?_) (he _)
  cases x <;> first
    | exact ⟨_, rfl, q1⟩
    | exact q1
end
end G
namespace G
open PySem PySem.Spec PyProof.Rows L2
theorem cx_K {CX : CXT} {P : Program} {w : World} {K : PySem.W.Frag} {mg : Str → Option Value} {base : Heap} {N : List Str} {qual : Str} {scope : Scope} {f : Addr} {cd : Value} {A : Around} {outer : List Env} {s : Shared} {H : Hp} {E : XK} :
    (cxOf CX P w K mg base N qual scope f cd A outer s H E).K = K := rfl
/-! while, by a word and a measure, its test read at the word -/
theorem wh {c : TT} {tb : TS} {D : Ends} {σ : L2.St} {H : Hp} (Pv : L2.St → Hp → Prop) (μ : L2.St → Hp → Nat) (h0 : Pv σ H)
    (hs : ∀ σ H, Pv σ H → c σ H fun b H1 => if b = true then ∃ N : L2.St → Hp → Prop, (∀ σ' H', N σ' H' → ∃ m', m' < μ σ H ∧ (m' = μ σ' H' ∧ Pv σ' H')) ∧ tb { D with nx := N, ct := N, bk := D.nx } σ H1 else D.nx σ H1) :
    tWhile c tb D σ H := by
  refine ⟨fun m σ H => m = μ σ H ∧ Pv σ H, ⟨_, rfl, h0⟩, ?_⟩
  rintro m σ H ⟨rfl, p⟩
  exact hs σ H p
theorem wn {tb : TS} {D : Ends} {σ σ0 : L2.St} {H H0 : Hp} {B : L2.St → Hp → Prop} {Pv : L2.St → Hp → Prop} {μ : L2.St → Hp → Nat} {m : Nat}
    (h : tb { D with nx := fun σ' H' => μ σ' H' < m ∧ Pv σ' H', ct := fun σ' H' => μ σ' H' < m ∧ Pv σ' H', bk := B } σ H) :
    ∃ N : L2.St → Hp → Prop, (∀ σ' H', N σ' H' → ∃ m', m' < m ∧ (m' = μ σ' H' ∧ Pv σ' H')) ∧ tb { D with nx := N, ct := N, bk := B } σ H :=
  ⟨_, fun σ' H' q => ⟨_, q.1, rfl, q.2⟩, h⟩
/-! texts -/
theorem tl_S (l : List Nat) : tl (S l) = l := rfl
theorem S_tl (x : Str) : S (tl x) = x := SX.S_tl x
theorem len_tl (x : Str) : x.length = (tl x).length := TL.len_tl x
theorem len_S (l : List Nat) : (S l).length = l.length := SX.S_len l
theorem tl_cat (x y : Str) : tl (x ++ y) = tl x ++ tl y := TL.tl_append x y
theorem tl_cut (z : Str) (i j : Nat) : tl (cutS z (some (i : Int)) (some (j : Int))) = ((tl z).drop i).take (j - i) := by
  have h1 : HT.sIx z.length 0 (some (i : Int)) = min i z.length := HT.sIx_nat z.length 0 i
  have h2 : HT.sIx z.length z.length (some (j : Int)) = min j z.length := HT.sIx_nat z.length z.length j
  show ((tl z).drop _).take _ = _
  rw [h1, h2, len_tl]
  by_cases hi : i ≤ (tl z).length
  · rw [Nat.min_eq_left hi]
    by_cases hj : j ≤ (tl z).length
    · rw [Nat.min_eq_left hj]
    · rw [Nat.min_eq_right (show (tl z).length ≤ j by omega), List.take_of_length_le (by rw [List.length_drop]; omega), List.take_of_length_le (by rw [List.length_drop]; omega)]
  · rw [Nat.min_eq_right (show (tl z).length ≤ i by omega), List.drop_eq_nil_of_le (Nat.le_refl _), List.drop_eq_nil_of_le (show (tl z).length ≤ i by omega), List.take_nil, List.take_nil]
theorem tl_cut0 (z : Str) (j : Nat) : tl (cutS z none (some (j : Int))) = (tl z).take j := by
  have h1 : HT.sIx z.length 0 none = 0 := HT.sIx_none ..
  have h2 : HT.sIx z.length z.length (some (j : Int)) = min j z.length := HT.sIx_nat z.length z.length j
  show ((tl z).drop _).take _ = _
  rw [h1, h2, len_tl, List.drop_zero, Nat.sub_zero]
  by_cases hj : j ≤ (tl z).length
  · rw [Nat.min_eq_left hj]
  · rw [Nat.min_eq_right (show (tl z).length ≤ j by omega), List.take_of_length_le (by omega), List.take_of_length_le (by omega)]
theorem tl_cut1 (z : Str) (i : Nat) : tl (cutS z (some (i : Int)) none) = (tl z).drop i := by
  have h1 : HT.sIx z.length 0 (some (i : Int)) = min i z.length := HT.sIx_nat z.length 0 i
  have h2 : HT.sIx z.length z.length none = z.length := HT.sIx_none ..
  show ((tl z).drop _).take _ = _
  rw [h1, h2, len_tl]
  by_cases hi : i ≤ (tl z).length
  · rw [Nat.min_eq_left hi, List.take_of_length_le (by rw [List.length_drop]; omega)]
  · rw [Nat.min_eq_right (show (tl z).length ≤ i by omega), List.drop_eq_nil_of_le (Nat.le_refl _), List.drop_eq_nil_of_le (show (tl z).length ≤ i by omega), List.take_nil]
theorem str_eta {x y : Str} (h : tl x = tl y) : x = y := TL.ext_tl h
end G
namespace G
open PySem PySem.Spec PyProof.Rows L2
theorem line_of {n : Nat} (h : n ≤ 100000) : n ≤ sizeLine := Nat.le_trans h (by decide)
/-- a next turn's word, chosen -/
theorem exN {R : L2.St → Hp → Prop} {a : L2.St} {b : Hp} (h : R a b) : ∃ N : L2.St → Hp → Prop, (∀ σ' H', N σ' H' → R σ' H') ∧ N a b := ⟨R, fun _ _ x => x, h⟩
theorem exN_iff {R : L2.St → Hp → Prop} {a : L2.St} {b : Hp} : (∃ N : L2.St → Hp → Prop, (∀ σ' H', N σ' H' → R σ' H') ∧ N a b) ↔ R a b := ⟨fun ⟨_, h, x⟩ => h _ _ x, exN⟩
/-- while, the word by the measure -/
theorem whm {c : TT} {tb : TS} {D : Ends} {σ : L2.St} {H : Hp} (Pv : Nat → L2.St → Hp → Prop) (m0 : Nat) (h0 : Pv m0 σ H)
    (hs : ∀ m σ H, Pv m σ H → c σ H fun b H1 => if b = true then ∃ N : L2.St → Hp → Prop, (∀ σ' H', N σ' H' → ∃ m', m' < m ∧ Pv m' σ' H') ∧ tb { D with nx := N, ct := N, bk := D.nx } σ H1 else D.nx σ H1) :
    tWhile c tb D σ H := ⟨Pv, ⟨m0, h0⟩, hs⟩
theorem sameI {H : Hp} {p : Addr} {o : HO} (h : H p = none) : Same H (upd H p o) := fun b u e => by
  rw [upd_ne (ne_of_none e h)]
  exact e
end G
namespace G
theorem dec1 (c j : Nat) : decide (tl (S [c]) = tl (S [j])) = decide (c = j) := by
  show decide ([c] = [j]) = _
  simp
end G
namespace G
open PySem PySem.Spec PyProof.Rows L2
/-! an own error class with one field -/
def spInit (C : Addr) (f : Str) : Sp := fun vs H Q _ => match vs with
  | [.ref a, v] => H a = some (exo a C none) ∧ ∀ dx, H dx = none → dx ≠ a → Q .non (upd (upd H dx (exd dx [(f, v)])) a (exo a C (some dx)))
  | _ => False
/-- what the caller of a def that raises it gets -/
def PErr (C : Addr) (f : Str) (v : V) (H : Hp) (E : XK) : Prop := ∀ d H', Same H H' → H d = none → H' d = some (.xd [(f, v)]) → E (.ref C) (some d) H'
structure ErrOk (P : Program) (w : World) (K : PySem.W.Frag) (mg : Str → Option Value) (base : Heap) (x f : Str) (C : Addr) : Prop where
  gC : mg x = some (.ref C)
  ox : OexC K C
  xf : XfC K C
  no : PySem.W.findIn K (.ref C) f = some none
  self : PySem.W.exmOne K (.ref C) (.ref C) = some true
  ini : ∃ (fI : Addr) (fd : FuncData) (ps : List Str), PySem.W.findIn K (.ref C) "__init__" = some (some (.ref fI)) ∧ PySem.W.typeIn K (.ref fI) = some (.type "function") ∧ FnOk P w K mg base (L2.CX P w) 1 fI fd ps (spInit C f) ∧ Binds K fd ps []
def rMk (C : Addr) (f : Str) (vs : List V) (H1 : Hp) (Q : XK) : Prop := vs.length ≤ 1000 ∧ ∀ a, H1 a = none → spInit C f (.ref a :: (vs ++ [])) (upd H1 a (exo a C none))
  (fun v H2 => v = .non ∧ ∃ (d : Addr) (fs : List (Str × V)), H2 a = some (exo a C (some d)) ∧ H2 d = some (exd d fs) ∧ H1 d = none ∧ Q (.ref C) (some d) (upd (del H2 a) d (.xd fs))) (fun _ _ _ => False)
theorem rMk_of {C : Addr} {f : Str} {v : V} {H : Hp} {Q : XK} (h : PErr C f v H Q) : rMk C f [v] H Q := by
  refine ⟨by show 1 ≤ 1000; decide, fun a ha => ?_⟩
  refine ⟨upd_same, fun dx hdx hne => ⟨rfl, dx, [(f, v)], upd_same, ?_, ?_, ?_⟩⟩
  · rw [upd_ne hne, upd_same]
  · rw [upd_ne hne] at hdx
    exact hdx
  · rw [upd_ne hne] at hdx
    refine h dx _ (fun b o e => ?_) hdx upd_same
    have h1 : b ≠ dx := ne_of_none e hdx
    have h2 : b ≠ a := ne_of_none e ha
    rw [upd_ne h1, del_ne h2, upd_ne h2, upd_ne h1, upd_ne h2]
    exact e
def tRaiseC (C : Addr) (f : Str) (W : WX) (ta : TA) : TS := fun _ σ H => ta σ H fun vs H1 => rMk C f vs H1 fun cls d H' => W cls d σ H'
theorem ps_raiseC {X : Cx} {x f : Str} {C : Addr} {W : WX} {a : Expr} {ta : TA} {p pos pos2 : Pos} (R : ErrOk X.prog X.w X.K X.mg X.base x f C) (hr : Room 2 X.A) (tk : Takes X W) (ha : PA X [a] ta) (hc : X.calm = true := by rfl) (hg : Gl X x := by rfl)
    (hdb : (x == ("__debug__" : Str)) = false := by decide) (he : starEach [a] X.env = (false, eval a X.env) :: starEach [] X.env := by rfl) (hpl : (backTo pos (starEach [] X.env)).any (·.1) = false := by rfl) :
    PS X (.Raise (some (.Call (.Name x p) [a] [] pos)) none pos2) (tRaiseC C f W ta) := by
  obtain ⟨fI, fd, ps, h1, h2, F, hb⟩ := R.ini
  have E0' : Passes (L2.CX X.prog X.w) X (fun _ _ _ => False) := passL
  exact ps_raise hc tk (pmk_oex R.ox h1 h2 F hr hb .nil E0' hg R.gC ha hdb he hpl)
end G
namespace G
open PySem PySem.Spec PyProof.Rows L2
section
variable {i : Int} {z : Str} {k : Bool} {H : Hp} {Q : VK}
theorem kit_ii : kitB "int" "int" = some true := by decide +kernel
theorem kit_ib : kitB "int" "bool" = some false := by decide +kernel
theorem kit_ss : kitB "str" "str" = some true := by decide +kernel
theorem isi_of {x : V} {n : String} {b : Bool} (h1 : flatV x = true) (h2 : tyOf x ≠ "") (h : kitB (tyOf x) n = some b) : rIsiG [x, .ty n] H Q ↔ Q (.bl b) H := by
  constructor
  · intro ⟨_, _, c, e, q⟩
    rw [h] at e
    cases e
    exact q
  · intro q
    exact ⟨h1, h2, b, h, q⟩
theorem isi_ii : rIsiG [.int i, .ty "int"] H Q ↔ Q (.bl true) H := isi_of rfl (show ("int" : String) ≠ "" by decide) kit_ii
theorem isi_ib : rIsiG [.int i, .ty "bool"] H Q ↔ Q (.bl false) H := isi_of rfl (show ("int" : String) ≠ "" by decide) kit_ib
theorem isi_ss : rIsiG [.str z, .ty "str"] H Q ↔ Q (.bl true) H := isi_of rfl (show ("str" : String) ≠ "" by decide) kit_ss
end
end G
namespace G
open PySem PySem.Spec PyProof.Rows L2
/-- a written dict that lacks a name, read through any view of it -/
theorem ns_lacks {K : PySem.W.Frag} {h : Heap} {ns : Addr} {m : Str → Option Value} {n : Str} (X : K.In h) (G : h.Ns ns m) (e : PySem.W.nsIn K ns n = some none) : m n = none := by
  obtain ⟨o, es, ep, ho, hd, _, hf⟩ := G
  rw [← hf n]
  unfold PySem.W.nsIn at e
  cases q : K.lookup ns with
  | none => rw [q] at e; cases e
  | some o' =>
    have h2 : h.get? ns = some o' := X _ _ q
    rw [ho] at h2
    cases h2
    obtain ⟨c, d, dt, sl⟩ := o
    have hd' : dt = .dict es ep := hd
    subst hd'
    rw [q] at e
    have e2 : (match es.toList.find? (·.key.isStr n) with
      | some e => some (some e.val)
      | none => if es.toList.any (·.refKey) then none else some none) = some none := e
    unfold nsFind findBy
    rw [← Array.find?_toList]
    cases r : es.toList.find? (·.key.isStr n) with
    | none => rfl
    | some z => rw [r] at e2; cases e2
theorem noDig {X : Cx} {pins : List (Addr × Obj)} {σ : L2.St} {H : Hp} {s : Shared} (I : Inv X pins σ H s) (e : PySem.W.nsIn X.K cStatics "sys.int_max_str_digits" = some none) : s.heap.NoDigits := by
  obtain ⟨mc, hn, _⟩ := I.nolimit
  exact ⟨mc, hn, ns_lacks I.kIn hn e⟩
/-- two digits -/
def dig2 (n : Nat) : List Nat := [48 + n / 10, 48 + n % 10]
theorem ofStr_nat : ∀ n : Fin 100, (if n.val < 10 then ([48] : List Nat) ++ tl (Str.ofString (toString (n.val : Int))) else tl (Str.ofString (toString (n.val : Int)))) = dig2 n.val := by decide +kernel
def tFmt02 (te : TE) : TE := fun σ H Q => te σ H fun x H1 => ∃ i : Nat, x = .int (i : Int) ∧ i < 100 ∧ Q (.str (S (dig2 i))) H1
theorem pe_fmtS {X : Cx} {e : Expr} {te : TE} {j : Nat} {p p2 pos : Pos} (nd : PySem.W.nsIn X.K cStatics "sys.int_max_str_digits" = some none) (he : PE X e te) :
    PE X (.FormattedValue e (-1) (some (.JoinedStr [.Constant (.str "02d") j p] p2)) pos) (tFmt02 te) := by
  refine ⟨fun pins s σ H Q I h => ?_⟩
  refine wpAny_FormattedValue_spec (thn (he.run pins s σ H _ I h) fun v s1 ⟨x, H1, I1, r1, i, ex, hi, q⟩ => ?_)
  subst ex
  obtain ⟨t, rfl⟩ := r1
  refine wpAny_JoinedStr_one ?_
  refine Calls.Constant_str ?_
  refine ⟨_, _, rfl, ?_⟩
  refine PySem.W.KXf.field_sym (W := 2) (noDig (I1.tok _) nd) (by omega) (by omega) (by decide +kernel) (by decide +kernel) (by decide +kernel) fun t' k f hlo hhi => ?_
  have hp := f.pad2 (by decide +kernel) rfl (by omega) (by omega)
  refine ⟨.str (S (dig2 i)), H1, I1.tok k, ⟨t', ?_⟩, q⟩
  have hz := ofStr_nat ⟨i, hi⟩
  have e2 : intSpecTextOf (Str.ofString "02d") (i : Int) = S (dig2 i) := by
    refine TL.ext_tl ?_
    show tl _ = dig2 i
    rw [← hz]
    show tl (intSpecTextOf (Str.ofString "02d") (i : Int)) = if i < 10 then ([48] : List Nat) ++ tl (Str.ofString (toString (i : Int))) else tl (Str.ofString (toString (i : Int)))
    have hp' : intSpecTextOf (Str.ofString "02d") (i : Int) = if decide ((i : Int) < 10) = true then (⟨#[48]⟩ : Str) ++ Str.ofString (toString (i : Int)) else Str.ofString (toString (i : Int)) := hp
    rw [hp']
    by_cases h10 : i < 10
    · rw [decide_eq_true (by omega : (i : Int) < 10), if_pos rfl, if_pos h10, tl_cat]
    · rw [decide_eq_false (by omega : ¬ (i : Int) < 10), if_neg Bool.false_ne_true, if_neg h10]
  exact congrArg (fun z => Value.str z t') e2
end G
namespace G
open PySem PySem.Spec PyProof.Rows L2
theorem gTup_of {K : PySem.W.Frag} {n : Nat} {t : TGs} {p : Addr} {σ : L2.St} {H : Hp} {Q : L2.St → Hp → Prop} {xs : List V} (h : H p = some (.tup xs)) (hn : xs.length = n) (q : t xs σ H Q) : gTup K n t (.ref p) σ H Q :=
  ⟨p, xs, rfl, SqT.of h, hn, q⟩
theorem gLst_of {K : PySem.W.Frag} {n : Nat} {t : TGs} {p : Addr} {σ : L2.St} {H : Hp} {Q : L2.St → Hp → Prop} {xs : List V} (h : H p = some (.lst xs)) (hn : xs.length = n) (q : t xs σ H Q) : gLst K n t (.ref p) σ H Q :=
  ⟨p, xs, rfl, SqL.of h, hn, q⟩
def numL (n : Nat) : List Nat := tl (Str.ofString (toString (n : Int)))
end G
namespace G
open PySem PySem.Spec PyProof.Rows L2
theorem gCons_c {t : TG} {u : TGs} {x : V} {r : List V} {σ : L2.St} {H : Hp} {Q : L2.St → Hp → Prop} : gCons t u (x :: r) σ H Q ↔ t x σ H (fun σ' H' => u r σ' H' Q) :=
  ⟨fun ⟨v, r', e, h⟩ => by cases e; exact h, fun h => ⟨_, _, rfl, h⟩⟩
theorem gNil_c {σ : L2.St} {H : Hp} {Q : L2.St → Hp → Prop} : gNil [] σ H Q ↔ Q σ H := ⟨fun h => h.2, fun h => ⟨rfl, h⟩⟩
theorem S_cat (a b : List Nat) : S a ++ S b = S (a ++ b) := SX.S_cat a b
theorem S_nil : Str.empty = S [] := rfl
theorem dig2_len (n : Nat) : (dig2 n).length = 2 := rfl
theorem numL_eq (n : Nat) : numL n = (Nat.toDigits 10 n).map Char.toNat := by
  unfold numL
  show TL.tl _ = _
  rw [TL.tl_ofString]
  show (Nat.repr n).toList.map Char.toNat = _
  rw [Nat.toList_repr]
theorem numL_len {n k : Nat} (h : n < 10 ^ k) (hk : 0 < k) : (numL n).length ≤ k := by
  rw [numL_eq, List.length_map]
  have e := (Nat.length_repr_le_iff (n := n) hk).mpr h
  rwa [← String.length_toList, Nat.toList_repr] at e
theorem toS_nat (n : Nat) : Str.ofString (toString (n : Int)) = S (numL n) := (S_tl _).symm
end G
namespace G
open PySem PySem.Spec PyProof.Rows L2
def tFmtG (te : TE) : TE := fun σ H Q => te σ H fun x H1 => match x with
  | .str y => y.length ≤ sizeLine ∧ Q (.str y) H1
  | .int i => i.natAbs.log2 < 1920 ∧ Q (.str (Str.ofString (toString i))) H1
  | _ => False
theorem pe_fmtG {X : Cx} {e : Expr} {te : TE} {pos : Pos} (he : PE X e te) : PE X (.FormattedValue e (-1) none pos) (tFmtG te) := by
  refine ⟨fun pins s σ H Q I h => ?_⟩
  refine wpAny_FormattedValue_plain (thn (he.run pins s σ H _ I h) fun v s1 hv => ?_)
  obtain ⟨x, H1, I1, r1, q⟩ := hv
  cases x with
  | str y =>
    obtain ⟨t, rfl⟩ := r1
    exact wpAny_formatField_str ⟨.str y, H1, I1, ⟨t, rfl⟩, q.2⟩ ⟨.str y, H1, I1.tok _, ⟨_, rfl⟩, q.2⟩ q.1
  | int i =>
    obtain ⟨t, rfl⟩ := r1
    exact wpAny_formatField_int q.1 ⟨.str (Str.ofString (toString i)), H1, I1.tok _, ⟨_, rfl⟩, q.2⟩
  | _ => exact False.elim q
theorem log2_small {n : Nat} (h : n < 2 ^ 60) : n.log2 < 1920 := by
  by_cases h0 : n = 0
  · subst h0
    decide
  · have := (Nat.log2_lt h0).mpr h
    omega
end G
namespace G
open PySem PySem.Spec PyProof.Rows L2
theorem PErr.mono {C : Addr} {f : Str} {v : V} {H H1 : Hp} {E : XK} (h : PErr C f v H E) (s : Same H H1) : PErr C f v H1 E := fun d H' s' n e => h d H' (s.trans s') (s.free n) e
/-- a tracked new thing is another one than what was tracked -/
theorem ne_new {H : Hp} {a p : Addr} {o : HO} (h : H a = some o) (hp : H p = none) : a ≠ p := ne_of_none h hp
theorem same_mut {H H1 : Hp} {l : Addr} {o : HO} (s : Same H H1) (n : H l = none) : Same H (upd H1 l o) := fun b u e => by
  rw [upd_ne (ne_of_none e n)]
  exact s b u e
end G
namespace G
open PySem PySem.Spec PyProof.Rows L2
/-! zip of two things, each a list or a tuple -/
def SqB (K : PySem.W.Frag) (k : Bool) (H : Hp) (a : Addr) (xs : List V) : Prop := if k = true then SqL K H a xs else SqT K H a xs
def ItB (k : Bool) (h : Heap) (it a : Addr) (i : Nat) : Prop := if k = true then h.IsListIter it a i else h.IsTupleIter it a i
def SeB (k : Bool) (h : Heap) (a : Addr) (xs : Array Value) : Prop := if k = true then h.IsList a xs else h.IsTuple a xs
theorem drawB {P : Program} {w : World} {A : Around} (hh : A.handled = none) (k : Bool) (it a : Addr) (hne : a ≠ it) (items : Array Value) :
    Draws P w A it [it, a] items.size (fun i v => items[i]? = some v) (fun i h => ItB k h it a i ∧ SeB k h a items) := by
  cases k with
  | true => exact Draws.list hh it a hne items
  | false => exact Draws.tuple hh it a hne items
theorem invB {X : Cx} {pins : List (Addr × Obj)} {σ : L2.St} {H : Hp} {s : Shared} {k : Bool} {a : Addr} {xs : List V} (I : Inv X pins σ H s) (h : SqB X.K k H a xs) : ∃ its : List Value, Vals xs its ∧ SeB k s.heap a its.toArray ∧ a < s.heap.objs.size := by
  cases k with
  | true =>
    obtain ⟨its, r, p, _⟩ := I.list h
    exact ⟨its, r, p.isList, p.lt⟩
  | false =>
    obtain ⟨its, r, p, _⟩ := I.tuple h
    obtain ⟨o, ho, _⟩ := id p
    exact ⟨its, r, p, Heap.lt_size ho⟩
theorem injB {X : Cx} {pins : List (Addr × Obj)} {σ : L2.St} {H : Hp} {s : Shared} {k : Bool} {a : Addr} {xs ys : List V} (I : Inv X pins σ H s) (h : SqB X.K k H a xs) (h' : SqB X.K k H a ys) : xs = ys := by
  cases k with
  | true => exact I.list_inj h h'
  | false => exact I.tuple_inj h h'
theorem objB {k : Bool} {h : Heap} {it a : Addr} {i : Nat} (x : ItB k h it a i) : ∃ o, h.get? it = some o ∧ ∀ v, o.data ≠ .cell v := by
  cases k with
  | true =>
    obtain ⟨o, e, _, d⟩ := (show h.IsListIter it a i from x)
    exact ⟨o, e, fun v q => by rw [d] at q; cases q⟩
  | false =>
    obtain ⟨o, e, _, d⟩ := (show h.IsTupleIter it a i from x)
    exact ⟨o, e, fun v q => by rw [d] at q; cases q⟩
theorem atB {k : Bool} {h h' : Heap} {it a : Addr} {i : Nat} (x : ItB k h it a i) (f : ∀ o, h.get? it = some o → h'.get? it = some o) : ItB k h' it a i := by
  cases k with
  | true => exact (show h.IsListIter it a i from x).at f
  | false => exact (show h.IsTupleIter it a i from x).at f
def ItzG (K : PySem.W.Frag) (k1 k2 : Bool) (a b : Addr) : It :=
  ⟨fun i H => ∃ (xs ys : List V) (x y : V), SqB K k1 H a xs ∧ SqB K k2 H b ys ∧ xs[i]? = some x ∧ ys[i]? = some y,
    fun i H v H' => ∃ T x y, v = .ref T ∧ H T = none ∧ H' = upd H T (.tup [x, y]) ∧ (∀ xs, SqB K k1 H a xs → xs[i]? = some x) ∧ ∀ ys, SqB K k2 H b ys → ys[i]? = some y,
    fun i H => ∃ xs ys : List V, SqB K k1 H a xs ∧ SqB K k2 H b ys ∧ i ≤ xs.length ∧ i ≤ ys.length ∧ (i = xs.length ∨ i = ys.length)⟩
theorem turn_zipG {P : Program} {w : World} {K : PySem.W.Frag} {elts : List Expr} {kk : Nat} {tpos : Pos} {k1 k2 : Bool} {a b z TI TO i1 i2 : Addr} (D : ZipSep2 z TI TO i1 i2 [i1, a] [i2, b]) (ai : a ≠ i1) (bi : b ≠ i2) :
    Turn P w K (.Tuple elts kk tpos) (ItzG K k1 k2 a b) [z, TI, TO, i1, i2] z (fun i h => IsZip h z TI TO .none ∧ IsTupOf2 h TI (.ref i1) (.ref i2) ∧ (∃ x y, IsTupOf2 h TO x y) ∧ ItB k1 h i1 a i ∧ ItB k2 h i2 b i) where
  mem := by simp
  obj := fun i h st c hc => by
    obtain ⟨hz, hTI, ⟨x, y, hTO⟩, h1, h2⟩ := st
    have e' : c = z ∨ c = TI ∨ c = TO ∨ c = i1 ∨ c = i2 := by simpa using hc
    rcases e' with q | q | q | q | q
    · rw [q]; exact ⟨_, hz, fun v q => nomatch q⟩
    · rw [q]; exact ⟨_, hTI, fun v q => nomatch q⟩
    · rw [q]; exact ⟨_, hTO, fun v q => nomatch q⟩
    · rw [q]; exact objB h1
    · rw [q]; exact objB h2
  keep := fun i h h' st k => by
    obtain ⟨hz, hTI, ⟨x, y, hTO⟩, h1, h2⟩ := st
    exact ⟨k z (by simp) _ hz, k TI (by simp) _ hTI, ⟨x, y, k TO (by simp) _ hTO⟩, atB h1 fun o q => k i1 (by simp) o q, atB h2 fun o q => k i2 (by simp) o q⟩
  item := by
    intro X hP hw hK hc i pins s σ H E I hf st hg
    subst hP hw hK
    obtain ⟨hz, hTI, ⟨x0, y0, hTO⟩, h1, h2⟩ := st
    obtain ⟨xs, ys, x, y, hqx, hqy, hx, hy⟩ := hg
    obtain ⟨its, rv, p, pa⟩ := invB I hqx
    obtain ⟨its2, rv2, p2, pb⟩ := invB I hqy
    obtain ⟨u, hu, ru⟩ := rv.get hx
    obtain ⟨u2, hu2, ru2⟩ := rv2.get hy
    have hzl : z < s.heap.objs.size := Heap.lt_size hz
    have hh : X.A.in1.handled = none := I.ok.hd hc
    have lx : i < its.toArray.size := (List.getElem?_eq_some_iff.mp hu).1
    have ly : i < its2.toArray.size := (List.getElem?_eq_some_iff.mp hu2).1
    refine wpAny_pyNext_zipD2_item D (drawB hh k1 i1 a ai its.toArray) (drawB hh k2 i2 b bi its2.toArray) hz hTI hTO ⟨h1, p⟩ ⟨h2, p2⟩ lx ly fun v1 v2 h' tk e1 e2 z' TO' h1' h2' hT hsz hk => ?_
    have e1' : u = v1 := by
      have q : some u = some v1 := hu.symm.trans (by simpa using e1)
      exact Option.some.inj q
    have e2' : u2 = v2 := by
      have q : some u2 = some v2 := hu2.symm.trans (by simpa using e2)
      exact Option.some.inj q
    subst e1' e2'
    refine ⟨_, rfl, wpAny_letOwnedTupleGo_zip (s := { s with heap := h', toks := tk }) z' fun h'' z'' sb => ?_⟩
    have hT2 : h''.get? s.heap.objs.size = some { cls := .type "tuple", data := .seq #[u, u2] } := (sb.2 _ (Nat.ne_of_gt hzl)).trans hT
    have new : ObjOk X.prog X.w (upd H s.heap.objs.size (.tup [x, y])) h'' s.heap.objs.size (.tup [x, y]) :=
      ⟨by show 2 ≤ sizeLine; decide, [u, u2], .cons ru (.cons ru2 .nil), ⟨_, hT2, rfl, _, rfl⟩⟩
    have I1 : Inv X pins σ (upd H s.heap.objs.size (.tup [x, y])) { s with heap := h'', toks := tk } :=
      I.turnedNew (t' := tk) (ch := [z, TI, TO, i1, i2]) (fun c o hb q => (sb.2 c (fun q' => hb (by simp [q']))).trans (hk c o (fun q' => hb (by simp [q'])) (fun q' => hb (by simp [q'])) (fun q' => hb (by simp [q'])) (fun q' => hb (by simp [q'])) q)) hf (Nat.le_refl _) new
    refine ⟨.ref s.heap.objs.size, _, I1, rfl, ⟨_, x, y, rfl, I.hok.fresh (Nat.le_refl _), rfl, fun l hl => by rw [injB I hl hqx]; exact hx, fun l hl => by rw [injB I hl hqy]; exact hy⟩, ⟨z'', ?_, ⟨u, u2, ?_⟩, ?_, ?_⟩, fun c hcm => ?_⟩
    · exact (sb.2 _ D.TIz).trans (hk _ _ D.TIz D.TITO D.TIi1 D.TIi2 hTI)
    · exact (sb.2 _ D.TOz).trans TO'
    · exact atB h1'.1 fun o q => (sb.2 _ (Ne.symm D.zi1)).trans q
    · exact atB h2'.1 fun o q => (sb.2 _ (Ne.symm D.zi2)).trans q
    · have hlt : c < s.heap.objs.size := by
        have e' : c = z ∨ c = TI ∨ c = TO ∨ c = i1 ∨ c = i2 := by simpa using hcm
        rcases e' with q | q | q | q | q
        · rw [q]; exact hzl
        · rw [q]; exact Heap.lt_size hTI
        · rw [q]; exact Heap.lt_size hTO
        · rw [q]; obtain ⟨_, e1, _⟩ := objB h1; exact Heap.lt_size e1
        · rw [q]; obtain ⟨_, e2, _⟩ := objB h2; exact Heap.lt_size e2
      rw [upd_ne (Nat.ne_of_lt hlt)]
      exact (hf c hcm).1
  done := by
    intro X hP hw hK hc i pins s σ H E I hf st hg
    subst hP hw hK
    obtain ⟨hz, hTI, ⟨x0, y0, hTO⟩, h1, h2⟩ := st
    obtain ⟨xs, ys, hqx, hqy, b1, b2, hend⟩ := hg
    obtain ⟨its, rv, p, pa⟩ := invB I hqx
    obtain ⟨its2, rv2, p2, pb⟩ := invB I hqy
    have l1 := rv.length
    have l2 := rv2.length
    have hh : X.A.in1.handled = none := I.ok.hd hc
    exact wpAny_pyNext_zipD2_end D (drawB hh k1 i1 a ai its.toArray) (drawB hh k2 i2 b bi its2.toArray) hz hTI hTO ⟨h1, p⟩ ⟨h2, p2⟩ (by simp; omega) (by simp; omega) (by simp; omega) fun h' tk hk =>
      ⟨rfl, I.turnedL (t' := tk) (ch := [z, TI, TO, i1, i2]) (fun c o hb q =>
        hk c o (fun q' => hb (by simp [q'])) (fun q' => hb (by simp [q'])) (fun q' => hb (by simp [q'])) (fun q' => hb (by simp [q'])) q) hf⟩
  self := fun A i s Q E st h => wpAny_pyIter_zip st.1 h
def iZipG (K : PySem.W.Frag) (k1 k2 : Bool) (ta : TA) : TI := fun σ H R => ta σ H fun vs H1 => ∃ a b xs ys, vs = [.ref a, .ref b] ∧ SqB K k1 H1 a xs ∧ SqB K k2 H1 b ys ∧ R (ItzG K k1 k2 a b) H1
def beginO (k : Bool) (a : Addr) : Obj := if k = true then { cls := .type "list_iterator", data := .fields #[.ref a, .int 0 0] } else { cls := .type "tuple_iterator", data := .fields #[.ref a, .int 0 0] }
theorem beginB (k : Bool) (a : Addr) (items : Array Value) : Begins (.ref a) (beginO k a) (fun h => SeB k h a items) := by
  cases k with
  | true => exact begins_list a items
  | false => exact begins_tuple a items
theorem beginI {k : Bool} {a it : Addr} {h : Heap} (e : h.get? it = some (beginO k a)) : ItB k h it a 0 := by
  cases k with
  | true => exact ⟨_, e, rfl, rfl⟩
  | false => exact ⟨_, e, rfl, rfl⟩
theorem pi_zipG {X : Cx} {k1 k2 : Bool} {e e2 : Expr} {ta : TA} {p pos tpos : Pos} {elts : List Expr} {kk : Nat} (hg : Gl X "zip") (hm : X.mg "zip" = none) (ha : PA X [e, e2] ta)
    (hs : starEach [e, e2] X.env = (false, eval e X.env) :: starEach [e2] X.env := by rfl) (hpl : (backTo pos (starEach [e2] X.env)).any (·.1) = false := by rfl) :
    PI X (.Tuple elts kk tpos) (.Call (.Name "zip" p) [e, e2] [] pos) (iZipG X.K k1 k2 ta) := by
  refine ⟨fun pins s σ H R I h => ?_⟩
  refine Call_ (ld_blt I hg hm PyProof.Rows.boot_zip (PyProof.Rows.callWith_type1 (thn (ha.run pos pins s σ H _ I h) fun us s1 ⟨vs, H1, I1, r1, q1⟩ => ?_) hs hpl))
  obtain ⟨a, b, xs, ys, ex, hqx, hqy, q⟩ := q1
  subst ex
  cases r1 with
  | cons r rr =>
    cases rr with
    | cons r' rr =>
      cases rr
      cases r
      cases r'
      have fresh5 : ∀ c, c ∈ [s1.heap.objs.size + 4, s1.heap.objs.size + 2, s1.heap.objs.size + 3, s1.heap.objs.size, s1.heap.objs.size + 1] → FpOk X pins H1 c := fun c hcm => by
        have e' : c = s1.heap.objs.size + 4 ∨ c = s1.heap.objs.size + 2 ∨ c = s1.heap.objs.size + 3 ∨ c = s1.heap.objs.size ∨ c = s1.heap.objs.size + 1 := by simpa using hcm
        have hle : s1.heap.objs.size ≤ c := by
          rcases e' with z | z | z | z | z
          · rw [z]; exact Nat.le_add_right _ _
          · rw [z]; exact Nat.le_add_right _ _
          · rw [z]; exact Nat.le_add_right _ _
          · rw [z]; exact Nat.le_refl _
          · rw [z]; exact Nat.le_add_right _ _
        exact I1.fpOk hle (I1.hok.fresh hle)
      obtain ⟨its, rv, p1, pa⟩ := invB I1 hqx
      obtain ⟨its2, rv2, p2, pb⟩ := invB I1 hqy
      refine zip_begins2 (beginB k1 a its.toArray) (beginB k2 b its2.toArray) p1 p2 fun h' hz hTI hTO h1 h2 hsz hk => wpAny_pyIter_zip hz ?_
      have I2 : Inv X pins σ H1 { s1 with heap := h' } := I1.kept (t' := s1.toks) hk
      exact ⟨s1.heap.objs.size + 4, [s1.heap.objs.size + 4, s1.heap.objs.size + 2, s1.heap.objs.size + 3, s1.heap.objs.size, s1.heap.objs.size + 1], _, _, H1, rfl, I2,
        turn_zipG (zip_sep2 (fun c hc => by have e : c = a := by simpa using hc
                                            rw [e]; exact pa) (fun c hc => by have e : c = b := by simpa using hc
                                                                              rw [e]; exact pb)) (Nat.ne_of_lt pa) (Nat.ne_of_lt (Nat.lt_succ_of_lt pb)), ⟨hz, hTI, ⟨_, _, hTO⟩, beginI h1, beginI h2⟩, fresh5, q⟩
theorem walk_zipG {K : PySem.W.Frag} {k1 k2 : Bool} {a b : Addr} {xs ys : List V} {n : Nat} (hn : n = min xs.length ys.length) : Walk (ItzG K k1 k2 a b) n (fun H => SqB K k1 H a xs ∧ SqB K k2 H b ys) (YPair (fun i => xs[i]?) (fun i => ys[i]?)) := by
  subst hn
  refine ⟨fun i _ hi q => ?_, fun _ q => ⟨xs, ys, q.1, q.2, by omega, by omega, by omega⟩, fun i H v H' _ q y => ?_⟩
  · have h1 : i < xs.length := by omega
    have h2 : i < ys.length := by omega
    exact ⟨xs, ys, xs[i], ys[i], q.1, q.2, by simp [h1], by simp [h2]⟩
  · obtain ⟨T, x, z, h1, h2, h3, h4, h5⟩ := y
    exact ⟨T, x, z, h1, h2, h3, h4 xs q.1, h5 ys q.2⟩
end G
namespace G
open PySem PySem.Spec PyProof.Rows L2
/-- a for over J, kept closed -/
def Loop (J : It) (g : TG) (tb : TS) (D : Ends) (σ : L2.St) (H : Hp) : Prop :=
  ∃ W : Nat → Nat → L2.St → Hp → Prop, (∃ m, W 0 m σ H) ∧ ∀ i m σ H, W i m σ H →
      (J.stop i H ∧ D.nx σ H) ∨ (J.go i H ∧ ∃ N : L2.St → Hp → Prop, (∀ σ' H', N σ' H' → ∃ m', m' < m ∧ W (i + 1) m' σ' H') ∧ ∀ x H', J.yld i H x H' → g x σ H' fun σ2 H2 => tb { D with nx := N, ct := N, bk := D.nx } σ2 H2)
theorem tFor_L {wi : TI} {g : TG} {tb : TS} {D : Ends} {σ : L2.St} {H : Hp} : tFor wi g tb D σ H = wi σ H fun J H1 => Loop J g tb D σ H1 := rfl
theorem Loop.by {J : It} {n : Nat} {G : Hp → Prop} {Y : Nat → Hp → V → Hp → Prop} (w : Walk J n G Y) {g : TG} {tb : TS} {D : Ends} {σ : L2.St} {H : Hp} (Pv : Nat → L2.St → Hp → Prop) (h0 : Pv 0 σ H) (hG : ∀ i σ H, i ≤ n → Pv i σ H → G H)
    (hs : ∀ i x σ H H', i < n → Pv i σ H → Y i H x H' → g x σ H' fun σ2 H2 => tb { D with nx := Pv (i + 1), ct := Pv (i + 1), bk := D.nx } σ2 H2) (hd : ∀ σ H, Pv n σ H → D.nx σ H) : Loop J g tb D σ H := for_it w Pv h0 hG hs hd
/-- a comprehension over J, kept closed -/
def LoopC (J : It) (g : TG) (tt : TT) (te : TE) (vs : List Nat) (σ : L2.St) (H1 : Hp) (D : Addr) (Qd : Hp → Prop) : Prop :=
  ∃ W : Nat → Nat → Hp → Prop, (∃ m, W 0 m (upd H1 D (.lst []))) ∧ ∀ i m H, W i m H →
      (J.stop i H ∧ Qd H) ∨ (J.go i H ∧ ∃ Nx : Hp → Prop, (∀ H', Nx H' → ∃ m', m' < m ∧ W (i + 1) m' H') ∧ ∀ x H', J.yld i H x H' → g x (wipe σ vs) H' fun σ2 H2 => wipe σ2 vs = wipe σ vs ∧ tt σ2 H2 fun b H3 =>
        if b = true then te σ2 H3 fun y H4 => ∃ acc, H4 D = some (.lst acc) ∧ acc.length < sizeLine ∧ Nx (upd H4 D (.lst (acc ++ [y]))) else Nx H3)
theorem tLc_L {wi : TI} {g : TG} {tt : TT} {te : TE} {vs : List Nat} {σ : L2.St} {H : Hp} {Q : VK} : tLc wi g tt te vs σ H Q = wi σ H fun J H1 => ∀ D, H1 D = none → LoopC J g tt te vs σ H1 D (Q (.ref D)) := rfl
theorem LoopC.by {J : It} {n : Nat} {G : Hp → Prop} {Y : Nat → Hp → V → Hp → Prop} (w : Walk J n G Y) {g : TG} {tt : TT} {te : TE} {vs : List Nat} {σ : L2.St} {H1 : Hp} {D : Addr} {Qd : Hp → Prop} (Pv : Nat → Hp → Prop) (h0 : Pv 0 (upd H1 D (.lst []))) (hG : ∀ i H, i ≤ n → Pv i H → G H)
    (hs : ∀ i x H H', i < n → Pv i H → Y i H x H' → g x (wipe σ vs) H' fun σ2 H2 => wipe σ2 vs = wipe σ vs ∧ tt σ2 H2 fun b H3 =>
      if b = true then te σ2 H3 fun y H4 => ∃ acc, H4 D = some (.lst acc) ∧ acc.length < sizeLine ∧ Pv (i + 1) (upd H4 D (.lst (acc ++ [y]))) else Pv (i + 1) H3) (hd : ∀ H, Pv n H → Qd H) : LoopC J g tt te vs σ H1 D Qd := lc_it w Pv h0 hG hs hd
/-- the first of a list dropped -/
theorem cutV_tail (xs : List V) : cutV xs (some 1) none = xs.tail := by
  unfold cutV
  rw [HT.sIx_none]
  have h1 : HT.sIx xs.length 0 (some (1 : Int)) = min 1 xs.length := HT.sIx_nat xs.length 0 1
  rw [h1]
  cases xs with
  | nil => rfl
  | cons x xs => simp
theorem isTup_of {K : PySem.W.Frag} {H : Hp} {a : Addr} {xs : List V} (h : H a = some (.tup xs)) : SqB K false H a xs := SqT.of h
theorem isLst_of {K : PySem.W.Frag} {H : Hp} {a : Addr} {xs : List V} (h : H a = some (.lst xs)) : SqB K true H a xs := SqL.of h
theorem rSet_of {p : Addr} {k : Int} {j : Nat} {v : V} {H : Hp} {Q : Hp → Prop} {xs : List V} (h : H p = some (.lst xs)) (hj : ixN xs.length k = some j) (q : Q (upd H p (.lst (xs.set j v)))) : rSetL (.ref p) (.int k) v H Q := ⟨p, xs, k, j, rfl, rfl, h, hj, q⟩
theorem upd_upd {H : Hp} {p : Addr} {a b : HO} : upd (upd H p a) p b = upd H p b := by
  funext q
  by_cases h : q = p
  · rw [h, upd_same, upd_same]
  · rw [upd_ne h, upd_ne h, upd_ne h]
theorem mul0 : ∀ k : Fin 21, Txt.mul (Str.ofString "0") ((k.val : Nat) : Int) = S (List.replicate k.val 48) := by decide +kernel
theorem mul0_of {n : Int} {k : Nat} (e : n = (k : Int)) (h : k < 21) : Txt.mul (Str.ofString "0") n = S (List.replicate k 48) := by
  rw [e]
  exact mul0 ⟨k, h⟩
theorem numL_pos (n : Nat) : 1 ≤ (numL n).length := by
  rw [numL_eq, List.length_map]
  have : Nat.toDigits 10 n ≠ [] := Nat.toDigits_ne_nil
  cases h : Nat.toDigits 10 n with
  | nil => exact absurd h this
  | cons a b => simp
end G
namespace L2
open PySem PySem.Spec PyProof.Rows
/-- a def's body, a token out when it begins -/
theorem Fun.okT {P : Program} {w : World} {K : PySem.W.Frag} {mg : Str → Option Value} {base : Heap} {x qual : Str} {st : Stmt} {f : Addr} {fd : FuncData} {N ps : List Str} {k : Nat} {sp : Sp} (F : Fun K x qual st f fd)
    (hnc : ((defScope st).names.all fun y => y.2 != .cell) = true) (hps : 1 ≤ ps.length) (S : FnScope N ps (defScope st)) (len : ∀ vs H Q E, sp vs H Q E → vs.length = ps.length)
    (hbody : ∀ (cdv : Value) (A : Around) (outer : List Env) (s : Shared) (H : Hp) (vs : List V) (Q : VK) (E : XK), Room k (A.deeper (envOfC qual (defScope st) s.heap.objs.size f cdv)) → sp vs H Q E →
      ∃ t, PSsT (cxOf (L2.CX P w) P w K mg base N qual (defScope st) f cdv A outer s H E) (defBody st) t ∧ t { nx := fun _ H' => Q .non H', rt := Q } (start N vs) H) : FnOk P w K mg base (L2.CX P w) (k + 1) f fd ps sp := by
  obtain ⟨oc, od, kV, doc, pm, an, cdv, ct, osl, rfl, lk, hcd⟩ := F.ex
  refine fn_ofT lk hcd S (fun y hy z => ?_) hps len fun A outer s H vs Q E hr hsp => hbody cdv A outer s H vs Q E hr hsp
  have q := List.all_eq_true.mp hnc y hy
  rw [z] at q
  cases q
theorem pet_m1 {X : Cx} {o e : Expr} {to te : TE} {id : String} {name : Str} {apos pos : Pos} {r : V → List V → Hp → VK → Prop} (slot : Slot "str" name id) (ty : typeOf (.builtin id) = pure (.type "method_descriptor")) (rule : MtR X id r) (ho : PET X o to) (he : PE X e te)
    (hs : starEach [e] X.env = [(false, eval e X.env)] := by rfl) (hbase : attributeBase o name X.env (eval o X.env) = eval o X.env := by rfl) (hline : (apos.endLine == pos.line) = true := by rfl) :
    PET X (.Call (.Attribute o name apos) [e] [] pos) (tM1 r to te) := by
  intro pins s σ H Q h0 I h
  refine PySem.Call_method1 hbase hs hline (thn (ho pins s σ H _ h0 I h) fun v s1 ⟨x, H1, I1, r1, q1⟩ => ?_)
  obtain ⟨⟨a, rfl⟩, q1⟩ := q1
  obtain ⟨t, rfl⟩ := _root_.id r1
  refine ⟨"str", _, F.plainAttrs_str, slot, ty, typeIs_str _ _ _, (fun _ e => nomatch e), Calls.callWith_builtin rfl (Calls.evalArgs_plain (Calls.spliced_cons ?_))⟩
  exact thn (he.run pins s1 σ H1 _ I1 q1) fun u s2 ⟨y, H2, I2, r2, q2⟩ => Calls.spliced_nil (rule pins s2 σ H2 _ [y] _ [u] Q I2 r1 (.cons r2 .nil) q2)
end L2
namespace G
open PySem PySem.Spec PyProof.Rows L2
/-! lists of texts as data -/
theorem dp_strs {K : PySem.W.Frag} {H : Hp} : ∀ ys : List Str, DpAll K H (ys.map V.str) (ys.map PyData.str)
  | [] => .nil
  | y :: ys => .cons (.str y) (dp_strs ys)
theorem lay_strs : ∀ {ys : List Str}, (∀ y ∈ ys, PyData.strOk y = true) → PyData.canLayAll0 (ys.map PyData.str) = true
  | [], _ => by simp [PyData.canLayAll0]
  | y :: ys, h => by
    simp only [List.map_cons, PyData.canLayAll0, PyData.canLay0, Bool.and_eq_true]
    exact ⟨h y (List.mem_cons_self ..), lay_strs fun z hz => h z (List.mem_cons_of_mem _ hz)⟩
theorem depth_strs : ∀ ys : List Str, PyData.depthAll (ys.map PyData.str) = 0
  | [] => by simp [PyData.depthAll]
  | y :: ys => by simp [PyData.depthAll, PyData.depth, depth_strs ys]
theorem shaped_strs {ys : List Str} (h : ∀ y ∈ ys, PyData.strOk y = true) : SeqAt.shaped (.list (ys.map PyData.str)) = true := by
  unfold SeqAt.shaped
  rw [Bool.and_eq_true]
  refine ⟨?_, decide_eq_true ?_⟩
  · rw [PyData.canLay0]
    exact lay_strs h
  · rw [PyData.depth, depth_strs]
    decide
theorem eq_nil {K : PySem.W.Frag} {H : Hp} {a b : Addr} {ys : List Str} {Q : VK} (ha : SqL K H a (ys.map V.str)) (hb : SqL K H b []) (h : ∀ y ∈ ys, PyData.strOk y = true) (q : Q (.bl (decide (ys = []))) H) : rEqD K (.ref a) (.ref b) H Q := by
  refine ⟨_, _, .lst ha (dp_strs ys), .lst hb .nil, shaped_strs h, shaped_strs (ys := []) (fun _ h => nomatch h), ?_⟩
  cases ys with
  | nil => exact q
  | cons y ys => exact q
/-! startswith -/
theorem subAt_0 (x y : Str) : Builtin.Str.subAt x y 0 = ((tl x).take (tl y).length == tl y) := by
  unfold Builtin.Str.subAt
  have h1 : (x.cps.extract 0 (0 + y.length)).toList = (tl x).take (tl y).length := by
    rw [Array.toList_extract, List.extract_eq_drop_take]
    simp [Str.length]
  rw [← h1]
  cases h : (x.cps.extract 0 (0 + y.length) == y.cps) with
  | true => rw [eq_of_beq h]; exact (beq_self_eq_true _).symm
  | false =>
    refine (beq_eq_false_iff_ne.mpr fun e => ?_).symm
    have e2 : x.cps.extract 0 (0 + y.length) = y.cps := Array.toList_inj.mp e
    rw [e2] at h
    simp at h
theorem starts_S (a : List Nat) (y : Str) : Txt.startswith (S a) y = decide (tl y <+: a) := by
  unfold Txt.startswith
  rw [subAt_0]
  show (decide (0 + y.length ≤ (S a).length) && (a.take (tl y).length == tl y)) = _
  rw [len_tl y, len_S a]
  by_cases h : tl y <+: a
  · rw [decide_eq_true h]
    have h1 := h.length_le
    have h2 := List.prefix_iff_eq_take.mp h
    rw [decide_eq_true (by omega), ← h2]
    simp
  · rw [decide_eq_false h]
    cases h1 : (a.take (tl y).length == tl y) with
    | false => simp
    | true => exact absurd (List.prefix_iff_eq_take.mpr (eq_of_beq h1).symm) h
end G
/-! the same with the module's fragment named -/
namespace G
open PySem PySem.Spec PyProof.Rows L2
section
variable {X : Cx} (K : PySem.W.Frag)
theorem op_addK (h : X.K = K := by rfl) : OpR X (binaryOp .Add) (rAddG K) := by subst h; exact op_addG
theorem op_eqK (hu : X.A.units + 64 < cLine) (h : X.K = K := by rfl) : OpR X (compareOp .Eq) (rEqG K) := by subst h; exact op_eqG hu
theorem op_neK (hu : X.A.units + 64 < cLine) (h : X.K = K := by rfl) : OpR X (compareOp .NotEq) (rNeG K) := by subst h; exact op_neG hu
theorem op_inK (h : X.K = K := by rfl) : OpR X (compareOp .In) (rInG K false) := by subst h; exact op_inG
theorem op_notInK (h : X.K = K := by rfl) : OpR X (compareOp .NotIn) (rInG K true) := by subst h; exact op_notInG
theorem ix_K (h : X.K = K := by rfl) : IxR X (rIxG K) := by subst h; exact ix_G
theorem sl_K (h : X.K = K := by rfl) : SlR X (rSlG K) := by subst h; exact sl_G
theorem call_lenK (h : X.K = K := by rfl) : CallR X (.builtin "len") (rLenG K) := by subst h; exact call_lenG
theorem pt_truK {a : Expr} {ta : TE} (ha : PE X a ta) (h : X.K = K := by rfl) (he : ∀ whole, isTrue a X.env whole = (do let v ← whole; standAt a.pos; holding [v] (truthy v)) := by intro _; rfl) : PT X a (tTruG K ta) := by
  subst h
  exact pt_truG ha he
end
end G
/-! The readings' steps, to be taken from the outside in. -/
namespace G
open PySem PySem.Spec PyProof.Rows L2
def truR (K : PySem.W.Frag) (x : V) (H : Hp) (Q : Bool → Hp → Prop) : Prop := match x with
  | .bl b => Q b H
  | .int i => Q (i != 0) H
  | .non => Q false H
  | _ => ∃ k, TruV K x H k ∧ Q k H
def iR2 (v u : V) (H : Hp) (R : It → Hp → Prop) : Prop := ∃ i j : Int, [v, u] = [.int i, .int j] ∧ (-(2 ^ 62) ≤ i ∧ i < 2 ^ 62 ∧ -(2 ^ 62) ≤ j ∧ j < 2 ^ 62) ∧ R (Itr i (j - i).toNat) H
theorem iR2_of {i j : Int} {H : Hp} {R : It → Hp → Prop} (h : -(2 ^ 62) ≤ i ∧ i < 2 ^ 62 ∧ -(2 ^ 62) ≤ j ∧ j < 2 ^ 62) (q : R (Itr i (j - i).toNat) H) : iR2 (.int i) (.int j) H R := ⟨i, j, rfl, h, q⟩
def fmtR (x : V) (H : Hp) (Q : VK) : Prop := match x with
  | .str y => y.length ≤ sizeLine ∧ Q (.str y) H
  | .int i => i.natAbs.log2 < 1920 ∧ Q (.str (Str.ofString (toString i))) H
  | _ => False
theorem tV0 {v : V} {r : L2.St} {H : Hp} {Q : VK} : tVar 0 (some v :: r) H Q ↔ Q v H := ⟨fun ⟨_, e, h⟩ => by cases e; exact h, fun h => ⟨_, rfl, h⟩⟩
theorem gN0 {v : V} {r : L2.St} {H : Hp} {o : Option V} {Q : L2.St → Hp → Prop} : gName 0 v (o :: r) H Q ↔ Q (some v :: r) H := Iff.rfl
theorem tV1 {a0 : Option V} {v : V} {r : L2.St} {H : Hp} {Q : VK} : tVar 1 (a0 :: some v :: r) H Q ↔ Q v H := ⟨fun ⟨_, e, h⟩ => by cases e; exact h, fun h => ⟨_, rfl, h⟩⟩
theorem gN1 {a0 : Option V} {v : V} {r : L2.St} {H : Hp} {o : Option V} {Q : L2.St → Hp → Prop} : gName 1 v (a0 :: o :: r) H Q ↔ Q (a0 :: some v :: r) H := Iff.rfl
theorem tV2 {a0 a1 : Option V} {v : V} {r : L2.St} {H : Hp} {Q : VK} : tVar 2 (a0 :: a1 :: some v :: r) H Q ↔ Q v H := ⟨fun ⟨_, e, h⟩ => by cases e; exact h, fun h => ⟨_, rfl, h⟩⟩
theorem gN2 {a0 a1 : Option V} {v : V} {r : L2.St} {H : Hp} {o : Option V} {Q : L2.St → Hp → Prop} : gName 2 v (a0 :: a1 :: o :: r) H Q ↔ Q (a0 :: a1 :: some v :: r) H := Iff.rfl
theorem tV3 {a0 a1 a2 : Option V} {v : V} {r : L2.St} {H : Hp} {Q : VK} : tVar 3 (a0 :: a1 :: a2 :: some v :: r) H Q ↔ Q v H := ⟨fun ⟨_, e, h⟩ => by cases e; exact h, fun h => ⟨_, rfl, h⟩⟩
theorem gN3 {a0 a1 a2 : Option V} {v : V} {r : L2.St} {H : Hp} {o : Option V} {Q : L2.St → Hp → Prop} : gName 3 v (a0 :: a1 :: a2 :: o :: r) H Q ↔ Q (a0 :: a1 :: a2 :: some v :: r) H := Iff.rfl
theorem tV4 {a0 a1 a2 a3 : Option V} {v : V} {r : L2.St} {H : Hp} {Q : VK} : tVar 4 (a0 :: a1 :: a2 :: a3 :: some v :: r) H Q ↔ Q v H := ⟨fun ⟨_, e, h⟩ => by cases e; exact h, fun h => ⟨_, rfl, h⟩⟩
theorem gN4 {a0 a1 a2 a3 : Option V} {v : V} {r : L2.St} {H : Hp} {o : Option V} {Q : L2.St → Hp → Prop} : gName 4 v (a0 :: a1 :: a2 :: a3 :: o :: r) H Q ↔ Q (a0 :: a1 :: a2 :: a3 :: some v :: r) H := Iff.rfl
theorem tV5 {a0 a1 a2 a3 a4 : Option V} {v : V} {r : L2.St} {H : Hp} {Q : VK} : tVar 5 (a0 :: a1 :: a2 :: a3 :: a4 :: some v :: r) H Q ↔ Q v H := ⟨fun ⟨_, e, h⟩ => by cases e; exact h, fun h => ⟨_, rfl, h⟩⟩
theorem gN5 {a0 a1 a2 a3 a4 : Option V} {v : V} {r : L2.St} {H : Hp} {o : Option V} {Q : L2.St → Hp → Prop} : gName 5 v (a0 :: a1 :: a2 :: a3 :: a4 :: o :: r) H Q ↔ Q (a0 :: a1 :: a2 :: a3 :: a4 :: some v :: r) H := Iff.rfl
theorem tV6 {a0 a1 a2 a3 a4 a5 : Option V} {v : V} {r : L2.St} {H : Hp} {Q : VK} : tVar 6 (a0 :: a1 :: a2 :: a3 :: a4 :: a5 :: some v :: r) H Q ↔ Q v H := ⟨fun ⟨_, e, h⟩ => by cases e; exact h, fun h => ⟨_, rfl, h⟩⟩
theorem gN6 {a0 a1 a2 a3 a4 a5 : Option V} {v : V} {r : L2.St} {H : Hp} {o : Option V} {Q : L2.St → Hp → Prop} : gName 6 v (a0 :: a1 :: a2 :: a3 :: a4 :: a5 :: o :: r) H Q ↔ Q (a0 :: a1 :: a2 :: a3 :: a4 :: a5 :: some v :: r) H := Iff.rfl
theorem tV7 {a0 a1 a2 a3 a4 a5 a6 : Option V} {v : V} {r : L2.St} {H : Hp} {Q : VK} : tVar 7 (a0 :: a1 :: a2 :: a3 :: a4 :: a5 :: a6 :: some v :: r) H Q ↔ Q v H := ⟨fun ⟨_, e, h⟩ => by cases e; exact h, fun h => ⟨_, rfl, h⟩⟩
theorem gN7 {a0 a1 a2 a3 a4 a5 a6 : Option V} {v : V} {r : L2.St} {H : Hp} {o : Option V} {Q : L2.St → Hp → Prop} : gName 7 v (a0 :: a1 :: a2 :: a3 :: a4 :: a5 :: a6 :: o :: r) H Q ↔ Q (a0 :: a1 :: a2 :: a3 :: a4 :: a5 :: a6 :: some v :: r) H := Iff.rfl
theorem tV8 {a0 a1 a2 a3 a4 a5 a6 a7 : Option V} {v : V} {r : L2.St} {H : Hp} {Q : VK} : tVar 8 (a0 :: a1 :: a2 :: a3 :: a4 :: a5 :: a6 :: a7 :: some v :: r) H Q ↔ Q v H := ⟨fun ⟨_, e, h⟩ => by cases e; exact h, fun h => ⟨_, rfl, h⟩⟩
theorem gN8 {a0 a1 a2 a3 a4 a5 a6 a7 : Option V} {v : V} {r : L2.St} {H : Hp} {o : Option V} {Q : L2.St → Hp → Prop} : gName 8 v (a0 :: a1 :: a2 :: a3 :: a4 :: a5 :: a6 :: a7 :: o :: r) H Q ↔ Q (a0 :: a1 :: a2 :: a3 :: a4 :: a5 :: a6 :: a7 :: some v :: r) H := Iff.rfl
theorem tV9 {a0 a1 a2 a3 a4 a5 a6 a7 a8 : Option V} {v : V} {r : L2.St} {H : Hp} {Q : VK} : tVar 9 (a0 :: a1 :: a2 :: a3 :: a4 :: a5 :: a6 :: a7 :: a8 :: some v :: r) H Q ↔ Q v H := ⟨fun ⟨_, e, h⟩ => by cases e; exact h, fun h => ⟨_, rfl, h⟩⟩
theorem gN9 {a0 a1 a2 a3 a4 a5 a6 a7 a8 : Option V} {v : V} {r : L2.St} {H : Hp} {o : Option V} {Q : L2.St → Hp → Prop} : gName 9 v (a0 :: a1 :: a2 :: a3 :: a4 :: a5 :: a6 :: a7 :: a8 :: o :: r) H Q ↔ Q (a0 :: a1 :: a2 :: a3 :: a4 :: a5 :: a6 :: a7 :: a8 :: some v :: r) H := Iff.rfl
theorem tV10 {a0 a1 a2 a3 a4 a5 a6 a7 a8 a9 : Option V} {v : V} {r : L2.St} {H : Hp} {Q : VK} : tVar 10 (a0 :: a1 :: a2 :: a3 :: a4 :: a5 :: a6 :: a7 :: a8 :: a9 :: some v :: r) H Q ↔ Q v H := ⟨fun ⟨_, e, h⟩ => by cases e; exact h, fun h => ⟨_, rfl, h⟩⟩
theorem gN10 {a0 a1 a2 a3 a4 a5 a6 a7 a8 a9 : Option V} {v : V} {r : L2.St} {H : Hp} {o : Option V} {Q : L2.St → Hp → Prop} : gName 10 v (a0 :: a1 :: a2 :: a3 :: a4 :: a5 :: a6 :: a7 :: a8 :: a9 :: o :: r) H Q ↔ Q (a0 :: a1 :: a2 :: a3 :: a4 :: a5 :: a6 :: a7 :: a8 :: a9 :: some v :: r) H := Iff.rfl
theorem tV11 {a0 a1 a2 a3 a4 a5 a6 a7 a8 a9 a10 : Option V} {v : V} {r : L2.St} {H : Hp} {Q : VK} : tVar 11 (a0 :: a1 :: a2 :: a3 :: a4 :: a5 :: a6 :: a7 :: a8 :: a9 :: a10 :: some v :: r) H Q ↔ Q v H := ⟨fun ⟨_, e, h⟩ => by cases e; exact h, fun h => ⟨_, rfl, h⟩⟩
theorem gN11 {a0 a1 a2 a3 a4 a5 a6 a7 a8 a9 a10 : Option V} {v : V} {r : L2.St} {H : Hp} {o : Option V} {Q : L2.St → Hp → Prop} : gName 11 v (a0 :: a1 :: a2 :: a3 :: a4 :: a5 :: a6 :: a7 :: a8 :: a9 :: a10 :: o :: r) H Q ↔ Q (a0 :: a1 :: a2 :: a3 :: a4 :: a5 :: a6 :: a7 :: a8 :: a9 :: a10 :: some v :: r) H := Iff.rfl
theorem tV12 {a0 a1 a2 a3 a4 a5 a6 a7 a8 a9 a10 a11 : Option V} {v : V} {r : L2.St} {H : Hp} {Q : VK} : tVar 12 (a0 :: a1 :: a2 :: a3 :: a4 :: a5 :: a6 :: a7 :: a8 :: a9 :: a10 :: a11 :: some v :: r) H Q ↔ Q v H := ⟨fun ⟨_, e, h⟩ => by cases e; exact h, fun h => ⟨_, rfl, h⟩⟩
theorem gN12 {a0 a1 a2 a3 a4 a5 a6 a7 a8 a9 a10 a11 : Option V} {v : V} {r : L2.St} {H : Hp} {o : Option V} {Q : L2.St → Hp → Prop} : gName 12 v (a0 :: a1 :: a2 :: a3 :: a4 :: a5 :: a6 :: a7 :: a8 :: a9 :: a10 :: a11 :: o :: r) H Q ↔ Q (a0 :: a1 :: a2 :: a3 :: a4 :: a5 :: a6 :: a7 :: a8 :: a9 :: a10 :: a11 :: some v :: r) H := Iff.rfl
theorem tV13 {a0 a1 a2 a3 a4 a5 a6 a7 a8 a9 a10 a11 a12 : Option V} {v : V} {r : L2.St} {H : Hp} {Q : VK} : tVar 13 (a0 :: a1 :: a2 :: a3 :: a4 :: a5 :: a6 :: a7 :: a8 :: a9 :: a10 :: a11 :: a12 :: some v :: r) H Q ↔ Q v H := ⟨fun ⟨_, e, h⟩ => by cases e; exact h, fun h => ⟨_, rfl, h⟩⟩
theorem gN13 {a0 a1 a2 a3 a4 a5 a6 a7 a8 a9 a10 a11 a12 : Option V} {v : V} {r : L2.St} {H : Hp} {o : Option V} {Q : L2.St → Hp → Prop} : gName 13 v (a0 :: a1 :: a2 :: a3 :: a4 :: a5 :: a6 :: a7 :: a8 :: a9 :: a10 :: a11 :: a12 :: o :: r) H Q ↔ Q (a0 :: a1 :: a2 :: a3 :: a4 :: a5 :: a6 :: a7 :: a8 :: a9 :: a10 :: a11 :: a12 :: some v :: r) H := Iff.rfl
theorem w_Ret {te : TE} {D : Ends} {σ : L2.St} {H : Hp} : tRet te D σ H ↔ te σ H D.rt := Iff.rfl
theorem w_RetN {D : Ends} {σ : L2.St} {H : Hp} : tRetN D σ H ↔ D.rt .non H := Iff.rfl
theorem w_C {v : V} {σ : L2.St} {H : Hp} {Q : VK} : tC v σ H Q ↔ Q v H := Iff.rfl
theorem w_Op {r : R2} {ta tb : TE} {σ : L2.St} {H : Hp} {Q : VK} : tOp r ta tb σ H Q ↔ ta σ H fun x H1 => tb σ H1 fun y H2 => r x y H2 Q := Iff.rfl
theorem w_Un {r : V → Hp → VK → Prop} {ta : TE} {σ : L2.St} {H : Hp} {Q : VK} : tUn r ta σ H Q ↔ ta σ H fun x H1 => r x H1 Q := Iff.rfl
theorem w_UnI {g : Int → V} {i : Int} {H : Hp} {Q : VK} : rU g (.int i) H Q ↔ Q (g i) H := ⟨fun ⟨_, e, h⟩ => by cases e; exact h, fun h => ⟨_, rfl, h⟩⟩
theorem w_Asg {te : TE} {g : TG} {D : Ends} {σ : L2.St} {H : Hp} : tAsg te g D σ H ↔ te σ H fun x H1 => g x σ H1 D.nx := Iff.rfl
theorem w_Seq {t u : TS} {D : Ends} {σ : L2.St} {H : Hp} : tSeq t u D σ H ↔ t { D with nx := u D } σ H := Iff.rfl
theorem w_IfS {c : TT} {t u : TS} {D : Ends} {σ : L2.St} {H : Hp} : tIfS c t u D σ H ↔ c σ H fun b H1 => if b = true then t D σ H1 else u D σ H1 := Iff.rfl
theorem w_Next {D : Ends} {σ : L2.St} {H : Hp} : tNext D σ H ↔ D.nx σ H := Iff.rfl
theorem w_Drop {te : TE} {D : Ends} {σ : L2.St} {H : Hp} : tDrop te D σ H ↔ te σ H fun _ H1 => D.nx σ H1 := Iff.rfl
theorem w_CB {r : List V → Hp → VK → Prop} {t : TA} {σ : L2.St} {H : Hp} {Q : VK} : tCB r t σ H Q ↔ t σ H fun vs H1 => r vs H1 Q := Iff.rfl
theorem w_Call {sp : Sp} {E : XK} {t : TA} {σ : L2.St} {H : Hp} {Q : VK} : tCall sp [] E t σ H Q ↔ t σ H fun vs H1 => sp vs H1 Q E := by unfold tCall; simp only [List.append_nil]
theorem w_Nil {σ : L2.St} {H : Hp} {Q : List V → Hp → Prop} : tNil σ H Q ↔ Q [] H := Iff.rfl
theorem w_Cons {ta : TE} {tr : TA} {σ : L2.St} {H : Hp} {Q : List V → Hp → Prop} : tCons ta tr σ H Q ↔ ta σ H fun x H1 => tr σ H1 fun xs H2 => Q (x :: xs) H2 := Iff.rfl
theorem w_NoPart {σ : L2.St} {H : Hp} {Q : Option Int → Hp → Prop} : tNoPart σ H Q ↔ Q none H := Iff.rfl
theorem w_Part {te : TE} {σ : L2.St} {H : Hp} {Q : Option Int → Hp → Prop} : tPart te σ H Q ↔ te σ H fun x H1 => ∃ i, x = .int i ∧ Q (some i) H1 := Iff.rfl
theorem w_Sl {r : V → Option Int → Option Int → Hp → VK → Prop} {te : TE} {tl th : TO} {σ : L2.St} {H : Hp} {Q : VK} : L2.tSl r te tl th σ H Q ↔ te σ H fun x H1 => tl σ H1 fun l H2 => th σ H2 fun u H3 => r x l u H3 Q := Iff.rfl
theorem w_Test {te : TE} {σ : L2.St} {H : Hp} {Q : Bool → Hp → Prop} : tTest te σ H Q ↔ te σ H fun x H1 => ∃ k, x = .bl k ∧ Q k H1 := Iff.rfl
theorem w_And {t u : TT} {σ : L2.St} {H : Hp} {Q : Bool → Hp → Prop} : tAnd t u σ H Q ↔ t σ H fun c H1 => if c = true then u σ H1 Q else Q false H1 := Iff.rfl
theorem w_Or {t u : TT} {σ : L2.St} {H : Hp} {Q : Bool → Hp → Prop} : tOr t u σ H Q ↔ t σ H fun c H1 => if c = true then Q true H1 else u σ H1 Q := Iff.rfl
theorem w_Not {t : TT} {σ : L2.St} {H : Hp} {Q : Bool → Hp → Prop} : tNot t σ H Q ↔ t σ H fun c H1 => Q (!c) H1 := Iff.rfl
theorem w_AndV {ta tb : TE} {σ : L2.St} {H : Hp} {Q : VK} : tAndV ta tb σ H Q ↔ ta σ H fun x H1 => ∃ c, x = .bl c ∧ if c = true then tb σ H1 Q else Q (.bl false) H1 := Iff.rfl
theorem w_OrV {ta tb : TE} {σ : L2.St} {H : Hp} {Q : VK} : tOrV ta tb σ H Q ↔ ta σ H fun x H1 => ∃ c, x = .bl c ∧ if c = true then Q (.bl true) H1 else tb σ H1 Q := Iff.rfl
theorem w_NotV {ta : TE} {σ : L2.St} {H : Hp} {Q : VK} : tNotV ta σ H Q ↔ ta σ H fun x H1 => ∃ c, x = .bl c ∧ Q (.bl (!c)) H1 := Iff.rfl
theorem w_If {t : TT} {ta tb : TE} {σ : L2.St} {H : Hp} {Q : VK} : tIf t ta tb σ H Q ↔ t σ H fun c H1 => if c = true then ta σ H1 Q else tb σ H1 Q := Iff.rfl
theorem w_Chain {r r2 : R2} {ta tb tc : TE} {σ : L2.St} {H : Hp} {Q : VK} : tChain r r2 ta tb tc σ H Q ↔ ta σ H fun x H1 => tb σ H1 fun y H2 => r x y H2 fun z H3 => ∃ k, z = .bl k ∧ (if k = true then tc σ H3 fun w H4 => r2 y w H4 Q else Q (.bl false) H3) := Iff.rfl
theorem w_TruG {K : PySem.W.Frag} {ta : TE} {σ : L2.St} {H : Hp} {Q : Bool → Hp → Prop} : tTruG K ta σ H Q ↔ ta σ H fun x H1 => truR K x H1 Q := Iff.rfl
theorem w_TruB {K : PySem.W.Frag} {b : Bool} {H : Hp} {Q : Bool → Hp → Prop} : truR K (.bl b) H Q ↔ Q b H := Iff.rfl
theorem w_TruI {K : PySem.W.Frag} {i : Int} {H : Hp} {Q : Bool → Hp → Prop} : truR K (.int i) H Q ↔ Q (i != 0) H := Iff.rfl
theorem w_TruN {K : PySem.W.Frag} {H : Hp} {Q : Bool → Hp → Prop} : truR K .non H Q ↔ Q false H := Iff.rfl
theorem w_Tup {t : TA} {σ : L2.St} {H : Hp} {Q : VK} : tTup t σ H Q ↔ t σ H fun xs H1 => xs.length ≤ sizeLine ∧ ∀ p, H1 p = none → Q (.ref p) (upd H1 p (.tup xs)) := Iff.rfl
theorem w_Lst {t : TA} {σ : L2.St} {H : Hp} {Q : VK} : tLst t σ H Q ↔ t σ H fun xs H1 => xs.length ≤ sizeLine ∧ ∀ p, H1 p = none → Q (.ref p) (upd H1 p (.lst xs)) := Iff.rfl
theorem w_Par {i j : Nat} {a b : TE} {D : Ends} {σ : L2.St} {H : Hp} : tPar i j (tCons a (tCons b tNil)) D σ H ↔ a σ H fun x H1 => b σ H1 fun y H2 => gName i x σ H2 fun σ1 H3 => gName j y σ1 H3 D.nx := by
  have e : ∀ (x y : V) (P : V → V → Prop), (∃ v w, [x, y] = [v, w] ∧ P v w) ↔ P x y := fun x y P => ⟨fun ⟨_, _, e, h⟩ => by cases e; exact h, fun h => ⟨_, _, rfl, h⟩⟩
  simp only [tPar, tCons, tNil, gName, e]
theorem w_Sub {to ti : TE} {t : TSet} {v : V} {σ : L2.St} {H : Hp} {Q : L2.St → Hp → Prop} : gSub to ti t v σ H Q ↔ to σ H fun o H1 => ti σ H1 fun i H2 => t o i v H2 fun H3 => Q σ H3 := Iff.rfl
theorem w_M1 {r : V → List V → Hp → VK → Prop} {to te : TE} {σ : L2.St} {H : Hp} {Q : VK} : tM1 r to te σ H Q ↔ to σ H fun x H1 => (∃ a, x = .str a) ∧ te σ H1 fun y H2 => r x [y] H2 Q := Iff.rfl
theorem w_BM {K : PySem.W.Frag} {T : String} {r : V → List V → Hp → VK → Prop} {to : TE} {t : TA} {σ : L2.St} {H : Hp} {Q : VK} : tBM K T r to t σ H Q ↔ to σ H fun x H1 => tyV K T x H1 ∧ t σ H1 fun xs H2 => r x xs H2 Q := Iff.rfl
theorem w_ReplC {to : TE} {y z : Str} {σ : L2.St} {H : Hp} {Q : VK} : CwR.tReplC to y z σ H Q ↔ to σ H fun v H1 => ∃ x, v = .str x ∧ x.length + (x.length + 1) * z.length ≤ 16777216 ∧ Q (.str (Txt.replace x y z)) H1 := Iff.rfl
theorem w_RaiseC {C : Addr} {f : Str} {W : WX} {ta : TA} {D : Ends} {σ : L2.St} {H : Hp} : tRaiseC C f W ta D σ H ↔ ta σ H fun vs H1 => rMk C f vs H1 fun cls d H2 => W cls d σ H2 := Iff.rfl
theorem w_Fmt02 {te : TE} {σ : L2.St} {H : Hp} {Q : VK} : tFmt02 te σ H Q ↔ te σ H fun x H1 => ∃ i : Nat, x = .int (i : Int) ∧ i < 100 ∧ Q (.str (S (dig2 i))) H1 := Iff.rfl
theorem w_FmtG {te : TE} {σ : L2.St} {H : Hp} {Q : VK} : tFmtG te σ H Q ↔ te σ H fun x H1 => fmtR x H1 Q := Iff.rfl
theorem w_FmtS {y : Str} {H : Hp} {Q : VK} : fmtR (.str y) H Q ↔ y.length ≤ sizeLine ∧ Q (.str y) H := Iff.rfl
theorem w_FmtI {i : Int} {H : Hp} {Q : VK} : fmtR (.int i) H Q ↔ i.natAbs.log2 < 1920 ∧ Q (.str (Str.ofString (toString i))) H := Iff.rfl
theorem o_AddII {K : PySem.W.Frag} {i j : Int} {H : Hp} {Q : VK} : rAddG K (.int i) (.int j) H Q ↔ Q (.int (i + j)) H := Iff.rfl
theorem o_AddSS {K : PySem.W.Frag} {a b : Str} {H : Hp} {Q : VK} : rAddG K (.str a) (.str b) H Q ↔ a.length + b.length ≤ sizeLine ∧ Q (.str (a ++ b)) H := Iff.rfl
theorem o_AddRR {K : PySem.W.Frag} {p q : Addr} {H : Hp} {Q : VK} : rAddG K (.ref p) (.ref q) H Q ↔ (∃ xs ys, H p = some (.lst xs) ∧ H q = some (.lst ys) ∧ xs.length + ys.length ≤ sizeLine ∧ ∀ r, H r = none → Q (.ref r) (upd H r (.lst (xs ++ ys)))) ∨ rCatA K (.ref p) (.ref q) H Q := Iff.rfl
theorem o_SubII {i j : Int} {H : Hp} {Q : VK} : rSubG (.int i) (.int j) H Q ↔ Q (.int (i - j)) H := Iff.rfl
theorem o_MulII {i j : Int} {H : Hp} {Q : VK} : rMulG (.int i) (.int j) H Q ↔ (CMul i j ∨ CMulW i j) ∧ Q (.int (i * j)) H := Iff.rfl
theorem o_MulSI {a : Str} {n : Int} {H : Hp} {Q : VK} : rMulG (.str a) (.int n) H Q ↔ MulOk a n ∧ Q (.str (Txt.mul a n)) H := Iff.rfl
theorem o_ModII {i j : Int} {H : Hp} {Q : VK} : rModG (.int i) (.int j) H Q ↔ 0 < j ∧ Q (.int (i % j)) H := Iff.rfl
theorem o_DivII {i j : Int} {H : Hp} {Q : VK} : rDivG (.int i) (.int j) H Q ↔ CDivW i j ∧ Q (.int (i / j)) H := Iff.rfl
theorem o_PowII {i j : Int} {H : Hp} {Q : VK} : rPowG (.int i) (.int j) H Q ↔ CPow i j ∧ Q (.int (i ^ j.toNat)) H := Iff.rfl
theorem o_LtII {i j : Int} {H : Hp} {Q : VK} : rLtG (.int i) (.int j) H Q ↔ Q (.bl (decide (i < j))) H := Iff.rfl
theorem o_LtSS {a b : Str} {H : Hp} {Q : VK} : rLtG (.str a) (.str b) H Q ↔ Q (.bl (decide (tl a < tl b))) H := Iff.rfl
theorem o_LeII {i j : Int} {H : Hp} {Q : VK} : rLeG (.int i) (.int j) H Q ↔ Q (.bl (decide (i ≤ j))) H := Iff.rfl
theorem o_LeSS {a b : Str} {H : Hp} {Q : VK} : rLeG (.str a) (.str b) H Q ↔ Q (.bl (!decide (tl b < tl a))) H := Iff.rfl
theorem o_GtII {i j : Int} {H : Hp} {Q : VK} : rGtG (.int i) (.int j) H Q ↔ Q (.bl (decide (j < i))) H := Iff.rfl
theorem o_GtSS {a b : Str} {H : Hp} {Q : VK} : rGtG (.str a) (.str b) H Q ↔ Q (.bl (decide (tl b < tl a))) H := Iff.rfl
theorem o_GeII {i j : Int} {H : Hp} {Q : VK} : rGeG (.int i) (.int j) H Q ↔ Q (.bl (decide (j ≤ i))) H := Iff.rfl
theorem o_GeSS {a b : Str} {H : Hp} {Q : VK} : rGeG (.str a) (.str b) H Q ↔ Q (.bl (!decide (tl a < tl b))) H := Iff.rfl
theorem o_EqII {K : PySem.W.Frag} {i j : Int} {H : Hp} {Q : VK} : rEqG K (.int i) (.int j) H Q ↔ Q (.bl (decide (i = j))) H := Iff.rfl
theorem o_EqSS {K : PySem.W.Frag} {a b : Str} {H : Hp} {Q : VK} : rEqG K (.str a) (.str b) H Q ↔ Q (.bl (decide (tl a = tl b))) H := Iff.rfl
theorem o_EqBB {K : PySem.W.Frag} {a b : Bool} {H : Hp} {Q : VK} : rEqG K (.bl a) (.bl b) H Q ↔ Q (.bl (decide (a = b))) H := Iff.rfl
theorem o_EqRR {K : PySem.W.Frag} {a b : Addr} {H : Hp} {Q : VK} : rEqG K (.ref a) (.ref b) H Q ↔ rEqD K (.ref a) (.ref b) H Q := Iff.rfl
theorem o_NeII {K : PySem.W.Frag} {i j : Int} {H : Hp} {Q : VK} : rNeG K (.int i) (.int j) H Q ↔ Q (.bl (!decide (i = j))) H := Iff.rfl
theorem o_NeSS {K : PySem.W.Frag} {a b : Str} {H : Hp} {Q : VK} : rNeG K (.str a) (.str b) H Q ↔ Q (.bl (!decide (tl a = tl b))) H := Iff.rfl
theorem o_NeBB {K : PySem.W.Frag} {a b : Bool} {H : Hp} {Q : VK} : rNeG K (.bl a) (.bl b) H Q ↔ Q (.bl (!decide (a = b))) H := Iff.rfl
theorem o_NeRR {K : PySem.W.Frag} {a b : Addr} {H : Hp} {Q : VK} : rNeG K (.ref a) (.ref b) H Q ↔ rNeD K (.ref a) (.ref b) H Q := Iff.rfl
theorem o_InR {K : PySem.W.Frag} {x : V} {p : Addr} {neg : Bool} {H : Hp} {Q : VK} : rInG K neg x (.ref p) H Q ↔ ∃ xs, (SqL K H p xs ∨ SqT K H p xs) ∧ flatV x = true ∧ xs.all flatV = true ∧ Q (.bl (if neg then !inV x xs else inV x xs)) H := Iff.rfl
theorem o_InS {K : PySem.W.Frag} {c : Nat} {z : Str} {neg : Bool} {H : Hp} {Q : VK} : rInG K neg (.str ⟨#[c]⟩) (.str z) H Q ↔ Q (.bl (if neg then !decide (c ∈ tl z) else decide (c ∈ tl z))) H := ⟨fun ⟨_, e, h⟩ => by cases e; exact h, fun h => ⟨_, rfl, h⟩⟩
theorem o_IxS {K : PySem.W.Frag} {z : Str} {i : Int} {H : Hp} {Q : VK} : rIxG K (.str z) (.int i) H Q ↔ z.length ≤ sizeLine ∧ ∃ c, atI (tl z) i = some c ∧ Q (.str (S [c])) H := Iff.rfl
theorem o_IxR {K : PySem.W.Frag} {p : Addr} {i : Int} {H : Hp} {Q : VK} : rIxG K (.ref p) (.int i) H Q ↔ ∃ xs v, (SqL K H p xs ∨ SqT K H p xs) ∧ atI xs i = some v ∧ Q v H := Iff.rfl
theorem o_SlS {K : PySem.W.Frag} {z : Str} {lo hi : Option Int} {H : Hp} {Q : VK} : rSlG K (.str z) lo hi H Q ↔ z.length ≤ sizeLine ∧ Q (.str (cutS z lo hi)) H := Iff.rfl
theorem o_SlR {K : PySem.W.Frag} {a : Addr} {lo hi : Option Int} {H : Hp} {Q : VK} : rSlG K (.ref a) lo hi H Q ↔ (∃ xs, SqL K H a xs ∧ ∀ p, H p = none → Q (.ref p) (upd H p (.lst (cutV xs lo hi)))) ∨ rSlT K (.ref a) lo hi H Q := Iff.rfl
theorem o_LenS {K : PySem.W.Frag} {z : Str} {H : Hp} {Q : VK} : rLenG K [.str z] H Q ↔ z.length ≤ sizeLine ∧ Q (.int z.length) H := Iff.rfl
theorem o_LenR {K : PySem.W.Frag} {p : Addr} {H : Hp} {Q : VK} : rLenG K [.ref p] H Q ↔ ∃ ys, (SqL K H p ys ∨ SqT K H p ys) ∧ Q (.int ys.length) H := Iff.rfl
theorem o_IntI {i : Int} {H : Hp} {Q : VK} : rIntG [.int i] H Q ↔ Q (.int i) H := Iff.rfl
theorem o_IntB {b : Bool} {H : Hp} {Q : VK} : rIntG [.bl b] H Q ↔ Q (.int (if b then 1 else 0)) H := Iff.rfl
theorem o_IntS {a : Str} {H : Hp} {Q : VK} : rIntG [.str a] H Q ↔ ∃ n, PySem.intText? a = some n ∧ a.length ≤ 640 ∧ Q (.int n) H := Iff.rfl
theorem o_Abs {i : Int} {H : Hp} {Q : VK} : rAbsG [.int i] H Q ↔ Q (.int (if i < 0 then -i else i)) H := Iff.rfl
theorem o_Max {i j : Int} {H : Hp} {Q : VK} : rMaxG [.int i, .int j] H Q ↔ Q (.int (if j > i then j else i)) H := Iff.rfl
theorem o_Min {i j : Int} {H : Hp} {Q : VK} : rMinG [.int i, .int j] H Q ↔ Q (.int (if j < i then j else i)) H := Iff.rfl
theorem o_Str {i : Int} {H : Hp} {Q : VK} : rStrG [.int i] H Q ↔ i.natAbs.log2 < 1920 ∧ Q (.str (Str.ofString (toString i))) H := Iff.rfl
theorem o_Divmod {i j : Int} {H : Hp} {Q : VK} : rDivmodG [.int i, .int j] H Q ↔ CDiv i j ∧ ∀ p, H p = none → Q (.ref p) (upd H p (.tup [.int (i / j), .int (i % j)])) := Iff.rfl
theorem x_Bl {a : Bool} {P : Bool → Prop} : (∃ k, V.bl a = V.bl k ∧ P k) ↔ P a := ⟨fun ⟨_, e, h⟩ => by cases e; exact h, fun h => ⟨_, rfl, h⟩⟩
theorem x_Int {a : Int} {P : Int → Prop} : (∃ k, V.int a = V.int k ∧ P k) ↔ P a := ⟨fun ⟨_, e, h⟩ => by cases e; exact h, fun h => ⟨_, rfl, h⟩⟩
theorem x_Str {a : Str} {P : Str → Prop} : (∃ k, V.str a = V.str k ∧ P k) ↔ P a := ⟨fun ⟨_, e, h⟩ => by cases e; exact h, fun h => ⟨_, rfl, h⟩⟩
theorem x_Ref {a : Addr} {P : Addr → Prop} : (∃ k, V.ref a = V.ref k ∧ P k) ↔ P a := ⟨fun ⟨_, e, h⟩ => by cases e; exact h, fun h => ⟨_, rfl, h⟩⟩
theorem x_StrT {a : Str} : (∃ k, V.str a = V.str k) ↔ True := ⟨fun _ => trivial, fun _ => ⟨_, rfl⟩⟩
theorem w_For {wi : TI} {g : TG} {tb : TS} {D : Ends} {σ : L2.St} {H : Hp} : tFor wi g tb D σ H ↔ wi σ H fun J H1 => Loop J g tb D σ H1 := Iff.rfl
theorem w_Lc {wi : TI} {g : TG} {tt : TT} {te : TE} {vs : List Nat} {σ : L2.St} {H : Hp} {Q : VK} : tLc wi g tt te vs σ H Q ↔ wi σ H fun J H1 => ∀ D, H1 D = none → LoopC J g tt te vs σ H1 D (Q (.ref D)) := Iff.rfl
theorem w_iEnum {K : PySem.W.Frag} {ta : TA} {σ : L2.St} {H : Hp} {R : It → Hp → Prop} : iEnum K ta σ H R ↔ ta σ H fun vs H1 => ∃ a xs, vs = [.ref a] ∧ SqL K H1 a xs ∧ R (Ite K a) H1 := Iff.rfl
theorem w_iZipG {K : PySem.W.Frag} {k1 k2 : Bool} {ta : TA} {σ : L2.St} {H : Hp} {R : It → Hp → Prop} : iZipG K k1 k2 ta σ H R ↔ ta σ H fun vs H1 => ∃ a b xs ys, vs = [.ref a, .ref b] ∧ SqB K k1 H1 a xs ∧ SqB K k2 H1 b ys ∧ R (ItzG K k1 k2 a b) H1 := Iff.rfl
theorem w_iList {K : PySem.W.Frag} {te : TE} {σ : L2.St} {H : Hp} {R : It → Hp → Prop} : iList K te σ H R ↔ te σ H fun x H1 => ∃ a, x = .ref a ∧ (∃ xs, SqL K H1 a xs) ∧ R (Itl K a) H1 := Iff.rfl
theorem w_iTup {K : PySem.W.Frag} {te : TE} {σ : L2.St} {H : Hp} {R : It → Hp → Prop} : iTup K te σ H R ↔ te σ H fun x H1 => ∃ a, x = .ref a ∧ (∃ xs, SqT K H1 a xs) ∧ R (Itt K a) H1 := Iff.rfl
theorem w_iStr {te : TE} {σ : L2.St} {H : Hp} {R : It → Hp → Prop} : iStr te σ H R ↔ te σ H fun v H1 => ∃ x, v = .str x ∧ R (Its x) H1 := Iff.rfl
theorem w_iR1 {te : TE} {σ : L2.St} {H : Hp} {R : It → Hp → Prop} : iRng1 (tCons te tNil) σ H R ↔ te σ H fun v H1 => ∃ j, v = .int j ∧ -(2 ^ 62) ≤ j ∧ j < 2 ^ 62 ∧ R (Itr 0 j.toNat) H1 := by
  unfold iRng1 tCons tNil
  simp only [List.cons.injEq, and_true]
theorem w_iR2 {ta tb : TE} {σ : L2.St} {H : Hp} {R : It → Hp → Prop} : iRng2 (tCons ta (tCons tb tNil)) σ H R ↔ ta σ H fun v H1 => tb σ H1 fun u H2 => iR2 v u H2 R := Iff.rfl
end G
namespace G
open PySem PySem.Spec PyProof.Rows L2
section
variable {X : Cx} {k : Nat} {ps : List Str} {sp : Sp} {x : Str} {e : Expr} {es : List Expr} {t : TA} {p pos : Pos} {E : L2.St → XK}
/-- a call in the body of a try -/
theorem pe_cS (C : CallOk X.prog X.w X.K X.mg X.base x k ps sp) (hr : Room k X.A) (hx : ∀ σ, PassesAt (L2.CX X.prog X.w) X σ (E σ)) (ha : PA X (e :: es) t) (hg : Gl X x := by rfl)
    (hdb : (x == ("__debug__" : Str)) = false := by decide) (he : starEach (e :: es) X.env = (false, eval e X.env) :: starEach es X.env := by rfl) (hpl : (backTo pos (starEach es X.env)).any (·.1) = false := by rfl) :
    PE X (.Call (.Name x p) (e :: es) [] pos) (tCallS sp E t) := by
  obtain ⟨f, fd, hm, hk, hb, F⟩ := C.ex
  exact pe_callS F hr hg hm hk hb hx ha hdb he hpl
end
theorem w_CallS {sp : Sp} {E : L2.St → XK} {t : TA} {σ : L2.St} {H : Hp} {Q : VK} : tCallS sp E t σ H Q ↔ t σ H fun vs H1 => sp vs H1 Q (E σ) := Iff.rfl
theorem w_Xf {a : Addr} {cls : Value} {d : Option Addr} {C : Addr} {f : Str} {te : TE} {σ : L2.St} {H : Hp} {Q : VK} : tXf a cls d C f te σ H Q ↔
    te σ H fun x H1 => x = .ref a ∧ cls = .ref C ∧ ∃ (dd : Addr) (fs : List (Str × V)) (v : V), d = some dd ∧ H1 dd = some (.xd fs) ∧ fs.lookup f = some v ∧ Q v H1 := Iff.rfl
end G
namespace G
open PySem PySem.Spec PyProof.Rows L2
/-! own operators of own classes -/
structure MetOk (P : Program) (w : World) (K : PySem.W.Frag) (mg : Str → Option Value) (base : Heap) (C : Addr) (nm : Str) (k : Nat) (ps : List Str) (sp : Sp) : Prop where
  ex : ∃ (f : Addr) (fd : FuncData), PySem.W.findIn K (.ref C) nm = some (some (.ref f)) ∧ PySem.W.isFn K (.ref f) = true ∧ PySem.W.keepIn K (.ref f) = true ∧ Binds K fd ps [] ∧ FnOk P w K mg base (L2.CX P w) k f fd ps sp
section
variable {X : Cx} {C : Addr} {k : Nat} {ps : List Str} {sp : Sp} {E : XK} {nm : Str}
theorem back_of {pins : List (Addr × Obj)} {σ : L2.St} {Q : VK} {v : Value} {s : Shared} (h : EP X pins σ Q v s) : PySem.W.CmpBack (EP X pins σ Q) v s := by
  obtain ⟨x, H, I, r, q⟩ := id h
  cases v <;> first
    | exact h
    | (cases x <;> first
        | (obtain ⟨t, r⟩ := r; cases r)
        | cases r)
theorem vals2 {x y : V} {u v : Value} (a : RelV x u) (b : RelV y v) : Vals [x, y] [u, v] := .cons a (.cons b .nil)
theorem vals1' {x : V} {u : Value} (a : RelV x u) : Vals [x] [u] := .cons a .nil
/-- both are instances of the class at C -/
def rOwn (C : Addr) (sp : Sp) (E : XK) : R2 := fun x y H Q => ∃ a b dx dy fs gs, x = .ref a ∧ y = .ref b ∧ H a = some (.ins C dx fs) ∧ H b = some (.ins C dy gs) ∧ sp [x, y] H Q E
theorem op_own {op : Operator} (M : MetOk X.prog X.w X.K X.mg X.base C nm k ps sp) (hn : PySem.dunder op.info.2 = nm) (hc : PySem.W.selfFirst X.K C = true) (hr : Room k X.A) (hx : Passes (L2.CX X.prog X.w) X E) : OpR X (binaryOp op) (rOwn C sp E) := by
  intro pins s σ H x y v u Q I rx ry h
  obtain ⟨a, b, dx, dy, fs, gs, rfl, rfl, ha, hb, q⟩ := h
  cases rx
  cases ry
  obtain ⟨f, fd, hs, hf, _, hbd, F⟩ := M.ex
  obtain ⟨mA, J, _⟩ := ins_get I.hok ha
  obtain ⟨mB, J', _⟩ := ins_get I.hok hb
  obtain ⟨od, J, _⟩ := J.look
  obtain ⟨od', J', _⟩ := J'.look
  obtain ⟨m, hF⟩ := I.fr
  subst hn
  refine PySem.W.binop_K hF I.ok.mod.kin J J'.type hc hs hf ?_
  exact wpAny_mono (run_fn F hr hbd .nil hx I (vals2 (x := .ref a) (y := .ref b) rfl rfl) (by exact q)) (fun v s' h => back_of h) fun _ _ e => e
/-- an instance of the class at C, and a number -/
def rOwnI (C : Addr) (sp : Sp) (E : XK) : R2 := fun x y H Q => ∃ a dx fs i, x = .ref a ∧ y = .int i ∧ H a = some (.ins C dx fs) ∧ sp [x, y] H Q E
theorem op_ownI {op : Operator} {fo ro rc : Option Value} (M : MetOk X.prog X.w X.K X.mg X.base C nm k ps sp) (hn : PySem.dunder op.info.2 = nm) (hc : PySem.W.selfFirst X.K C = true)
    (hrr : PySem.W.findIn X.K (.ref C) (PySem.dunderR op.info.2) = some rc) (hp : rc = none ∨ ∃ g : Addr, rc = some (.ref g)) (h1 : PySem.W.findIn X.K (.type "int") (PySem.dunder op.info.2) = some fo) (h2 : PySem.W.findIn X.K (.type "int") (PySem.dunderR op.info.2) = some ro)
    (hsub : PySem.W.subIn X.K (.type "int") (.ref C) = some false) (hr : Room k X.A) (hx : Passes (L2.CX X.prog X.w) X E) : OpR X (binaryOp op) (rOwnI C sp E) := by
  intro pins s σ H x y v u Q I rx ry h
  obtain ⟨a, dx, fs, i, rfl, rfl, ha, q⟩ := h
  cases rx
  obtain ⟨t, rfl⟩ := ry
  obtain ⟨f, fd, hs, hf, _, hbd, F⟩ := M.ex
  obtain ⟨mA, J, _⟩ := ins_get I.hok ha
  obtain ⟨od, J, _⟩ := J.look
  obtain ⟨m, hF⟩ := I.fr
  subst hn
  refine PySem.W.ksp_binT (T := "int") hF I.ok.mod.kin J rfl hc hs hf hrr hp h1 h2 hsub ?_
  exact wpAny_mono (run_fn F hr hbd .nil hx I (vals2 (x := .ref a) (y := .int i) rfl ⟨t, rfl⟩) (by exact q)) (fun v s' h => back_of h) fun _ _ e => e
/-- == of two instances of the class at C, by its own -/
theorem op_ownEq (M : MetOk X.prog X.w X.K X.mg X.base C "__eq__" k ps sp) (hu : X.A.units < cLine) (hr : Room k X.A) (hx : Passes (L2.CX X.prog X.w) X E) : OpR X (compareOp .Eq) (rOwn C sp E) := by
  intro pins s σ H x y v u Q I rx ry h
  obtain ⟨a, b, dx, dy, fs, gs, rfl, rfl, ha, hb, q⟩ := h
  cases rx
  cases ry
  obtain ⟨f, fd, hs, hf, _, hbd, F⟩ := M.ex
  obtain ⟨mA, J, _⟩ := ins_get I.hok ha
  obtain ⟨mB, J', _⟩ := ins_get I.hok hb
  obtain ⟨od, J, _⟩ := J.look
  obtain ⟨od', J', _⟩ := J'.look
  obtain ⟨m, hF⟩ := I.fr
  show wpAny (model X.prog X.w) X.A (richCompare .Eq (.ref a) (.ref b)) (EP X pins σ Q) X.xe s
  refine PySem.W.cmp_K (op := .Eq) (tb := .ref C) hu hF I.ok.mod.kin J J'.type (by simp [PySem.W.notFirst]) hs hf ?_
  exact wpAny_mono (run_fn F hr hbd .nil hx I (vals2 (x := .ref a) (y := .ref b) rfl rfl) (by exact q)) (fun v s' h => back_of h) fun _ _ e => e
/-- the truth of an instance, by its own __bool__ -/
theorem tru_own {a dx : Addr} {fs : List (Str × V)} {pins : List (Addr × Obj)} {s : Shared} {σ : L2.St} {H : Hp} {R : Bool → Shared → Prop} (M : MetOk X.prog X.w X.K X.mg X.base C "__bool__" k ps sp) (hr : Room k X.A) (hx : Passes (L2.CX X.prog X.w) X E) (I : Inv X pins σ H s)
    (ha : H a = some (.ins C dx fs)) (q : sp [.ref a] H (fun v H' => ∃ b, v = .bl b ∧ ∀ s', Inv X pins σ H' s' → R b s') E) : wpAny (model X.prog X.w) X.A (truthy (.ref a)) R X.xe s := by
  obtain ⟨f, fd, hs, hf, _, hbd, F⟩ := M.ex
  obtain ⟨mA, J, _⟩ := ins_get I.hok ha
  obtain ⟨od, J, _⟩ := J.look
  obtain ⟨m, hF⟩ := I.fr
  refine PySem.W.truthy_K hF I.ok.mod.kin J hs hf ?_
  refine wpAny_mono (run_fn F hr hbd .nil hx I (vals1' (x := .ref a) rfl) (by exact q)) (fun v s' h => ?_) fun _ _ e => e
  obtain ⟨x, H', I', r, q2⟩ := h
  obtain ⟨b, ex, h2⟩ := q2
  subst ex
  cases r
  exact h2 s' I'
/-- a def called from a built-in -/
theorem run_in1 {f : Addr} {fd : FuncData} {pins : List (Addr × Obj)} {σ : L2.St} {H : Hp} {s : Shared} {Q : VK} {us : List Value} {vs : List V} (F : FnOk X.prog X.w X.K X.mg X.base (L2.CX X.prog X.w) k f fd ps sp) (hr : Room k X.A.in1) (hb : Binds X.K fd ps [])
    (hx : Passes (L2.CX X.prog X.w) X E) (I : Inv X pins σ H s) (r : Vals vs us) (h : sp vs H Q E) : wpAny (model X.prog X.w) X.A.in1 (call (.ref f) us) (EP X pins σ Q) X.xe s := by
  have hl := F.len _ _ _ _ h
  have e := I.env0
  have e0 : Env0 X.prog X.w X.K X.mg X.base X.A.in1 X.stack s H := ⟨e.frames, e.mod, e.bs, e.bsz, e.funs, e.frf, e.hok, e.bare⟩
  have hb2 := hb s us I.kIn (by rw [List.append_nil, ← r.length]; exact hl)
  rw [List.append_nil] at hb2
  refine wpAny_call (codeAny_mono (F.run X.A.in1 X.stack s H ⟨us, []⟩ us vs Q E hr e0 hb2 r h) fun q s' hq => ?_)
  cases q with
  | error e => exact hx pins σ H s e s' I hq
  | ok fl =>
    cases fl with
    | ret u => exact I.after hq
    | next => exact False.elim hq
    | brk => exact False.elim hq
    | cont => exact False.elim hq
def rLenOwn (C : Addr) (sp : Sp) (E : XK) : List V → Hp → VK → Prop := fun vs H Q => ∃ a dx fs, vs = [.ref a] ∧ H a = some (.ins C dx fs) ∧ sp [.ref a] H (fun v H' => ∃ n : Int, v = .int n ∧ 0 ≤ n ∧ n < 2 ^ 63 ∧ Q (.int n) H') E
theorem call_lenOwn (M : MetOk X.prog X.w X.K X.mg X.base C "__len__" k ps sp) (hr : Room k X.A.in1) (hx : Passes (L2.CX X.prog X.w) X E) : CallR X (.builtin "len") (rLenOwn C sp E) := by
  intro pins s σ H xs us Q I r h
  obtain ⟨a, dx, fs, rfl, ha, q⟩ := h
  obtain ⟨u, rfl, ru⟩ := vals1 r
  cases ru
  obtain ⟨f, fd, hs, hf, _, hbd, F⟩ := M.ex
  obtain ⟨mA, J, _⟩ := ins_get I.hok ha
  obtain ⟨od, J, _⟩ := J.look
  obtain ⟨m, hF⟩ := I.fr
  refine PySem.W.len_K hF I.ok.mod.kin J hs hf ?_
  refine wpAny_mono (run_in1 F hr hbd hx I (vals1' (x := .ref a) rfl) q) (fun v s' h => ?_) fun _ _ e => e
  obtain ⟨x, H', I', r', q2⟩ := h
  obtain ⟨n, ex, h0, h1, h2⟩ := q2
  subst ex
  obtain ⟨t, rfl⟩ := r'
  exact ⟨⟨h0, h1⟩, ⟨.int n, H', I'.tok _, ⟨_, rfl⟩, h2⟩⟩
end
end G
namespace PySem.W
open PySem PySem.Calls PyProof.Rows
section
variable {prog : Program} {w : World} {A : Around} {E : Value → Shared → Prop} {s : Shared} {K : Frag} {x C L f : Addr} {h₀ : Heap} {m : Str → Option Value} {ox : Obj} {od : Option Obj} {b tb : Value}
/-- object's != asks the own == and turns its answer about -/
theorem objNe_body {Q : Fin → Shared → Prop} (X : K.In s.heap) (I : InstAt s.heap x ox C od) (hse : findIn K (.ref C) "__eq__" = some (some (.ref f))) (hf : isFn K (.ref f) = true) (hu : A.units < cLine)
    (h : wpAny (model prog w) A (call (.ref f) [.ref x, b]) (fun v s' => ∃ c, v = .bool c ∧ Q (.done (.ret (.bool (!c)))) s') E s) : wpAny (model prog w) A (Builtin.«object.__ne__» ⟨[.ref x, b], []⟩) Q E s := by
  unfold Builtin.«object.__ne__»
  refine wpAny_bind (wpAny_pure ?_)
  refine wpAny_bind (wpAny_cRoomFor hu ?_)
  refine wpAny_bind (m := callSpecialIfBound? (.ref x) (Str.ofString "__eq__") [b]) (ifBound_K X I hse hf (wpAny_mono h (fun r s' hr => ?_) fun _ _ e => e))
  obtain ⟨c, rfl, hq⟩ := hr
  exact wpAny_bind (wpAny_truthy_bool (wpAny_pure hq))
theorem ne_ownK {Q : Value → Shared → Prop} (hu : A.units + 1 < cLine) (F : Fr h₀ L s.heap m) (X₀ : K.In h₀) (I : InstAt s.heap x ox C od) (hb : Looks (model prog w) s.heap (typeOf b) tb) (hn : notFirst K C tb = true)
    (hse : findIn K (.ref C) "__eq__" = some (some (.ref f))) (hf : isFn K (.ref f) = true) (hsn : findIn K (.ref C) "__ne__" = some (some (.builtin "object.__ne__"))) (hsub : subIn K (.ref C) (.type "object") = some true)
    (h : wpAny (model prog w) A.in1 (call (.ref f) [.ref x, b]) (fun v s' => ∃ c, v = .bool c ∧ Q (.bool (!c)) s') E s) : wpAny (model prog w) A (richCompare .NotEq (.ref x) b) Q E s := by
  have X := X₀.keeps F.keep
  have inst : Looks (model prog w) s.heap (isInstance (.ref x) (.type "object")) true := I.type.andThen (looks_subIn X hsub)
  have one : wpAny (model prog w) A (tryCompare (.ref x) (cmpInfo .NotEq).2.1 b) (fun r s' => ∃ v, r = some v ∧ Q v s') E s := by
    show wpAny (model prog w) A (tryCompare (.ref x) (Str.ofString "__ne__") b) _ E s
    unfold tryCompare
    refine wpAny_bind ?_
    simp only [callSpecialIfBound?, bindSpecialIfBound?]
    refine wpAny_holding (wpAny_bind (wpAny_bind (wpAny_bind (I.type.here ((looks_findIn X hsn).here ?_)))))
    refine wpAny_bind (wpAny_askSetting (wpAny_ite ?_))
    have fin : wpAny (model prog w) A (call (.builtin "object.__ne__") ([.ref x] ++ [b]) >>= fun v => pure (some v))
        (fun r s' => wpAny (model prog w) A (match r with | some .notImplemented => pure none | none => pure none | some v => pure (some v)) (fun r s' => ∃ v, r = some v ∧ Q v s') E s') E s := by
      refine wpAny_bind (wpAny_call (codeAny_call_builtin PySem.F.cmp_object.ne.plain PySem.F.cmpEntry_ne (check_slot PySem.F.cmpKind_ne PySem.F.cmpSplit_ne inst (PySem.F.cmpArgs_ne _ _) ?_)))
      refine objNe_body (A := A.in1) X I hse hf hu (wpAny_mono h (fun v s' hv => ?_) fun _ _ e => e)
      obtain ⟨c, rfl, hq⟩ := hv
      first
        | exact ⟨c, rfl, ⟨_, rfl, wpAny_pure (wpAny_pure ⟨_, rfl, hq⟩)⟩⟩
        | exact ⟨c, rfl, wpAny_pure (wpAny_pure ⟨_, rfl, hq⟩)⟩
    have hbi : bindSpecial (.builtin "object.__ne__") (.ref x) = pure (.builtin "object.__ne__", [.ref x]) := PySem.F.cmp_object.ne.bind (.ref x)
    rw [hbi]
    split
    · exact wpAny_bind (wpAny_pure (wpAny_pure (by exact fin)))
    · exact wpAny_tryCatch (wpAny_bind (wpAny_pure (wpAny_pure (by exact fin))))
  unfold richCompare
  simp only [oneThing_ref]
  refine wpAny_holding (wpAny_bind (wpAny_cRoomFor (Nat.lt_of_succ_lt hu) ?_))
  refine wpAny_bind (I.type.here (wpAny_bind (hb.here ?_)))
  split
  · rename_i q
    have e : subIn K tb (.ref C) = some false := by
      rcases Bool.or_eq_true_iff.mp hn with e | e
      · rw [beq_iff_eq.mp e] at q
        simp at q
      · exact beq_iff_eq.mp e
    refine wpAny_bind ((looks_subIn X e).here ?_)
    simp only [Bool.false_eq_true, if_false]
    refine wpAny_bind (wpAny_mono one (fun r s' z => ?_) fun _ _ e => e)
    obtain ⟨v, rfl, z⟩ := z
    exact wpAny_pure z
  · refine wpAny_bind (wpAny_pure ?_)
    simp only [Bool.false_eq_true, if_false]
    refine wpAny_bind (wpAny_mono one (fun r s' z => ?_) fun _ _ e => e)
    obtain ⟨v, rfl, z⟩ := z
    exact wpAny_pure z
end
end PySem.W
namespace G
open PySem PySem.Spec PyProof.Rows L2
section
variable {X : Cx} {C : Addr} {k : Nat} {ps : List Str} {sp : Sp} {E : XK}
/-- != of two instances of the class at C, which has an own == and no own != -/
def rOwnNe (C : Addr) (sp : Sp) (E : XK) : R2 := fun x y H Q => ∃ a b dx dy fs gs, x = .ref a ∧ y = .ref b ∧ H a = some (.ins C dx fs) ∧ H b = some (.ins C dy gs) ∧ sp [x, y] H (fun v H' => ∃ c, v = .bl c ∧ Q (.bl (!c)) H') E
theorem op_ownNe (M : MetOk X.prog X.w X.K X.mg X.base C "__eq__" k ps sp) (hsn : PySem.W.findIn X.K (.ref C) "__ne__" = some (some (.builtin "object.__ne__"))) (hsub : PySem.W.subIn X.K (.ref C) (.type "object") = some true) (hu : X.A.units + 1 < cLine) (hr : Room k X.A.in1)
    (hx : Passes (L2.CX X.prog X.w) X E) : OpR X (compareOp .NotEq) (rOwnNe C sp E) := by
  intro pins s σ H x y v u Q I rx ry h
  obtain ⟨a, b, dx, dy, fs, gs, rfl, rfl, ha, hb, q⟩ := h
  cases rx
  cases ry
  obtain ⟨f, fd, hs, hf, _, hbd, F⟩ := M.ex
  obtain ⟨mA, J, _⟩ := ins_get I.hok ha
  obtain ⟨mB, J', _⟩ := ins_get I.hok hb
  obtain ⟨od, J, _⟩ := J.look
  obtain ⟨od', J', _⟩ := J'.look
  obtain ⟨m, hF⟩ := I.fr
  show wpAny (model X.prog X.w) X.A (richCompare .NotEq (.ref a) (.ref b)) (EP X pins σ Q) X.xe s
  refine PySem.W.ne_ownK (tb := .ref C) hu hF I.ok.mod.kin J J'.type (by simp [PySem.W.notFirst]) hs hf hsn hsub ?_
  refine wpAny_mono (run_in1 F hr hbd hx I (vals2 (x := .ref a) (y := .ref b) rfl rfl) q) (fun v s' h => ?_) fun _ _ e => e
  obtain ⟨x, H', I', r', q2⟩ := h
  obtain ⟨c, ex, h2⟩ := q2
  subst ex
  cases r'
  exact ⟨c, rfl, .bl (!c), H', I', rfl, h2⟩
end
end G
namespace G
open PySem PySem.Spec PyProof.Rows L2
section
variable {X : Cx}
/-- tuple(list): the new tuple's record is known -/
theorem call_tupleF : CallR X (.type "tuple") (fun xs H Q => ∃ p ys, xs = [.ref p] ∧ SqL X.K H p ys ∧ ∀ l o, H l = none → o.cls = .type "tuple" → o.dict = none → Q (.ref l) (upd H l (.frz o (.tup ys)))) := by
  intro pins s σ H x us Q I r h
  obtain ⟨p, ys, rfl, hq, q⟩ := h
  obtain ⟨u, rfl, rx⟩ := vals1 r
  cases rx
  obtain ⟨its, r', pl, hz⟩ := I.list hq
  have hlen := r'.length
  refine call_tuple_list pl.isList (fun h' kp => ?_) (by simp only [List.size_toArray] <;> omega)
  have I1 : Inv X pins σ H { s with heap := h' } := I.kept (t' := s.toks) kp
  have I2 : Inv X pins σ (upd H h'.objs.size (.frz { cls := .type "tuple", data := .seq its.toArray } (.tup ys))) { s with heap := h'.push { cls := .type "tuple", data := .seq its.toArray } } :=
    I1.laid (t' := s.toks) (fun b o e => Heap.get?_push_of_some _ e) (Nat.le_refl _) ⟨Heap.get?_push_size _ rfl, (show ObjOk X.prog X.w _ _ _ (.tup ys) from ⟨hz, its, r', IsTup.new _ _⟩)⟩
  exact ⟨.ref h'.objs.size, _, I2, rfl, q _ _ (I1.hok.fresh (Nat.le_refl _)) rfl rfl⟩
/-- pairs told with their keys' values -/
theorem pairs_vals {pins : List (Addr × Obj)} {σ : L2.St} {H : Hp} {s : Shared} (I : Inv X pins σ H s) : ∀ {ps : List Addr} {kvs : List (Key × V)}, Paired (fun p kv => SqT X.K H p [kV kv.1, kv.2]) ps kvs →
    ∃ (prs : List (Key × Value)) (us : List (Value × Value)), KV kvs prs ∧ prs.length = ps.length ∧ us.length = ps.length ∧
      ∀ (j : Nat) (k v : Value), us[j]? = some (k, v) → ∃ (b : Addr) (q : Key), ps[j]? = some b ∧ prs[j]? = some (q, v) ∧ IsTup s.heap b #[k, v] ∧ keyIs q k = true := by
  intro ps kvs h
  obtain ⟨prs, rel, hl, hp⟩ := pairs_of I h
  have pick : ∀ j, j < prs.length → ∃ u : Value × Value, ∀ q, prs[j]? = some q → ∃ b, ps[j]? = some b ∧ u.2 = q.2 ∧ IsTup s.heap b #[u.1, q.2] ∧ keyIs q.1 u.1 = true := fun j hj => by
    obtain ⟨b, u, e1, e2, e3⟩ := hp j prs[j] (List.getElem?_eq_getElem hj)
    refine ⟨(u, prs[j].2), fun q hq => ?_⟩
    rw [List.getElem?_eq_getElem hj] at hq
    cases hq
    exact ⟨b, e1, rfl, e2, e3⟩
  have all : ∀ n, n ≤ prs.length → ∃ us : List (Value × Value), us.length = n ∧ ∀ (j : Nat) (k v : Value), us[j]? = some (k, v) → ∃ (b : Addr) (q : Key), ps[j]? = some b ∧ prs[j]? = some (q, v) ∧ IsTup s.heap b #[k, v] ∧ keyIs q k = true := by
    intro n
    induction n with
    | zero => intro _; exact ⟨[], rfl, fun j k v e => by simp at e⟩
    | succ n ih =>
      intro hn
      obtain ⟨us, hu, hus⟩ := ih (by omega)
      obtain ⟨w, hw⟩ := pick n (by omega)
      obtain ⟨b, e1, e2, e3, e4⟩ := hw prs[n] (List.getElem?_eq_getElem (by omega))
      refine ⟨us ++ [w], by rw [List.length_append, hu]; rfl, fun j k v e => ?_⟩
      by_cases hj : j < n
      · rw [List.getElem?_append_left (by omega)] at e
        exact hus j k v e
      · rw [List.getElem?_append_right (by omega)] at e
        have hj0 : j = n := by
          have := (List.getElem?_eq_some_iff.mp e).1
          simp at this
          omega
        subst hj0
        rw [hu, Nat.sub_self] at e
        have ew : w = (k, v) := Option.some.inj e
        subst ew
        have ev : v = prs[j].2 := e2
        refine ⟨b, prs[j].1, e1, ?_, by rw [ev]; exact e3, e4⟩
        rw [List.getElem?_eq_getElem (by omega), ev]
  obtain ⟨us, hu, hus⟩ := all prs.length (Nat.le_refl _)
  exact ⟨prs, us, rel, hl, by rw [hu, hl], hus⟩
/-- a tuple whose record is known to hold no attributes: made here, or of the written part -/
def PlainT (K : PySem.W.Frag) (H : Hp) (a : Addr) (xs : List V) : Prop :=
  (∃ o, H a = some (.frz o (.tup xs)) ∧ o.cls = .type "tuple" ∧ o.dict = none) ∨ (∃ o its n, K.lookup a = some o ∧ o.cls = .type "tuple" ∧ o.dict = none ∧ o.data = .seq its n ∧ its.size ≤ sizeLine ∧ Vals xs its.toList)
theorem PlainT.same {K : PySem.W.Frag} {H H' : Hp} {a : Addr} {xs : List V} (h : PlainT K H a xs) (s : Same H H') : PlainT K H' a xs := by
  rcases h with ⟨o, h1, h2⟩ | h
  · exact .inl ⟨o, s _ _ h1, h2⟩
  · exact .inr h
theorem PlainT.sq {K : PySem.W.Frag} {H : Hp} {a : Addr} {xs : List V} (h : PlainT K H a xs) : SqT K H a xs := by
  rcases h with ⟨o, h1, _⟩ | ⟨o, its, n, h1, h2, h3, h4, h5, h6⟩
  · exact .inl (.inr ⟨o, h1⟩)
  · exact .inr ⟨o, its, n, h1, h2, h4, h5, h6⟩
theorem PlainT.ty {K : PySem.W.Frag} {H : Hp} {a : Addr} {xs : List V} (h : PlainT K H a xs) : TyX K H (.ref a) (.type "tuple") := by
  rcases h with ⟨o, h1, _⟩ | ⟨o, its, n, h1, h2, _⟩
  · exact .fTuple h1
  · exact .kTuple h1 h2
/-- dict(tuple of pairs), the tuple's record known -/
theorem call_dictF (hcalm : X.calm = true) : CallR X (.type "dict") (fun xs H Q => ∃ (a : Addr) (ps : List Addr) (kvs : List (Key × V)), xs = [.ref a] ∧ PlainT X.K H a (ps.map V.ref) ∧
    Paired (fun p kv => SqT X.K H p [kV kv.1, kv.2]) ps kvs ∧ ∀ p, H p = none → Q (.ref p) (upd H p (.dK (mergeK [] kvs)))) := by
  intro pins s σ H xs us Q I r q
  obtain ⟨a, ps, kvs, rfl, ha, hp, q⟩ := q
  obtain ⟨u, rfl, rx⟩ := vals1 r
  cases rx
  obtain ⟨o, n, its, ho, hc, hod, hd, hz, rv⟩ : ∃ (o : Obj) (n : Nat) (its : List Value), s.heap.get? a = some o ∧ o.cls = .type "tuple" ∧ o.dict = none ∧ o.data = .seq its.toArray n ∧ (ps.map V.ref).length ≤ sizeLine ∧ Vals (ps.map V.ref) its := by
    rcases ha with ⟨o, ha, hc, hod⟩ | ⟨o, its, n, h1, h2, h3, h4, h5, h6⟩
    · obtain ⟨ho, hz, its, rv, ob, hob, hc2, n, hd⟩ := (show ObjOk X.prog X.w H s.heap a (.frz o (.tup (ps.map V.ref))) from I.hok a _ ha)
      rw [ho] at hob
      cases hob
      exact ⟨o, n, its, ho, hc, hod, hd, hz, rv⟩
    · exact ⟨o, n, its.toList, I.kIn a o h1, h2, h3, by simpa using h4, by rw [h6.length]; simpa using h5, h6⟩
  have ei := refs_at rv
  subst ei
  rw [List.length_map] at hz
  obtain ⟨prs, uv, rel, hl, hul, hpr⟩ := pairs_vals I hp
  have ok : PlainSeq "tuple" s.heap a (ps.map Value.ref).toArray ∧ PairItems s.heap (ps.map Value.ref).toArray (fun j => ps.getD j 0) uv := by
    refine ⟨⟨o, n, ho, hc, hod, hd⟩, by simp [hul], fun j k v e => ?_⟩
    obtain ⟨b, q', e1, e2, e3, e4⟩ := hpr j k v e
    have hb : ps.getD j 0 = b := by rw [List.getD_eq_getElem?_getD, e1]; rfl
    dsimp only
    rw [hb]
    refine ⟨by simp [e1], ?_⟩
    obtain ⟨o2, h1, h2, n2, h3⟩ := e3
    exact .inl ⟨o2, h1, h2, n2, h3⟩
  refine PySem.call_dict_pairs (knd := mixKind X.prog X.w) (kvs := prs) (PairArg.tuple a (ps.map Value.ref).toArray (fun j => ps.getD j 0) uv) (I.ok.hd hcalm) ok ⟨by rw [hl, hul], fun i key v e => ?_⟩ (by rw [hul]; exact hz) fun h' tk hd' k => ?_
  · obtain ⟨b, q', e1, e2, e3, e4⟩ := hpr i key v e
    exact ⟨q', e2, e4⟩
  · have hm : (s.heap.objs.size == sysModules) = false := beq_eq_false_iff_ne.mpr (Nat.ne_of_gt I.big)
    have hlen : (mergeK [] kvs).length ≤ sizeLine := by
      refine Nat.le_trans (length_mergeK kvs []) ?_
      rw [List.length_nil, Nat.zero_add, rel.length, hl]
      exact hz
    exact ⟨.ref s.heap.objs.size, upd H s.heap.objs.size (.dK (mergeK [] kvs)), I.laid (t' := tk) (fun b o e => k b o (by simp) e) (Nat.le_refl _) (show ObjOk X.prog X.w _ _ _ (.dK (mergeK [] kvs)) from ⟨hlen, hm, merged [] prs, KV.merge rel .nil, hd'⟩), rfl, q _ (I.hok.fresh (Nat.le_refl _))⟩
end
end G
/-! Objects, bundled: their making, methods, properties. -/
namespace G
open PySem PySem.Spec PyProof.Rows L2
structure MkOk (P : Program) (w : World) (K : PySem.W.Frag) (mg : Str → Option Value) (base : Heap) (x : Str) (C : Addr) (k : Nat) (ps : List Str) (ds : List Value) (dvs : List V) (sp : Sp) : Prop where
  ex : ∃ (f : Addr) (fd : FuncData), mg x = some (.ref C) ∧ Mk K C f ∧ Binds K fd ps ds ∧ Vals dvs ds ∧ FnOk P w K mg base (L2.CX P w) k f fd ps sp
structure PropOk (P : Program) (w : World) (K : PySem.W.Frag) (mg : Str → Option Value) (base : Heap) (C : Addr) (nm : Str) (k : Nat) (ps : List Str) (sp : Sp) : Prop where
  ex : ∃ (p g : Addr) (fd : FuncData), PropOf K C nm p g ∧ Binds K fd ps [] ∧ FnOk P w K mg base (L2.CX P w) k g fd ps sp
section
variable {X : Cx} {C : Addr} {k : Nat} {ps : List Str} {sp : Sp} {E : XK} {x m : Str} {p apos pos : Pos} {o e : Expr} {es : List Expr} {to : TE} {t : TA} {ds : List Value} {dvs : List V}
/-- o.m(e, ..) -/
theorem pe_mC {pl : Sem Bool} (c : Cls X.K C) (M : MetOk X.prog X.w X.K X.mg X.base C m k ps sp) (hr : Room k X.A) (hx : Passes (L2.CX X.prog X.w) X E) (ho : PE X o to) (ha : PA X (e :: es) t)
    (hst : starEach (e :: es) X.env = (false, eval e X.env) :: starEach es X.env := by rfl) (hpl : (backTo pos (starEach es X.env)).any (·.1) = false := by rfl)
    (ht : eval (.Call (.Attribute o m apos) (e :: es) [] pos) X.env = (do
      let ov ← eval o X.env
      standAt apos.atName
      let (f, first) ← holding [ov] (getMethod ov m pl)
      callWith pos f first (backTo pos (starEach (e :: es) X.env)) (backToKw pos (keywordEach [] X.env))) := by rfl) :
    PE X (.Call (.Attribute o m apos) (e :: es) [] pos) (tMeth C m sp [] E to t) := by
  obtain ⟨f, fd, hs, hf, hk, hbd, F⟩ := M.ex
  exact pe_meth (pl := pl) ho c ⟨hs, hf, hk⟩ F hr hbd .nil hx ha hst hpl ht
/-- o.m() -/
theorem pe_mC0 {pl : Sem Bool} (c : Cls X.K C) (M : MetOk X.prog X.w X.K X.mg X.base C m k ps sp) (hr : Room k X.A) (hx : Passes (L2.CX X.prog X.w) X E) (ho : PE X o to)
    (ht : eval (.Call (.Attribute o m apos) [] [] pos) X.env = (do
      let ov ← eval o X.env
      standAt apos.atName
      let (f, first) ← holding [ov] (getMethod ov m pl)
      callWith pos f first (backTo pos (starEach [] X.env)) (backToKw pos (keywordEach [] X.env))) := by rfl) :
    PE X (.Call (.Attribute o m apos) [] [] pos) (tMeth C m sp [] E to tNil) := by
  obtain ⟨f, fd, hs, hf, hk, hbd, F⟩ := M.ex
  exact pe_meth0 (pl := pl) ho c ⟨hs, hf, hk⟩ F hr hbd .nil hx ht
/-- C(e, ..) and C() -/
theorem pe_mkC (M : MkOk X.prog X.w X.K X.mg X.base x C k ps ds dvs sp) (hr : Room (k + 1) X.A) (hx : Passes (L2.CX X.prog X.w) X E) (ha : PA X (e :: es) t) (hg : Gl X x := by rfl)
    (hdb : (x == ("__debug__" : Str)) = false := by decide) (he : starEach (e :: es) X.env = (false, eval e X.env) :: starEach es X.env := by rfl) (hpl : (backTo pos (starEach es X.env)).any (·.1) = false := by rfl) :
    PE X (.Call (.Name x p) (e :: es) [] pos) (tMake C sp dvs E t) := by
  obtain ⟨f, fd, hm, mk, hb, hd, F⟩ := M.ex
  exact pe_make mk F hr hg hm hb hd hx ha hdb he hpl
theorem pe_mkC0 (M : MkOk X.prog X.w X.K X.mg X.base x C k ps ds dvs sp) (hr : Room (k + 1) X.A) (hx : Passes (L2.CX X.prog X.w) X E) (hg : Gl X x := by rfl) (hdb : (x == ("__debug__" : Str)) = false := by decide) :
    PE X (.Call (.Name x p) [] [] pos) (tMake C sp dvs E tNil) := by
  obtain ⟨f, fd, hm, mk, hb, hd, F⟩ := M.ex
  exact pe_make0 mk F hr hg hm hb hd hx hdb
/-- e.f, a property -/
theorem pe_propC (c : Cls X.K C) (M : PropOk X.prog X.w X.K X.mg X.base C m k ps sp) (hr : Room (k + 1) X.A) (hx : Passes (L2.CX X.prog X.w) X.nox E) (he : PE X o to) (hab : attributeBase o m X.env (eval o X.env) = eval o X.env := by rfl) :
    PE X (.Attribute o m pos) (tProp C sp [] E to) := by
  obtain ⟨p, g, fd, hp, hb, F⟩ := M.ex
  exact pe_prop he c hp F hr hb .nil hx hab
end
end G
namespace G
open PySem PySem.Spec PyProof.Rows L2
/-! steps of the readings of objects -/
section
variable {K : PySem.W.Frag} {C : Addr} {m f : Str} {sp : Sp} {E : XK} {to tv : TE} {t : TA} {σ : L2.St} {H : Hp} {Q : VK} {D : Ends} {dvs : List V}
theorem w_Meth : tMeth C m sp [] E to t σ H Q ↔ to σ H fun x H1 => ∃ a dx fs, x = .ref a ∧ H1 a = some (.ins C dx fs) ∧ fs.lookup m = none ∧ t σ H1 fun vs H2 => sp (x :: vs) H2 Q E := by
  unfold tMeth
  simp only [List.append_nil]
theorem w_Make : tMake C sp dvs E t σ H Q ↔ t σ H fun vs H1 => ∀ x dx, H1 x = none → H1 dx = none → dx ≠ x → sp (.ref x :: (vs ++ dvs)) (upd (upd H1 dx (.own x)) x (.ins C dx [])) (fun v H2 => v = .non ∧ Q (.ref x) H2) E := Iff.rfl
theorem w_Prop : tProp C sp [] E to σ H Q ↔ to σ H fun x H1 => ∃ a dx fs, x = .ref a ∧ H1 a = some (.ins C dx fs) ∧ sp [.ref a] H1 Q E := Iff.rfl
theorem w_Fld : tFld K to f σ H Q ↔ to σ H fun x H1 => ∃ a C dx fs v, x = .ref a ∧ H1 a = some (.ins C dx fs) ∧ Cls K C ∧ NoAttr K C f ∧ fs.lookup f = some v ∧ Q v H1 := Iff.rfl
theorem w_sFld : sFld K to tv f D σ H ↔ tv σ H fun y H1 => to σ H1 fun x H2 => ∃ a C dx fs, x = .ref a ∧ H2 a = some (.ins C dx fs) ∧ Cls K C ∧ NoAttr K C f ∧ fs.length < 1000 ∧ D.nx σ (upd H2 a (.ins C dx (putF f y fs))) := Iff.rfl
end
/-! isinstance, by the shapes -/
def rIsiH (K : PySem.W.Frag) : List V → Hp → VK → Prop := fun vs H Q => match vs with
  | [.ref a, .ty n] => ∃ T b, TyX K H (.ref a) (.type T) ∧ kitB T n = some b ∧ Q (.bl b) H
  | [.ref a, .ref C] => ∃ t b, TyX K H (.ref a) t ∧ PySem.W.kitOne K t (.ref C) = some b ∧ Q (.bl b) H
  | vs => rIsiG vs H Q
theorem call_isiH {X : Cx} : CallR X (.builtin "isinstance") (rIsiH X.K) := by
  intro pins s σ H xs us Q I r h
  unfold rIsiH at h
  split at h
  · obtain ⟨T, b, ty, k, q⟩ := h
    exact call_isi pins s σ H _ us Q I r ⟨_, _, .type T, .type _, b, rfl, .ty _, ty, kit_ty k, q⟩
  · obtain ⟨t, b, ty, k, q⟩ := h
    exact call_isi pins s σ H _ us Q I r ⟨_, _, t, .ref _, b, rfl, .own _, ty, k, q⟩
  · exact call_isiG pins s σ H _ us Q I r h
theorem kit_tt : kitB "tuple" "tuple" = some true := by decide +kernel
theorem isiH_ii {K : PySem.W.Frag} {i : Int} {H : Hp} {Q : VK} : rIsiH K [.int i, .ty "int"] H Q ↔ Q (.bl true) H := isi_ii
theorem isiH_ib {K : PySem.W.Frag} {i : Int} {H : Hp} {Q : VK} : rIsiH K [.int i, .ty "bool"] H Q ↔ Q (.bl false) H := isi_ib
theorem isiH_ss {K : PySem.W.Frag} {z : Str} {H : Hp} {Q : VK} : rIsiH K [.str z, .ty "str"] H Q ↔ Q (.bl true) H := isi_ss
theorem isiH_rt {K : PySem.W.Frag} {a : Addr} {n : String} {H : Hp} {Q : VK} : rIsiH K [.ref a, .ty n] H Q ↔ ∃ T b, TyX K H (.ref a) (.type T) ∧ kitB T n = some b ∧ Q (.bl b) H := Iff.rfl
theorem isiH_rr {K : PySem.W.Frag} {a C : Addr} {H : Hp} {Q : VK} : rIsiH K [.ref a, .ref C] H Q ↔ ∃ t b, TyX K H (.ref a) t ∧ PySem.W.kitOne K t (.ref C) = some b ∧ Q (.bl b) H := Iff.rfl
/-- a module's text -/
theorem pe_gS {X : Cx} {x : Str} {z : Str} {pos : Pos} (hm : ∃ t, X.mg x = some (.str z t)) (hg : Gl X x := by rfl) (hd : (x == ("__debug__" : Str)) = false := by decide) : PE X (.Name x pos) (tC (.str z)) := by
  obtain ⟨t, h⟩ := hm
  exact pe_glob hg h ⟨t, rfl⟩ hd
/-- a module's class -/
theorem pe_gR {X : Cx} {x : Str} {C : Addr} {pos : Pos} (h : X.mg x = some (.ref C)) (hg : Gl X x := by rfl) (hd : (x == ("__debug__" : Str)) = false := by decide) : PE X (.Name x pos) (tC (.ref C)) := pe_glob hg h rfl hd
end G
namespace G
open PySem PySem.Spec PyProof.Rows L2
theorem w_DGet2 {td ty tx : TE} {σ : L2.St} {H : Hp} {Q : VK} : tDGet2 td ty tx σ H Q ↔ td σ H fun x H1 => ∃ a, x = .ref a ∧ IsD H1 a ∧ ty σ H1 fun y H2 => tx σ H2 fun z H3 => ∃ o, DGet H3 a y o ∧ Q (o.getD z) H3 := Iff.rfl
/-- a field, the module's fragment named -/
theorem pe_fldK {X : Cx} (K : PySem.W.Frag) {e : Expr} {f : Str} {ta : TE} {pos : Pos} (he : PE X e ta) (hb : attributeBase e f X.env (eval e X.env) = eval e X.env) (h : X.K = K := by rfl) : PE X (.Attribute e f pos) (tFld K ta f) := by
  subst h
  exact pe_fld he hb
end G
/-! Data in the place of values and heaps: what the readings are lifted to. -/
namespace G
open PySem PySem.Spec PyProof.Rows L2

/-- data: what never changes stands in it whole; what may change stands at a place -/
inductive D where
  | non | bl (b : Bool) | int (i : Int) | str (z : Str) | ty (n : String) | cls (c : String)
  | tup (xs : List D) | tuq (xs : List D) | lst (xs : List D) | lsk (xs : List D) | dct (ks : List Key) (xs : List D) | dtt (ks : List (List Key)) (xs : List D) | dck (ks : List Str) (xs : List D) | obj (c : String) (ns : List String) (xs : List D)
  | ref (i : Nat)
/-- what may change -/
inductive AO where
  | lst (xs : List D) | dct (ks : List Key) (xs : List D) | dctL (ks : List Key) (xs : List D) | dtt (ks : List (List Key)) (xs : List D) | dttL (ks : List (List Key)) (xs : List D) | obj (c : String) (ns : List String) (xs : List D)
abbrev AH := List AO
abbrev AS := List (Option D)
inductive Res (α : Type) where
  | ok (a : α) (M : AH) | exc (c : String) (p : Option (List String × List D)) (M : AH) | stuck
def Res.bind {α β : Type} (r : Res α) (k : α → AH → Res β) : Res β := match r with
  | .ok a M => k a M
  | .exc c p M => .exc c p M
  | .stuck => .stuck
inductive SRes where
  | nx (δ : AS) (M : AH) | rt (d : D) (M : AH) | bk (δ : AS) (M : AH) | ct (δ : AS) (M : AH) | exc (c : String) (p : Option (List String × List D)) (δ : AS) (M : AH) | stuck
def Res.thenS {α : Type} (r : Res α) (δ : AS) (k : α → AH → SRes) : SRes := match r with
  | .ok a M => k a M
  | .exc c p M => .exc c p δ M
  | .stuck => .stuck

mutual
def D.beq : D → D → Bool
  | .non, .non => true
  | .bl a, .bl b => a == b
  | .int a, .int b => decide (a = b)
  | .str a, .str b => decide (a = b)
  | .ty a, .ty b => decide (a = b)
  | .cls a, .cls b => decide (a = b)
  | .tup a, .tup b => D.beqL a b
  | .tuq a, .tuq b => D.beqL a b
  | .lst a, .lst b => D.beqL a b
  | .lsk a, .lsk b => D.beqL a b
  | .dct k a, .dct l b => decide (k = l) && D.beqL a b
  | .dtt k a, .dtt l b => decide (k = l) && D.beqL a b
  | .dck k a, .dck l b => decide (k = l) && D.beqL a b
  | .obj c k a, .obj d l b => decide (c = d) && (decide (k = l) && D.beqL a b)
  | .ref i, .ref j => decide (i = j)
  | _, _ => false
def D.beqL : List D → List D → Bool
  | [], [] => true
  | a :: as, b :: bs => D.beq a b && D.beqL as bs
  | _, _ => false
end
mutual
theorem D.beq_refl : ∀ a : D, D.beq a a = true
  | .non => by simp [D.beq]
  | .bl a => by simp [D.beq]
  | .int a => by simp [D.beq]
  | .str a => by simp [D.beq]
  | .ty a => by simp [D.beq]
  | .cls a => by simp [D.beq]
  | .tup a => by simp [D.beq, D.beqL_refl a]
  | .tuq a => by simp [D.beq, D.beqL_refl a]
  | .lsk a => by simp [D.beq, D.beqL_refl a]
  | .lst a => by simp [D.beq, D.beqL_refl a]
  | .dct k a => by simp [D.beq, D.beqL_refl a]
  | .dtt k a => by simp [D.beq, D.beqL_refl a]
  | .dck k a => by simp [D.beq, D.beqL_refl a]
  | .obj c k a => by simp [D.beq, D.beqL_refl a]
  | .ref i => by simp [D.beq]
theorem D.beqL_refl : ∀ a : List D, D.beqL a a = true
  | [] => by simp [D.beqL]
  | a :: as => by simp [D.beqL, D.beq_refl a, D.beqL_refl as]
end
mutual
theorem D.beq_eq : ∀ {a b : D}, D.beq a b = true → a = b
  | .non, b, h => by cases b <;> simp [D.beq] at h ⊢
  | .bl a, b, h => by cases b <;> simp [D.beq] at h ⊢; exact h
  | .int a, b, h => by cases b <;> simp [D.beq] at h ⊢; exact h
  | .str a, b, h => by cases b <;> simp [D.beq] at h ⊢; exact h
  | .ty a, b, h => by cases b <;> simp [D.beq] at h ⊢; exact h
  | .cls a, b, h => by cases b <;> simp [D.beq] at h ⊢; exact h
  | .tup a, b, h => by cases b <;> simp [D.beq] at h ⊢; exact D.beqL_eq h
  | .tuq a, b, h => by cases b <;> simp [D.beq] at h ⊢; exact D.beqL_eq h
  | .lsk a, b, h => by cases b <;> simp [D.beq] at h ⊢; exact D.beqL_eq h
  | .lst a, b, h => by cases b <;> simp [D.beq] at h ⊢; exact D.beqL_eq h
  | .dct k a, b, h => by cases b <;> simp [D.beq] at h ⊢; exact ⟨h.1, D.beqL_eq h.2⟩
  | .dtt k a, b, h => by cases b <;> simp [D.beq] at h ⊢; exact ⟨h.1, D.beqL_eq h.2⟩
  | .dck k a, b, h => by cases b <;> simp [D.beq] at h ⊢; exact ⟨h.1, D.beqL_eq h.2⟩
  | .obj c k a, b, h => by cases b <;> simp [D.beq] at h ⊢; exact ⟨h.1, h.2.1, D.beqL_eq h.2.2⟩
  | .ref i, b, h => by cases b <;> simp [D.beq] at h ⊢; exact h
theorem D.beqL_eq : ∀ {a b : List D}, D.beqL a b = true → a = b
  | [], b, h => by cases b <;> simp [D.beqL] at h ⊢
  | a :: as, b, h => by
    cases b with
    | nil => simp [D.beqL] at h
    | cons b bs =>
      simp only [D.beqL, Bool.and_eq_true] at h
      rw [D.beq_eq h.1, D.beqL_eq h.2]
end
def AO.beq : AO → AO → Bool
  | .lst a, .lst b => D.beqL a b
  | .dct k a, .dct l b => decide (k = l) && D.beqL a b
  | .dctL k a, .dctL l b => decide (k = l) && D.beqL a b
  | .dtt k a, .dtt l b => decide (k = l) && D.beqL a b
  | .dttL k a, .dttL l b => decide (k = l) && D.beqL a b
  | .obj c k a, .obj d l b => decide (c = d) && (decide (k = l) && D.beqL a b)
  | _, _ => false
theorem AO.beq_refl : ∀ a : AO, AO.beq a a = true
  | .lst a => by simp [AO.beq, D.beqL_refl a]
  | .dct k a => by simp [AO.beq, D.beqL_refl a]
  | .dctL k a => by simp [AO.beq, D.beqL_refl a]
  | .dtt k a => by simp [AO.beq, D.beqL_refl a]
  | .dttL k a => by simp [AO.beq, D.beqL_refl a]
  | .obj c k a => by simp [AO.beq, D.beqL_refl a]
theorem AO.beq_eq : ∀ {a b : AO}, AO.beq a b = true → a = b
  | .lst a, b, h => by cases b <;> simp [AO.beq] at h ⊢; exact D.beqL_eq h
  | .dct k a, b, h => by cases b <;> simp [AO.beq] at h ⊢; exact ⟨h.1, D.beqL_eq h.2⟩
  | .dctL k a, b, h => by cases b <;> simp [AO.beq] at h ⊢; exact ⟨h.1, D.beqL_eq h.2⟩
  | .dtt k a, b, h => by cases b <;> simp [AO.beq] at h ⊢; exact ⟨h.1, D.beqL_eq h.2⟩
  | .dttL k a, b, h => by cases b <;> simp [AO.beq] at h ⊢; exact ⟨h.1, D.beqL_eq h.2⟩
  | .obj c k a, b, h => by cases b <;> simp [AO.beq] at h ⊢; exact ⟨h.1, h.2.1, D.beqL_eq h.2.2⟩

/-! no place from n on stands in it -/
mutual
def D.clo (n : Nat) : D → Bool
  | .tup a => D.cloL n a
  | .tuq a => D.cloL n a
  | .lsk a => D.cloL n a
  | .lst a => D.cloL n a
  | .dct _ a => D.cloL n a
  | .dtt _ a => D.cloL n a
  | .dck _ a => D.cloL n a
  | .obj _ _ a => D.cloL n a
  | .ref i => decide (i < n)
  | _ => true
def D.cloL (n : Nat) : List D → Bool
  | [] => true
  | a :: as => D.clo n a && D.cloL n as
end
def AO.clo (n : Nat) : AO → Bool
  | .lst a => D.cloL n a
  | .dct _ a => D.cloL n a
  | .dctL _ a => D.cloL n a
  | .dtt _ a => D.cloL n a
  | .dttL _ a => D.cloL n a
  | .obj _ _ a => D.cloL n a
/-- what stood at the places ahead of n has no place behind it, or stands as it did -/
def okOld (M M' : AH) : Bool := (List.range M.length).all fun i => match M[i]?, M'[i]? with
  | some a, some b => AO.beq b a || AO.clo M.length b
  | _, _ => false
/-! what is new stands whole in the answer -/
mutual
def frz (M' : AH) (n : Nat) : Nat → D → Option D
  | k, d => if D.clo n d then some d else match k with
    | 0 => none
    | k + 1 => match d with
      | .ref i => match M'[i]? with
        | some (.lst xs) => (frzL M' n k xs).map .lst
        | some (.dct ks xs) => (frzL M' n k xs).map (.dct ks)
        | some (.dctL ks xs) => (frzL M' n k xs).map (.dct ks)
        | some (.dtt ks xs) => (frzL M' n k xs).map (.dtt ks)
        | some (.dttL ks xs) => (frzL M' n k xs).map (.dtt ks)
        | some (.obj c ns xs) => (frzL M' n k xs).map (.obj c ns)
        | none => none
      | .tup xs => (frzL M' n k xs).map .tup
      | .tuq xs => (frzL M' n k xs).map .tuq
      | .lsk xs => (frzL M' n k xs).map .lsk
      | .lst xs => (frzL M' n k xs).map .lst
      | .dct ks xs => (frzL M' n k xs).map (.dct ks)
      | .dtt ks xs => (frzL M' n k xs).map (.dtt ks)
      | .dck ks xs => (frzL M' n k xs).map (.dck ks)
      | .obj c ns xs => (frzL M' n k xs).map (.obj c ns)
      | d => some d
  termination_by k d => (k, 0)
def frzL (M' : AH) (n : Nat) : Nat → List D → Option (List D)
  | k, [] => some []
  | k, d :: ds => match frz M' n k d, frzL M' n k ds with
    | some d', some ds' => some (d' :: ds')
    | _, _ => none
  termination_by k ds => (k, ds.length + 1)
end

/-- names of addresses; the tables of code objects -/
structure Kap where
  adr : String → Addr
  T : List (Addr × Str)
  w : World
instance : CoeFun Kap fun _ => String → Addr := ⟨Kap.adr⟩
/-- what a loop may lock -/
def Lk : HO → Prop
  | .dK _ => True
  | .dT _ => True
  | _ => False
/-- all stands, some of it locked -/
def Le (H H' : Hp) : Prop := ∀ a o, H a = some o → H' a = some o ∨ (Lk o ∧ ∃ od, H' a = some (.frz od o))
theorem Le.refl (H : Hp) : Le H H := fun _ _ h => .inl h
theorem _root_.L2.Same.toLe {H H' : Hp} (s : Same H H') : Le H H' := fun a o h => .inl (s a o h)
theorem Le.ex {H H' : Hp} (s : Le H H') {a : Addr} {o : HO} (h : H a = some o) (n : ¬ Lk o) : H' a = some o := (s a o h).elim id fun q => (n q.1).elim
theorem Le.rd {H H' : Hp} (s : Le H H') {a : Addr} {o : HO} (h : Rd H a o) : Rd H' a o := by
  rcases h with h | ⟨od, h⟩
  · rcases s a o h with q | ⟨_, od, q⟩
    · exact .inl q
    · exact .inr ⟨od, q⟩
  · exact .inr ⟨od, s.ex h (fun z => z)⟩
theorem Le.trans {H H1 H2 : Hp} (a : Le H H1) (b : Le H1 H2) : Le H H2 := fun x o h => by
  rcases a x o h with q | ⟨l, od, q⟩
  · exact b x o q
  · exact .inr ⟨l, od, b.ex q fun z => z⟩
theorem Le.none {H H' : Hp} (s : Le H H') {a : Addr} (h : H' a = none) : H a = none := by
  cases e : H a with
  | none => rfl
  | some o => rcases s a o e with q | ⟨_, _, q⟩ <;> rw [h] at q <;> cases q
/-- nothing of ours stands there -/
def Nn (H : Hp) (a : Addr) : Prop := H a = none ∨ ∃ ps, H a = some (.tbl ps)
theorem Nn.no {H : Hp} {a : Addr} {o : HO} (n : Nn H a) (h : H a = some o) (t : ∀ ps, o ≠ .tbl ps) : False := by
  rcases n with n | ⟨ps, n⟩ <;> rw [h] at n <;> cases n
  exact t _ rfl
theorem Nn.upd {H : Hp} {a p : Addr} {o : HO} (n : Nn (upd H p o) a) (hp : a = p → Nn H a) (ne : a ≠ p → L2.upd H p o a = H a := fun h => upd_ne h) : Nn H a := by
  by_cases h : a = p
  · exact hp h
  · unfold Nn at n
    rw [ne h] at n
    exact n
/-- a dict of the written part -/
def KDk (K : PySem.W.Frag) (w : World) (p : Addr) (ks : List Str) (vs : List V) : Prop := ks.length = vs.length ∧ (∃ es n, KDict K w p es n) ∧ ∀ z : Str, ∃ r : Option Value, PySem.W.nsIn K p z = some r ∧ L2.RelO ((ks.zip vs).lookup z) r
section
variable (K : PySem.W.Frag) (κ : Kap)
mutual
inductive Rep (ι : List Addr) (F : Hp) : D → V → Prop
  | non : Rep ι F .non .non
  | bl (b : Bool) : Rep ι F (.bl b) (.bl b)
  | int (i : Int) : Rep ι F (.int i) (.int i)
  | str (z : Str) : Rep ι F (.str z) (.str z)
  | ty (n : String) : Rep ι F (.ty n) (.ty n)
  | cls (c : String) : Rep ι F (.cls c) (.ref (κ c))
  | tup {ds : List D} {a : Addr} {vs : List V} : PlainT K F a vs → RepL ι F ds vs → Rep ι F (.tup ds) (.ref a)
  | tuq {ds : List D} {a : Addr} {vs : List V} : SqT K F a vs → RepL ι F ds vs → Rep ι F (.tuq ds) (.ref a)
  | lst {ds : List D} {a : Addr} {vs : List V} : F a = some (.lst vs) → RepL ι F ds vs → Rep ι F (.lst ds) (.ref a)
  | lsk {ds : List D} {a : Addr} {vs : List V} : SqL K F a vs → RepL ι F ds vs → Rep ι F (.lsk ds) (.ref a)
  | dct {ks : List Key} {ds : List D} {a : Addr} {vs : List V} : Rd F a (.dK (ks.zip vs)) → ks.length = vs.length → RepL ι F ds vs → Rep ι F (.dct ks ds) (.ref a)
  | dtt {ks : List (List Key)} {ds : List D} {a : Addr} {vs : List V} : Rd F a (.dT (ks.zip vs)) → ks.length = vs.length → RepL ι F ds vs → Rep ι F (.dtt ks ds) (.ref a)
  | dck {ks : List Str} {ds : List D} {a : Addr} {vs : List V} : KDk K κ.w a ks vs → RepL ι F ds vs → Rep ι F (.dck ks ds) (.ref a)
  | obj {c : String} {ns : List String} {ds : List D} {a dx : Addr} {vs : List V} : F a = some (.ins (κ c) dx ((ns.map Str.ofString).zip vs)) → ns.length = vs.length → RepL ι F ds vs → Rep ι F (.obj c ns ds) (.ref a)
  | ref {i : Nat} {a : Addr} : ι[i]? = some a → Rep ι F (.ref i) (.ref a)
inductive RepL (ι : List Addr) (F : Hp) : List D → List V → Prop
  | nil : RepL ι F [] []
  | cons {d : D} {v : V} {ds : List D} {vs : List V} : Rep ι F d v → RepL ι F ds vs → RepL ι F (d :: ds) (v :: vs)
end
inductive RepO (ι : List Addr) (F : Hp) : AO → HO → Prop
  | lst {ds : List D} {vs : List V} : RepL K κ ι F ds vs → RepO ι F (.lst ds) (.lst vs)
  | dct {ks : List Key} {ds : List D} {vs : List V} : ks.length = vs.length → RepL K κ ι F ds vs → RepO ι F (.dct ks ds) (.dK (ks.zip vs))
  | dctL {ks : List Key} {ds : List D} {vs : List V} {od : Obj} : ks.length = vs.length → RepL K κ ι F ds vs → RepO ι F (.dctL ks ds) (.frz od (.dK (ks.zip vs)))
  | dtt {ks : List (List Key)} {ds : List D} {vs : List V} : ks.length = vs.length → RepL K κ ι F ds vs → RepO ι F (.dtt ks ds) (.dT (ks.zip vs))
  | dttL {ks : List (List Key)} {ds : List D} {vs : List V} {od : Obj} : ks.length = vs.length → RepL K κ ι F ds vs → RepO ι F (.dttL ks ds) (.frz od (.dT (ks.zip vs)))
  | obj {c : String} {ns : List String} {ds : List D} {dx : Addr} {vs : List V} : ns.length = vs.length → RepL K κ ι F ds vs → RepO ι F (.obj c ns ds) (.ins (κ c) dx ((ns.map Str.ofString).zip vs))
structure RelH (ι : List Addr) (F H : Hp) (M : AH) : Prop where
  le : Le F H
  tb : LamX.Tabs κ.T H
  nt : ∀ a ps, F a ≠ some (.tbl ps)
  len : ι.length = M.length
  nd : ι.Nodup
  dis : ∀ a, a ∈ ι → F a = none
  pl : ∀ (i : Nat) (o : AO), M[i]? = some o → ∃ a ho, ι[i]? = some a ∧ H a = some ho ∧ RepO K κ ι F o ho
end
structure Ext (ι : List Addr) (F H : Hp) (ι' : List Addr) (F' H' : Hp) : Prop where
  pre : ι <+: ι'
  frz : Same F F'
  frame : ∀ a o, H a = some o → (a ∉ ι ∨ ∃ od u, o = .frz od u) → (∀ ps, o ≠ .tbl ps) → H' a = some o ∨ (Lk o ∧ ∃ od, H' a = some (.frz od o))
  dom : ∀ a, Nn H' a → Nn H a
  nι : ∀ a, a ∈ ι' → a ∈ ι ∨ Nn H a
  nF : ∀ a o, F' a = some o → F a = some o ∨ Nn H a
theorem Ext.refl {ι : List Addr} {F H : Hp} : Ext ι F H ι F H := ⟨List.prefix_rfl, Same.refl _, fun _ _ h _ _ => .inl h, fun _ h => h, fun _ h => .inl h, fun _ _ h => .inl h⟩
theorem Ext.trans {ι ι1 ι2 : List Addr} {F H F1 H1 F2 H2 : Hp} (a : Ext ι F H ι1 F1 H1) (b : Ext ι1 F1 H1 ι2 F2 H2) : Ext ι F H ι2 F2 H2 where
  pre := a.pre.trans b.pre
  frz := a.frz.trans b.frz
  frame := fun x o h n t => by
    have n1 : ∀ {o' : HO}, H1 x = some o' → (o' = o ∨ ∃ od u, o' = .frz od u) → (x ∉ ι1 ∨ ∃ od u, o' = .frz od u) := fun {o'} _ ho => by
      rcases ho with rfl | ho
      · rcases n with n | n
        · exact .inl fun h1 => (a.nι x h1).elim n fun e => (e.no h t).elim
        · exact .inr n
      · exact .inr ho
    rcases a.frame x o h n t with q | ⟨l, od, q⟩
    · exact b.frame x o q (n1 q (.inl rfl)) t
    · rcases b.frame x _ q (n1 q (.inr ⟨_, _, rfl⟩)) (fun ps z => by cases z) with q2 | ⟨z, _⟩
      · exact .inr ⟨l, od, q2⟩
      · exact z.elim
  dom := fun x h => a.dom x (b.dom x h)
  nι := fun x h => (b.nι x h).elim (a.nι x) fun e => .inr (a.dom x e)
  nF := fun x o h => (b.nF x o h).elim (a.nF x o) fun e => .inr (a.dom x e)
section
variable {K : PySem.W.Frag} {κ : Kap} {ι ι' : List Addr} {F F' H H' : Hp} {M M' : AH}
theorem _root_.L2.SqT.monoF {a : Addr} {xs : List V} (h : SqT K F a xs) (s : Same F F') : SqT K F' a xs := by
  rcases h with h | h
  · rcases h with h | ⟨o, h⟩
    · exact .inl (.inl (s _ _ h))
    · exact .inl (.inr ⟨o, s _ _ h⟩)
  · exact .inr h
theorem _root_.L2.SqL.monoF {a : Addr} {xs : List V} (h : SqL K F a xs) (s : Same F F') : SqL K F' a xs := by
  rcases h with h | h
  · rcases h with h | ⟨o, h⟩
    · exact .inl (.inl (s _ _ h))
    · exact .inl (.inr ⟨o, s _ _ h⟩)
  · exact .inr h
theorem _root_.L2.SqT.monoL {a : Addr} {xs : List V} (h : SqT K F a xs) (s : Le F F') : SqT K F' a xs := by
  rcases h with h | h
  · rcases h with h | ⟨o, h⟩
    · exact .inl (.inl (s.ex h fun z => z))
    · exact .inl (.inr ⟨o, s.ex h fun z => z⟩)
  · exact .inr h
theorem _root_.L2.SqL.monoL {a : Addr} {xs : List V} (h : SqL K F a xs) (s : Le F F') : SqL K F' a xs := by
  rcases h with h | h
  · rcases h with h | ⟨o, h⟩
    · exact .inl (.inl (s.ex h fun z => z))
    · exact .inl (.inr ⟨o, s.ex h fun z => z⟩)
  · exact .inr h
theorem rd_same {a : Addr} {o : HO} (h : Rd F a o) (s : Same F F') : Rd F' a o := s.toLe.rd h
theorem pre_get {i : Nat} {a : Addr} (p : ι <+: ι') (h : ι[i]? = some a) : ι'[i]? = some a := by
  obtain ⟨r, rfl⟩ := p
  rw [List.getElem?_append_left (List.getElem?_eq_some_iff.mp h).1]
  exact h
mutual
theorem Rep.mono (p : ι <+: ι') (s : Same F F') {d : D} {v : V} : Rep K κ ι F d v → Rep K κ ι' F' d v
  | .non => .non
  | .bl b => .bl b
  | .int i => .int i
  | .str z => .str z
  | .ty n => .ty n
  | .cls c => .cls c
  | .tup h r => .tup (h.same s) (RepL.mono p s r)
  | .tuq h r => .tuq (h.monoF s) (RepL.mono p s r)
  | .lst h r => .lst (s _ _ h) (RepL.mono p s r)
  | .lsk h r => .lsk (h.monoF s) (RepL.mono p s r)
  | .dct h l r => .dct (rd_same h s) l (RepL.mono p s r)
  | .dtt h l r => .dtt (rd_same h s) l (RepL.mono p s r)
  | .dck h r => .dck h (RepL.mono p s r)
  | .obj h l r => .obj (s _ _ h) l (RepL.mono p s r)
  | .ref h => .ref (pre_get p h)
theorem RepL.mono (p : ι <+: ι') (s : Same F F') {ds : List D} {vs : List V} : RepL K κ ι F ds vs → RepL K κ ι' F' ds vs
  | .nil => .nil
  | .cons a b => .cons (Rep.mono p s a) (RepL.mono p s b)
end
theorem Rep.ext {d : D} {v : V} (e : Ext ι F H ι' F' H') (r : Rep K κ ι F d v) : Rep K κ ι' F' d v := r.mono e.pre e.frz
theorem RepL.ext {d : List D} {v : List V} (e : Ext ι F H ι' F' H') (r : RepL K κ ι F d v) : RepL K κ ι' F' d v := r.mono e.pre e.frz
theorem RepL.len : ∀ {ds : List D} {vs : List V}, RepL K κ ι F ds vs → ds.length = vs.length
  | _, _, .nil => rfl
  | _, _, .cons _ r => by simp [RepL.len r]
mutual
theorem Rep.clo {d : D} {v : V} : Rep K κ ι F d v → D.clo ι.length d = true
  | .non => by simp [D.clo]
  | .bl b => by simp [D.clo]
  | .int i => by simp [D.clo]
  | .str z => by simp [D.clo]
  | .ty n => by simp [D.clo]
  | .cls c => by simp [D.clo]
  | .tup h r => by simp only [D.clo]; exact RepL.clo r
  | .tuq h r => by simp only [D.clo]; exact RepL.clo r
  | .lst h r => by simp only [D.clo]; exact RepL.clo r
  | .lsk h r => by simp only [D.clo]; exact RepL.clo r
  | .dct h l r => by simp only [D.clo]; exact RepL.clo r
  | .dtt h l r => by simp only [D.clo]; exact RepL.clo r
  | .dck h r => by simp only [D.clo]; exact RepL.clo r
  | .obj h l r => by simp only [D.clo]; exact RepL.clo r
  | .ref h => by simp only [D.clo]; exact decide_eq_true (List.getElem?_eq_some_iff.mp h).1
theorem RepL.clo {ds : List D} {vs : List V} : RepL K κ ι F ds vs → D.cloL ι.length ds = true
  | .nil => by simp [D.cloL]
  | .cons a b => by simp only [D.cloL, Bool.and_eq_true]; exact ⟨Rep.clo a, RepL.clo b⟩
end
end
end G
namespace G
open PySem PySem.Spec PyProof.Rows L2

/-- what is wanted behind a step that gives r; R tells how what it gives is held -/
def Post {α β : Type} (K : PySem.W.Frag) (κ : Kap) (R : List Addr → Hp → α → β → Prop) (ι : List Addr) (F H : Hp) (r : Res α) (Q : β → Hp → Prop) (E : XK) : Prop := match r with
  | .ok d M' => ∀ v H' ι' F', Ext ι F H ι' F' H' → RelH K κ ι' F' H' M' → R ι' F' d v → Q v H'
  | .exc c none M' => ∀ H' ι' F', Ext ι F H ι' F' H' → RelH K κ ι' F' H' M' → E (.ref (κ c)) none H'
  | .exc c (some (ns, ds)) M' => ∀ e H' ι' F' vs, Nn H e → Ext ι F H ι' F' H' → RelH K κ ι' F' H' M' → ns.length = vs.length → RepL K κ ι' F' ds vs → H' e = some (.xd ((ns.map Str.ofString).zip vs)) → E (.ref (κ c)) (some e) H'
  | .stuck => False
/-- what is wanted of an exception, and what else is known of the names -/
structure EK where
  E : L2.St → XK
  χ : List Addr → L2.St → Hp → Hp → Prop
  mono : ∀ ι ι' σ F F' H H', Ext ι F H ι' F' H' → χ ι σ F H → χ ι' σ F' H'
def EK.plain (E : L2.St → XK) : EK := ⟨E, fun _ _ _ _ => True, fun _ _ _ _ _ _ _ _ _ => trivial⟩
def EK.of (E : XK) : EK := EK.plain fun _ => E
def EK.Free (E : EK) : Prop := ∀ ι σ F H i v, E.χ ι σ F H → E.χ ι (σ.set i v) F H
theorem free_plain {E : L2.St → XK} : (EK.plain E).Free := fun _ _ _ _ _ _ _ => trivial
theorem free_of {E : XK} : (EK.of E).Free := fun _ _ _ _ _ _ _ => trivial
/-- how the names are held -/
structure RelS (K : PySem.W.Frag) (κ : Kap) (E : EK) (ι : List Addr) (F H : Hp) (δ : AS) (σ : L2.St) : Prop where
  len : δ.length = σ.length
  pl : ∀ (i : Nat) (d : D), δ[i]? = some (some d) → ∃ v, σ[i]? = some (some v) ∧ Rep K κ ι F d v
  chi : E.χ ι σ F H
def SPost (K : PySem.W.Frag) (κ : Kap) (ι : List Addr) (F H : Hp) (r : SRes) (T : Ends) (E : EK) : Prop := match r with
  | .nx δ M' => ∀ σ' H' ι' F', Ext ι F H ι' F' H' → RelH K κ ι' F' H' M' → RelS K κ E ι' F' H' δ σ' → T.nx σ' H'
  | .bk δ M' => ∀ σ' H' ι' F', Ext ι F H ι' F' H' → RelH K κ ι' F' H' M' → RelS K κ E ι' F' H' δ σ' → T.bk σ' H'
  | .ct δ M' => ∀ σ' H' ι' F', Ext ι F H ι' F' H' → RelH K κ ι' F' H' M' → RelS K κ E ι' F' H' δ σ' → T.ct σ' H'
  | .rt d M' => ∀ v H' ι' F', Ext ι F H ι' F' H' → RelH K κ ι' F' H' M' → Rep K κ ι' F' d v → T.rt v H'
  | .exc c none δ M' => ∀ σ' H' ι' F', Ext ι F H ι' F' H' → RelH K κ ι' F' H' M' → RelS K κ E ι' F' H' δ σ' → E.E σ' (.ref (κ c)) none H'
  | .exc c (some (ns, ds)) δ M' => ∀ σ' e H' ι' F' vs, Nn H e → Ext ι F H ι' F' H' → RelH K κ ι' F' H' M' → RelS K κ E ι' F' H' δ σ' → ns.length = vs.length → RepL K κ ι' F' ds vs → H' e = some (.xd ((ns.map Str.ofString).zip vs)) → E.E σ' (.ref (κ c)) (some e) H'
  | .stuck => False
section
variable {K : PySem.W.Frag} {κ : Kap} {ι ι' : List Addr} {F F' H H' : Hp} {M M' : AH}
theorem RelS.ext {E : EK} {δ : AS} {σ : L2.St} (h : RelS K κ E ι F H δ σ) (e : Ext ι F H ι' F' H') : RelS K κ E ι' F' H' δ σ := ⟨h.len, fun i d q => (h.pl i d q).imp fun _ x => ⟨x.1, x.2.ext e⟩, E.mono _ _ _ _ _ _ _ e h.chi⟩
theorem RelS.set {E : EK} {δ : AS} {σ : L2.St} (h : RelS K κ E ι F H δ σ) (hf : E.Free) {d : D} {v : V} (r : Rep K κ ι F d v) (i : Nat) : RelS K κ E ι F H (δ.set i (some d)) (σ.set i (some v)) := by
  refine ⟨by simp [h.len], fun j e q => ?_, hf _ _ _ _ _ _ h.chi⟩
  by_cases hj : i = j
  · subst hj
    rw [List.getElem?_set_self'] at q
    cases hd : δ[i]? with
    | none => rw [hd] at q; cases q
    | some x =>
      rw [hd] at q
      have hi : i < σ.length := by rw [← h.len]; exact (List.getElem?_eq_some_iff.mp hd).1
      cases q
      exact ⟨v, by rw [List.getElem?_set_self hi], r⟩
  · rw [List.getElem?_set_ne hj] at q ⊢
    exact h.pl j e q
theorem Post.mono {α β : Type} {R : List Addr → Hp → α → β → Prop} {r : Res α} {Q Q' : β → Hp → Prop} {E : XK} (e : Ext ι F H ι' F' H') (h : Post K κ R ι F H r Q E) (hq : ∀ v H, Q v H → Q' v H) : Post K κ R ι' F' H' r Q' E := by
  unfold Post at h ⊢
  split
  · exact fun v H2 ι2 F2 e2 r2 q2 => hq _ _ (h v H2 ι2 F2 (e.trans e2) r2 q2)
  · exact fun H2 ι2 F2 e2 r2 => h H2 ι2 F2 (e.trans e2) r2
  · exact fun x H2 ι2 F2 vs n2 e2 r2 => h x H2 ι2 F2 vs (e.dom _ n2) (e.trans e2) r2
  · exact h
theorem SPost.mono {r : SRes} {T : Ends} {E : EK} (e : Ext ι F H ι' F' H') (h : SPost K κ ι F H r T E) : SPost K κ ι' F' H' r T E := by
  unfold SPost at h ⊢
  split <;> first
    | exact fun v H2 ι2 F2 e2 r2 q2 => h v H2 ι2 F2 (e.trans e2) r2 q2
    | exact fun x y H2 ι2 F2 vs n2 e2 r2 => h x y H2 ι2 F2 vs (e.dom _ n2) (e.trans e2) r2
    | exact h
/-- a step, then another one -/
theorem Post.bind {α β γ ε : Type} {R : List Addr → Hp → α → β → Prop} {S : List Addr → Hp → γ → ε → Prop} {r : Res α} {k : α → AH → Res γ} {Q : ε → Hp → Prop} {E : XK} (h : Post K κ S ι F H (r.bind k) Q E) :
    Post K κ R ι F H r (fun v H1 => ∃ d M1 ι1 F1, Ext ι F H ι1 F1 H1 ∧ RelH K κ ι1 F1 H1 M1 ∧ R ι1 F1 d v ∧ Post K κ S ι1 F1 H1 (k d M1) Q E) E := by
  unfold Res.bind at h
  cases r with
  | ok d M1 => exact fun v H1 ι1 F1 e rh rd => ⟨d, M1, ι1, F1, e, rh, rd, Post.mono e h fun _ _ x => x⟩
  | exc c p M1 =>
    cases p with
    | none => exact h
    | some p => exact h
  | stuck => exact h
theorem SPost.thenS {α β : Type} {R : List Addr → Hp → α → β → Prop} {r : Res α} {k : α → AH → SRes} {δ : AS} {σ : L2.St} {T : Ends} {E : EK} (hs : RelS K κ E ι F H δ σ) (h : SPost K κ ι F H (r.thenS δ k) T E) :
    Post K κ R ι F H r (fun v H1 => ∃ d M1 ι1 F1, Ext ι F H ι1 F1 H1 ∧ RelH K κ ι1 F1 H1 M1 ∧ R ι1 F1 d v ∧ SPost K κ ι1 F1 H1 (k d M1) T E) (E.E σ) := by
  unfold Res.thenS at h
  cases r with
  | ok d M1 => exact fun v H1 ι1 F1 e rh rd => ⟨d, M1, ι1, F1, e, rh, rd, SPost.mono e h⟩
  | exc c p M1 =>
    cases p with
    | none => exact fun H1 ι1 F1 e rh => h σ H1 ι1 F1 e rh (hs.ext e)
    | some p => exact fun x H1 ι1 F1 vs n e rh => h σ x H1 ι1 F1 vs n e rh (hs.ext e)
  | stuck => exact h
/-- an answer that is at hand -/
theorem Post.here {α β : Type} {R : List Addr → Hp → α → β → Prop} {d : α} {v : β} {Q : β → Hp → Prop} {E : XK} (h : Post K κ R ι F H (.ok d M) Q E) (rh : RelH K κ ι F H M) (r : R ι F d v) : Q v H := h v H ι F Ext.refl rh r

/-! ### changes of the heap -/
theorem getAt {α : Type} {l : List α} {i j : Nat} {a : α} (nd : l.Nodup) (hi : l[i]? = some a) (hj : l[j]? = some a) : i = j := by
  obtain ⟨h1, e1⟩ := List.getElem?_eq_some_iff.mp hi
  obtain ⟨h2, e2⟩ := List.getElem?_eq_some_iff.mp hj
  exact (List.getElem_inj nd).mp (e1.trans e2.symm)
/-- tables are kept -/
theorem tabs_keep {T : List (Addr × Str)} (t : LamX.Tabs T H) (k : ∀ b o, H b = some o → (∀ ps, o ≠ .tbl ps) → (∀ φ, o = .ext φ → H' b = some o)) (kt : ∀ b ps, H b = some (.tbl ps) → H' b = some (.tbl ps)) : LamX.Tabs T H' := fun p hp => by
  obtain ⟨ps, h1, h2, h3⟩ := t p hp
  refine ⟨ps, kt _ _ h1, h2, fun pos cv hc => ?_⟩
  obtain ⟨c, e1, e2⟩ := h3 pos cv hc
  exact ⟨c, e1, k _ _ e2 LamX.codeO_ne _ rfl⟩
theorem tabs_same {T : List (Addr × Str)} (t : LamX.Tabs T H) (s : Same H H') : LamX.Tabs T H' := tabs_keep t (fun b o h _ _ _ => s _ _ h) fun b ps h => s _ _ h
/-- a new thing that never changes -/
theorem RelH.newF (h : RelH K κ ι F H M) {p : Addr} (hp : H p = none) (o : HO) (ht : ∀ ps, o ≠ .tbl ps := by intro ps z; cases z) : Ext ι F H ι (upd F p o) (upd H p o) ∧ RelH K κ ι (upd F p o) (upd H p o) M := by
  have fp : F p = none := by
    cases e : F p with
    | none => rfl
    | some o => rw [h.le.none hp] at e; cases e
  have pn : p ∉ ι := fun hm => by
    obtain ⟨i, hi⟩ := List.mem_iff_getElem?.mp hm
    have : i < M.length := by rw [← h.len]; exact (List.getElem?_eq_some_iff.mp hi).1
    obtain ⟨a, ho, e1, e2, _⟩ := h.pl i M[i] (List.getElem?_eq_getElem this)
    rw [hi] at e1
    cases e1
    rw [hp] at e2
    cases e2
  have sF : Same F (upd F p o) := sameI fp
  refine ⟨⟨List.prefix_rfl, sF, fun a u e _ _ => .inl (sameI hp a u e), fun a e => ?_, fun a h => .inl h, fun a u e => ?_⟩, ⟨fun a u e => ?_, tabs_same h.tb (sameI hp), fun a ps e => ?_, h.len, h.nd, fun a ha => ?_, fun i u e => ?_⟩⟩
  · exact e.upd fun z => by rw [z]; exact .inl hp
  · by_cases ha : a = p
    · rw [ha]; exact .inr (.inl hp)
    · rw [upd_ne ha] at e; exact .inl e
  · by_cases ha : a = p
    · rw [ha, upd_same] at e ⊢; exact .inl e
    · rw [upd_ne ha] at e ⊢; exact h.le _ _ e
  · by_cases ha : a = p
    · rw [ha, upd_same] at e; exact ht ps (Option.some.inj e)
    · rw [upd_ne ha] at e; exact h.nt _ _ e
  · rw [upd_ne (fun e => by rw [e] at ha; exact pn ha)]
    exact h.dis a ha
  · obtain ⟨a, ho, e1, e2, r⟩ := h.pl i u e
    refine ⟨a, ho, e1, sameI hp _ _ e2, ?_⟩
    cases r with
    | lst r => exact .lst (r.mono List.prefix_rfl sF)
    | dct l r => exact .dct l (r.mono List.prefix_rfl sF)
    | dctL l r => exact .dctL l (r.mono List.prefix_rfl sF)
    | dtt l r => exact .dtt l (r.mono List.prefix_rfl sF)
    | dttL l r => exact .dttL l (r.mono List.prefix_rfl sF)
    | obj l r => exact .obj l (r.mono List.prefix_rfl sF)
theorem RepO.mono {o : AO} {ho : HO} (p : ι <+: ι') (s : Same F F') (r : RepO K κ ι F o ho) : RepO K κ ι' F' o ho := by
  cases r with
  | lst r => exact .lst (r.mono p s)
  | dct l r => exact .dct l (r.mono p s)
  | dctL l r => exact .dctL l (r.mono p s)
  | dtt l r => exact .dtt l (r.mono p s)
  | dttL l r => exact .dttL l (r.mono p s)
  | obj l r => exact .obj l (r.mono p s)
/-- an address that is held is taken -/
theorem RelH.taken (h : RelH K κ ι F H M) {a : Addr} (ha : a ∈ ι) : ∃ (i : Nat) (o : AO) (ho : HO), ι[i]? = some a ∧ M[i]? = some o ∧ H a = some ho ∧ RepO K κ ι F o ho := by
  obtain ⟨i, hi⟩ := List.mem_iff_getElem?.mp ha
  have hl : i < M.length := by rw [← h.len]; exact (List.getElem?_eq_some_iff.mp hi).1
  obtain ⟨a', ho, e1, e2, r⟩ := h.pl i M[i] (List.getElem?_eq_getElem hl)
  rw [hi] at e1
  cases e1
  exact ⟨i, _, ho, hi, List.getElem?_eq_getElem hl, e2, r⟩
theorem RelH.notin (h : RelH K κ ι F H M) {p : Addr} (hp : H p = none) : p ∉ ι := fun hm => by
  obtain ⟨i, o, ho, _, _, e, _⟩ := h.taken hm
  rw [hp] at e
  cases e
theorem RelH.freeF (h : RelH K κ ι F H M) {p : Addr} (hp : H p = none) : F p = none := by
  cases e : F p with
  | none => rfl
  | some o => rw [h.le.none hp] at e; cases e
/-- a thing that was made beside is taken in -/
theorem RelH.adopt (h : RelH K κ ι F H M) {p : Addr} {o : AO} {ho : HO} (hp : H p = some ho) (hF : F p = none) (hn : p ∉ ι) (r : RepO K κ ι F o ho) : RelH K κ (ι ++ [p]) F H (M ++ [o]) := by
  refine ⟨h.le, h.tb, h.nt, by simp [h.len], ?_, fun a ha => ?_, fun i u e => ?_⟩
  · rw [List.nodup_append]
    exact ⟨h.nd, by simp, fun a ha b hb => by
      have : b = p := by simpa using hb
      subst this
      exact fun e => by rw [e] at ha; exact hn ha⟩
  · rcases List.mem_append.mp ha with ha | ha
    · exact h.dis a ha
    · have : a = p := by simpa using ha
      rw [this]; exact hF
  · by_cases hi : i < M.length
    · rw [List.getElem?_append_left hi] at e
      obtain ⟨a, ho', e1, e2, r'⟩ := h.pl i u e
      exact ⟨a, ho', pre_get (List.prefix_append ..) e1, e2, r'.mono (List.prefix_append ..) (Same.refl _)⟩
    · rw [List.getElem?_append_right (by omega)] at e
      have hi0 : i - M.length = 0 := by
        have := (List.getElem?_eq_some_iff.mp e).1
        simp at this
        omega
      rw [hi0] at e
      cases e
      refine ⟨p, ho, ?_, hp, r.mono (List.prefix_append ..) (Same.refl _)⟩
      have : i = ι.length := by have := h.len; omega
      rw [this]
      simp
/-- a new thing that may change -/
theorem RelH.new (h : RelH K κ ι F H M) {p : Addr} {o : AO} {ho : HO} (hp : H p = none) (r : RepO K κ ι F o ho) : Ext ι F H (ι ++ [p]) F (upd H p ho) ∧ RelH K κ (ι ++ [p]) F (upd H p ho) (M ++ [o]) ∧ (ι ++ [p])[M.length]? = some p := by
  have h1 : RelH K κ ι F (upd H p ho) M := ⟨h.le.trans (Same.toLe (sameI hp)), tabs_same h.tb (sameI hp), h.nt, h.len, h.nd, h.dis, fun i u e => by
    obtain ⟨a, ho', e1, e2, r'⟩ := h.pl i u e
    exact ⟨a, ho', e1, sameI hp _ _ e2, r'⟩⟩
  refine ⟨⟨List.prefix_append .., Same.refl _, fun a u e _ _ => .inl (sameI hp a u e), fun a e => ?_, fun a ha => ?_, fun a u e => .inl e⟩, h1.adopt upd_same (h.freeF hp) (h.notin hp) r, by rw [← h.len]; simp⟩
  · exact e.upd fun z => by rw [z]; exact .inl hp
  · rcases List.mem_append.mp ha with ha | ha
    · exact .inl ha
    · have : a = p := by simpa using ha
      rw [this]; exact .inr (.inl hp)
/-- a thing that is held is no table, and is locked only as a dict -/
theorem RepO.noTbl {o : AO} {ho : HO} (r : RepO K κ ι F o ho) : (∀ ps, ho ≠ .tbl ps) ∧ ∀ φ, ho ≠ .ext φ := by
  cases r <;> exact ⟨(fun _ z => by cases z), (fun _ z => by cases z)⟩
/-- what is not locked -/
def AO.open : AO → Bool
  | .dctL _ _ => false
  | .dttL _ _ => false
  | _ => true
theorem RepO.noFrz {o : AO} {ho : HO} (r : RepO K κ ι F o ho) (h : o.open = true) : ∀ od u, ho ≠ .frz od u := by
  cases r <;> first
    | (cases h; done)
    | exact fun _ _ z => by cases z
/-- what may change changes -/
theorem RelH.put (h : RelH K κ ι F H M) {i : Nat} {a : Addr} {o o0 : AO} {ho : HO} (ha : ι[i]? = some a) (h0 : M[i]? = some o0) (ho0 : o0.open = true) (r : RepO K κ ι F o ho) : Ext ι F H ι F (upd H a ho) ∧ RelH K κ ι F (upd H a ho) (M.set i o) := by
  have hm : a ∈ ι := List.mem_iff_getElem?.mpr ⟨i, ha⟩
  obtain ⟨b, hb, e1, hHa, ra⟩ := h.pl i o0 h0
  rw [ha] at e1
  cases e1
  have nt := ra.noTbl
  have nf := ra.noFrz ho0
  refine ⟨⟨List.prefix_rfl, Same.refl _, fun b u e n t => .inl (by
      rw [upd_ne (fun z => by
        rw [z, hHa] at e
        cases e
        rcases n with n | ⟨od, u, n⟩
        · exact n (z ▸ hm)
        · exact nf _ _ n)]
      exact e), fun b e => ?_, fun b hb => .inl hb, fun b u e => .inl e⟩, ⟨fun b u e => ?_, ?_, h.nt, by simp [h.len], h.nd, h.dis, fun j u e => ?_⟩⟩
  · by_cases hb : b = a
    · rw [hb] at e
      exact (e.no upd_same r.noTbl.1).elim
    · exact e.upd fun z => (hb z).elim
  · have hb : b ≠ a := fun z => by
      rw [z, h.dis a hm] at e
      cases e
    rw [upd_ne hb]
    exact h.le _ _ e
  · refine tabs_keep h.tb (fun b o e t φ hφ => ?_) fun b ps e => ?_
    · rw [upd_ne (fun z => by rw [z, hHa] at e; cases e; exact nt.2 _ hφ)]; exact e
    · rw [upd_ne (fun z => by rw [z, hHa] at e; cases e; exact nt.1 _ rfl)]; exact e
  · by_cases hj : i = j
    · subst hj
      rw [List.getElem?_set_self (by rw [← h.len]; exact (List.getElem?_eq_some_iff.mp ha).1)] at e
      cases e
      exact ⟨a, ho, ha, upd_same, r⟩
    · rw [List.getElem?_set_ne hj] at e
      obtain ⟨b, ho', e1, e2, r'⟩ := h.pl j u e
      have hb : b ≠ a := fun z => hj (getAt h.nd ha (z ▸ e1))
      exact ⟨b, ho', e1, by rw [upd_ne hb]; exact e2, r'⟩
/-- what stands at a place -/
theorem RelH.at_ (h : RelH K κ ι F H M) {i : Nat} {a : Addr} {o : AO} (ha : ι[i]? = some a) (ho : M[i]? = some o) : ∃ u, H a = some u ∧ RepO K κ ι F o u := by
  obtain ⟨b, u, e1, e2, r⟩ := h.pl i o ho
  rw [ha] at e1
  cases e1
  exact ⟨u, e2, r⟩
end
end G
namespace G
open PySem PySem.Spec PyProof.Rows L2
/-! ### a def's end: what is new stands whole in the answer, the rest is let go -/
def frzN : Nat := 12
def fin (M : AH) (r : Res D) : Res D := match r with
  | .ok d M' => if okOld M M' then (match frz M' M.length frzN d with | some d' => .ok d' (M'.take M.length) | none => .stuck) else .stuck
  | .exc c none M' => if okOld M M' then .exc c none (M'.take M.length) else .stuck
  | .exc c (some (ns, ds)) M' => if okOld M M' then (match frzL M' M.length frzN ds with | some ds' => .exc c (some (ns, ds')) (M'.take M.length) | none => .stuck) else .stuck
  | .stuck => .stuck
open Classical in
noncomputable def Fz (ι' : List Addr) (n : Nat) (F' H' : Hp) : Hp := fun a => if a ∈ ι'.drop n then H' a else F' a
section
variable {K : PySem.W.Frag} {κ : Kap} {ι ι' : List Addr} {F F' H H' : Hp} {M M' : AH} {n : Nat}
theorem drop_some (h : RelH K κ ι' F' H' M') {a : Addr} (ha : a ∈ ι'.drop n) : F' a = none := h.dis a (List.mem_of_mem_drop ha)
theorem Fz_same (h : RelH K κ ι' F' H' M') : Same F' (Fz ι' n F' H') := fun a u e => by
  unfold Fz
  by_cases ha : a ∈ ι'.drop n
  · rw [drop_some h ha] at e; cases e
  · rw [if_neg ha]; exact e
theorem Fz_le (h : RelH K κ ι' F' H' M') : Le (Fz ι' n F' H') H' := fun a u e => by
  unfold Fz at e
  split at e
  · exact .inl e
  · exact h.le _ _ e
theorem take_get {i : Nat} {a : Addr} (h : ι'[i]? = some a) (hi : i < n) : (ι'.take n)[i]? = some a := by
  rw [List.getElem?_take, if_pos hi]; exact h
mutual
theorem Rep.take (s : Same F F') {d : D} {v : V} : Rep K κ ι' F d v → D.clo n d = true → Rep K κ (ι'.take n) F' d v
  | .non, _ => .non
  | .bl b, _ => .bl b
  | .int i, _ => .int i
  | .str z, _ => .str z
  | .ty n, _ => .ty n
  | .cls c, _ => .cls c
  | .tup h r, c => .tup (h.same s) (RepL.take s r (by simpa only [D.clo] using c))
  | .tuq h r, c => .tuq (h.monoF s) (RepL.take s r (by simpa only [D.clo] using c))
  | .lst h r, c => .lst (s _ _ h) (RepL.take s r (by simpa only [D.clo] using c))
  | .lsk h r, c => .lsk (h.monoF s) (RepL.take s r (by simpa only [D.clo] using c))
  | .dct h l r, c => .dct (rd_same h s) l (RepL.take s r (by simpa only [D.clo] using c))
  | .dtt h l r, c => .dtt (rd_same h s) l (RepL.take s r (by simpa only [D.clo] using c))
  | .dck h r, c => .dck h (RepL.take s r (by simpa only [D.clo] using c))
  | .obj h l r, c => .obj (s _ _ h) l (RepL.take s r (by simpa only [D.clo] using c))
  | .ref h, c => .ref (take_get h (by simpa only [D.clo, decide_eq_true_eq] using c))
theorem RepL.take (s : Same F F') {ds : List D} {vs : List V} : RepL K κ ι' F ds vs → D.cloL n ds = true → RepL K κ (ι'.take n) F' ds vs
  | .nil, _ => .nil
  | .cons a b, c => by
    simp only [D.cloL, Bool.and_eq_true] at c
    exact .cons (Rep.take s a c.1) (RepL.take s b c.2)
end
theorem RepO.take (s : Same F F') {o : AO} {u : HO} (r : RepO K κ ι' F o u) (c : AO.clo n o = true) : RepO K κ (ι'.take n) F' o u := by
  cases r with
  | lst r => exact .lst (r.take s c)
  | dct l r => exact .dct l (r.take s c)
  | dctL l r => exact .dctL l (r.take s c)
  | dtt l r => exact .dtt l (r.take s c)
  | dttL l r => exact .dttL l (r.take s c)
  | obj l r => exact .obj l (r.take s c)
theorem RepO.clo {o : AO} {u : HO} (r : RepO K κ ι F o u) : AO.clo ι.length o = true := by
  cases r with
  | lst r => exact r.clo
  | dct l r => exact r.clo
  | dctL l r => exact r.clo
  | dtt l r => exact r.clo
  | dttL l r => exact r.clo
  | obj l r => exact r.clo
theorem mem_drop_of {i : Nat} {a : Addr} (h : ι'[i]? = some a) (hi : n ≤ i) : a ∈ ι'.drop n := by
  refine List.mem_iff_getElem?.mpr ⟨i - n, ?_⟩
  rw [List.getElem?_drop]
  have : n + (i - n) = i := by omega
  rw [this]
  exact h
mutual
theorem frz_rep (h : RelH K κ ι' F' H' M') : ∀ (k : Nat) (d d' : D) (v : V), frz M' n k d = some d' → Rep K κ ι' F' d v → Rep K κ (ι'.take n) (Fz ι' n F' H') d' v := fun k d d' v e r => by
  unfold frz at e
  by_cases hc : D.clo n d = true
  · rw [if_pos hc] at e
    cases e
    exact r.take (Fz_same h) hc
  · rw [if_neg hc] at e
    cases k with
    | zero => cases e
    | succ k =>
      have ih := frzL_rep h k
      cases r with
      | non => simp [D.clo] at hc
      | bl b => simp [D.clo] at hc
      | int i => simp [D.clo] at hc
      | str z => simp [D.clo] at hc
      | ty n => simp [D.clo] at hc
      | cls c => simp [D.clo] at hc
      | tup q r =>
        obtain ⟨x, hx, rfl⟩ := Option.map_eq_some_iff.mp e
        exact .tup (q.same (Fz_same h)) (ih _ _ _ hx r)
      | tuq q r =>
        obtain ⟨x, hx, rfl⟩ := Option.map_eq_some_iff.mp e
        exact .tuq (q.monoF (Fz_same h)) (ih _ _ _ hx r)
      | lst q r =>
        obtain ⟨x, hx, rfl⟩ := Option.map_eq_some_iff.mp e
        exact .lst (Fz_same h _ _ q) (ih _ _ _ hx r)
      | lsk q r =>
        obtain ⟨x, hx, rfl⟩ := Option.map_eq_some_iff.mp e
        exact .lsk (q.monoF (Fz_same h)) (ih _ _ _ hx r)
      | dct q l r =>
        obtain ⟨x, hx, rfl⟩ := Option.map_eq_some_iff.mp e
        exact .dct (rd_same q (Fz_same h)) l (ih _ _ _ hx r)
      | dtt q l r =>
        obtain ⟨x, hx, rfl⟩ := Option.map_eq_some_iff.mp e
        exact .dtt (rd_same q (Fz_same h)) l (ih _ _ _ hx r)
      | dck q r =>
        obtain ⟨x, hx, rfl⟩ := Option.map_eq_some_iff.mp e
        exact .dck q (ih _ _ _ hx r)
      | obj q l r =>
        obtain ⟨x, hx, rfl⟩ := Option.map_eq_some_iff.mp e
        exact .obj (Fz_same h _ _ q) l (ih _ _ _ hx r)
      | @ref i a q =>
        have hi : n ≤ i := by
          simp only [D.clo, decide_eq_true_eq] at hc
          omega
        have hm := mem_drop_of q hi
        have e1 : Fz ι' n F' H' a = H' a := by unfold Fz; rw [if_pos hm]
        simp only at e
        cases hM : M'[i]? with
        | none => rw [hM] at e; cases e
        | some o =>
          rw [hM] at e
          obtain ⟨u, hu, ru⟩ := h.at_ q hM
          cases ru with
          | lst ru =>
            obtain ⟨x, hx, rfl⟩ := Option.map_eq_some_iff.mp e
            exact .lst (e1.trans hu) (ih _ _ _ hx ru)
          | dct l ru =>
            obtain ⟨x, hx, rfl⟩ := Option.map_eq_some_iff.mp e
            exact .dct (.inl (e1.trans hu)) l (ih _ _ _ hx ru)
          | dctL l ru =>
            obtain ⟨x, hx, rfl⟩ := Option.map_eq_some_iff.mp e
            exact .dct (.inr ⟨_, e1.trans hu⟩) l (ih _ _ _ hx ru)
          | dtt l ru =>
            obtain ⟨x, hx, rfl⟩ := Option.map_eq_some_iff.mp e
            exact .dtt (.inl (e1.trans hu)) l (ih _ _ _ hx ru)
          | dttL l ru =>
            obtain ⟨x, hx, rfl⟩ := Option.map_eq_some_iff.mp e
            exact .dtt (.inr ⟨_, e1.trans hu⟩) l (ih _ _ _ hx ru)
          | obj l ru =>
            obtain ⟨x, hx, rfl⟩ := Option.map_eq_some_iff.mp e
            exact .obj (e1.trans hu) l (ih _ _ _ hx ru)
  termination_by k d => (k, 0)
theorem frzL_rep (h : RelH K κ ι' F' H' M') : ∀ (k : Nat) (ds ds' : List D) (vs : List V), frzL M' n k ds = some ds' → RepL K κ ι' F' ds vs → RepL K κ (ι'.take n) (Fz ι' n F' H') ds' vs := fun k ds ds' vs e r => by
  cases ds with
  | nil =>
    unfold frzL at e
    cases r
    cases e
    exact .nil
  | cons d ds =>
    unfold frzL at e
    cases r with
    | cons a b =>
      cases e1 : frz M' n k d with
      | none => rw [e1] at e; cases e
      | some x =>
        cases e2 : frzL M' n k ds with
        | none => rw [e1, e2] at e; cases e
        | some y =>
          rw [e1, e2] at e
          cases e
          exact .cons (frz_rep h k d x _ e1 a) (frzL_rep h k ds y _ e2 b)
  termination_by k ds => (k, ds.length + 1)
end
theorem okOld_at (h : okOld M M' = true) {i : Nat} (hi : i < M.length) : ∃ a b, M[i]? = some a ∧ M'[i]? = some b ∧ (b = a ∨ AO.clo M.length b = true) := by
  have q := List.all_eq_true.mp h i (List.mem_range.mpr hi)
  cases ha : M[i]? with
  | none => rw [ha] at q; cases q
  | some a =>
    cases hb : M'[i]? with
    | none => rw [ha, hb] at q; cases q
    | some b =>
      rw [ha, hb] at q
      rcases Bool.or_eq_true_iff.mp q with q | q
      · exact ⟨a, b, rfl, rfl, .inl (AO.beq_eq q)⟩
      · exact ⟨a, b, rfl, rfl, .inr q⟩
/-- what is new is let go -/
theorem fin_ext (h : RelH K κ ι F H M) (e : Ext ι F H ι' F' H') (h' : RelH K κ ι' F' H' M') (ok : okOld M M' = true) :
    ι'.take M.length = ι ∧ Ext ι F H ι (Fz ι' M.length F' H') H' ∧ RelH K κ ι (Fz ι' M.length F' H') H' (M'.take M.length) := by
  have hl := h.len
  have ht : ι'.take M.length = ι := by
    obtain ⟨r, hr⟩ := e.pre
    rw [← hr, ← hl, List.take_left]
  have hd : ∀ a, a ∈ ι → a ∉ ι'.drop M.length := fun a ha hb => by
    have nd := h'.nd
    rw [← List.take_append_drop M.length ι', ht, List.nodup_append] at nd
    exact nd.2.2 a ha a hb rfl
  refine ⟨ht, ⟨List.prefix_rfl, e.frz.trans (Fz_same h'), e.frame, e.dom, fun a ha => .inl ha, fun a u q => ?_⟩, ⟨Fz_le h', h'.tb, fun a ps q => ?_, ?_, h.nd, fun a ha => ?_, fun i o q => ?_⟩⟩
  · unfold Fz at q
    by_cases ha : a ∈ ι'.drop M.length
    · refine (e.nι a (List.mem_of_mem_drop ha)).elim (fun z => absurd ha (hd a z)) .inr
    · rw [if_neg ha] at q
      exact e.nF a u q
  · unfold Fz at q
    split at q
    · rename_i ha
      obtain ⟨_, _, _, _, _, e, r⟩ := h'.taken (List.mem_of_mem_drop ha)
      rw [q] at e
      cases e
      cases r
    · exact h'.nt _ _ q
  · rw [List.length_take]
    have h1 : M.length ≤ M'.length := by
      rw [← h'.len, ← hl]
      exact e.pre.length_le
    omega
  · unfold Fz
    rw [if_neg (hd a ha)]
    exact h'.dis a (e.pre.subset ha)
  · rw [List.getElem?_take] at q
    split at q
    · rename_i hi
      obtain ⟨a, ho, e1, e2, r⟩ := h'.pl i o q
      obtain ⟨x, y, hx, hy, hxy⟩ := okOld_at ok hi
      rw [q] at hy
      cases hy
      have hc : AO.clo M.length o = true := by
        rcases hxy with z | z
        · obtain ⟨_, _, _, _, r0⟩ := h.pl i x hx
          rw [z, ← hl]
          exact r0.clo
        · exact z
      refine ⟨a, ho, ?_, e2, ?_⟩
      · rw [← ht]; exact take_get e1 hi
      · rw [← ht]
        exact r.take (Fz_same h') hc
    · cases q
theorem fin_post {r : Res D} {Q : VK} {E : XK} (h : RelH K κ ι F H M) (p : Post K κ (Rep K κ) ι F H (fin M r) Q E) : Post K κ (Rep K κ) ι F H r Q E := by
  cases r with
  | ok d M' =>
    intro v H' ι' F' e h' rd
    simp only [fin] at p
    split at p
    · rename_i ok
      obtain ⟨ht, e2, h2⟩ := fin_ext h e h' ok
      cases hf : frz M' M.length frzN d with
      | none => rw [hf] at p; exact p.elim
      | some d' =>
        rw [hf] at p
        have r2 := frz_rep h' frzN d d' v hf rd
        rw [ht] at r2
        exact p v H' ι _ e2 h2 r2
    · exact p.elim
  | exc c q M' =>
    cases q with
    | none =>
      intro H' ι' F' e h'
      simp only [fin] at p
      split at p
      · rename_i ok
        obtain ⟨ht, e2, h2⟩ := fin_ext h e h' ok
        exact p H' ι _ e2 h2
      · exact p.elim
    | some q =>
      obtain ⟨ns, ds⟩ := q
      intro x H' ι' F' vs nx e h' hl rd hx
      simp only [fin] at p
      split at p
      · rename_i ok
        obtain ⟨ht, e2, h2⟩ := fin_ext h e h' ok
        cases hf : frzL M' M.length frzN ds with
        | none => rw [hf] at p; exact p.elim
        | some d' =>
          rw [hf] at p
          have r2 := frzL_rep h' frzN ds d' vs hf rd
          rw [ht] at r2
          exact p x H' ι _ vs nx e2 h2 hl r2 hx
      · exact p.elim
  | stuck => exact p.elim

/-! ### defs -/
/-- what a def does, told of data -/
abbrev FD := List D → AH → Res D
def outS (r : SRes) : Res D := match r with
  | .nx _ M => .ok .non M
  | .rt d M => .ok d M
  | .exc c p _ M => .exc c p M
  | _ => .stuck
def fnF (n p : Nat) (fs : AS → AH → SRes) : FD := fun ds M => if ds.length = p then fin M (outS (fs (ds.map some ++ List.replicate (n - ds.length) none) M)) else .stuck
def conc (K : PySem.W.Frag) (κ : Kap) (f : FD) : Sp := fun vs H Q E => ∃ ds M ι F, RelH K κ ι F H M ∧ RepL K κ ι F ds vs ∧ Post K κ (Rep K κ) ι F H (f ds M) Q E
/-- a block, lifted -/
def LS (K : PySem.W.Frag) (κ : Kap) (E : EK) (t : TS) (f : AS → AH → SRes) : Prop := ∀ σ δ H M ι F T, RelS K κ E ι F H δ σ → RelH K κ ι F H M → SPost K κ ι F H (f δ M) T E → t T σ H
theorem conc_len {N ps : List Str} {fs : AS → AH → SRes} (vs : List V) (H : Hp) (Q : VK) (E : XK) (h : conc K κ (fnF N.length ps.length fs) vs H Q E) : vs.length = ps.length := by
  obtain ⟨ds, M, ι, F, rh, rd, p⟩ := h
  unfold fnF at p
  split at p
  · rename_i hl
    rw [← rd.len, hl]
  · exact p.elim
theorem relS_start {N : List Str} {ds : List D} {vs : List V} {E : XK} (r : RepL K κ ι F ds vs) : RelS K κ (EK.of E) ι F H (ds.map some ++ List.replicate (N.length - ds.length) none) (L2.start N vs) := by
  have hl := r.len
  refine ⟨by unfold L2.start; simp [hl], fun i d e => ?_, trivial⟩
  unfold L2.start
  by_cases hi : i < ds.length
  · rw [List.getElem?_append_left (by simpa using hi), List.getElem?_map] at e
    have e' : ds[i]? = some d := by
      cases q : ds[i]? with
      | none => rw [q] at e; cases e
      | some x => rw [q] at e; cases e; rfl
    have get : ∀ {ds : List D} {vs : List V} {i : Nat}, RepL K κ ι F ds vs → ds[i]? = some d → ∃ v, vs[i]? = some v ∧ Rep K κ ι F d v := by
      intro ds vs i r e
      induction i generalizing ds vs with
      | zero => cases r with
        | nil => cases e
        | cons a b => cases e; exact ⟨_, rfl, a⟩
      | succ i ih => cases r with
        | nil => cases e
        | cons a b => exact ih b (by simpa using e)
    obtain ⟨v, hv, rv⟩ := get r e'
    refine ⟨v, ?_, rv⟩
    rw [List.getElem?_append_left (by rw [List.length_map]; omega), List.getElem?_map, hv]
    rfl
  · rw [List.getElem?_append_right (by simpa using hi), List.getElem?_replicate] at e
    split at e <;> cases e
/-- the body's reading from the lifted one -/
theorem body_of {N ps : List Str} {fs : AS → AH → SRes} {t : TS} {vs : List V} {Q : VK} {E : XK} (L : LS K κ (EK.of E) t fs) (h : conc K κ (fnF N.length ps.length fs) vs H Q E) : t { nx := fun _ H' => Q .non H', rt := Q } (L2.start N vs) H := by
  obtain ⟨ds, M, ι, F, rh, rd, p⟩ := h
  unfold fnF at p
  split at p
  · have p := fin_post rh p
    refine L _ _ H M ι F _ (relS_start rd) rh ?_
    revert p
    generalize fs _ M = r
    intro p
    cases r with
    | nx δ M' => exact fun σ' H' ι' F' e h' _ => p .non H' ι' F' e h' .non
    | rt d M' => exact p
    | exc c q δ M' =>
      cases q with
      | none => exact fun σ' H' ι' F' e h' _ => p H' ι' F' e h'
      | some q => exact fun σ' x H' ι' F' vs nx e h' _ hl rd hx => p x H' ι' F' vs nx e h' hl rd hx
    | bk δ M' => exact p.elim
    | ct δ M' => exact p.elim
    | stuck => exact p.elim
  · exact p.elim
end
end G
namespace G
open PySem PySem.Spec PyProof.Rows L2
/-! ### lifted judgements -/
abbrev FE := AS → AH → Res D
abbrev FT := AS → AH → Res Bool
abbrev FA := AS → AH → Res (List D)
abbrev FO := AS → AH → Res (Option Int)
abbrev FS := AS → AH → SRes
def REq {α : Type} : List Addr → Hp → α → α → Prop := fun _ _ a b => a = b
section
variable (K : PySem.W.Frag) (κ : Kap) (E : EK)
def LE (t : TE) (f : FE) : Prop := ∀ σ δ H M ι F Q, RelS K κ E ι F H δ σ → RelH K κ ι F H M → Post K κ (Rep K κ) ι F H (f δ M) Q (E.E σ) → t σ H Q
def LT (t : TT) (f : FT) : Prop := ∀ σ δ H M ι F Q, RelS K κ E ι F H δ σ → RelH K κ ι F H M → Post K κ REq ι F H (f δ M) Q (E.E σ) → t σ H Q
def LA (t : TA) (f : FA) : Prop := ∀ σ δ H M ι F Q, RelS K κ E ι F H δ σ → RelH K κ ι F H M → Post K κ (RepL K κ) ι F H (f δ M) Q (E.E σ) → t σ H Q
def LO (t : TO) (f : FO) : Prop := ∀ σ δ H M ι F Q, RelS K κ E ι F H δ σ → RelH K κ ι F H M → Post K κ REq ι F H (f δ M) Q (E.E σ) → t σ H Q
/-- operators, calls of built-ins, by values -/
def LR2 (r : R2) (g : D → D → AH → Res D) : Prop := ∀ H M ι F x y v w Q (e : XK), RelH K κ ι F H M → Rep K κ ι F x v → Rep K κ ι F y w → Post K κ (Rep K κ) ι F H (g x y M) Q e → r v w H Q
def LR1 (r : V → Hp → VK → Prop) (g : D → AH → Res D) : Prop := ∀ H M ι F x v Q (e : XK), RelH K κ ι F H M → Rep K κ ι F x v → Post K κ (Rep K κ) ι F H (g x M) Q e → r v H Q
def LRN (r : List V → Hp → VK → Prop) (g : List D → AH → Res D) : Prop := ∀ H M ι F x v Q (e : XK), RelH K κ ι F H M → RepL K κ ι F x v → Post K κ (Rep K κ) ι F H (g x M) Q e → r v H Q
def LRM (r : V → List V → Hp → VK → Prop) (g : D → List D → AH → Res D) : Prop := ∀ H M ι F x xs v vs Q (e : XK), RelH K κ ι F H M → Rep K κ ι F x v → RepL K κ ι F xs vs → Post K κ (Rep K κ) ι F H (g x xs M) Q e → r v vs H Q
end
/-! the functions -/
def fVar (i : Nat) : FE := fun δ M => match δ[i]? with | some (some d) => .ok d M | _ => .stuck
def fC (d : D) : FE := fun _ M => .ok d M
def fOp (g : D → D → AH → Res D) (fa fb : FE) : FE := fun δ M => (fa δ M).bind fun x M1 => (fb δ M1).bind fun y M2 => g x y M2
def fUn (g : D → AH → Res D) (fa : FE) : FE := fun δ M => (fa δ M).bind fun x M1 => g x M1
def asB (d : D) (M : AH) : Res Bool := match d with | .bl b => .ok b M | _ => .stuck
def fTest (fe : FE) : FT := fun δ M => (fe δ M).bind asB
def listOf (d : D) (M : AH) : Option (List D) := match d with
  | .lst xs => some xs
  | .lsk xs => some xs
  | .ref i => match M[i]? with | some (.lst xs) => some xs | _ => none
  | _ => none
def tupOf (d : D) : Option (List D) := match d with
  | .tup xs => some xs
  | .tuq xs => some xs
  | _ => none
def dctOf (d : D) (M : AH) : Option (List Key × List D) := match d with
  | .dct ks xs => some (ks, xs)
  | .ref i => match M[i]? with | some (.dct ks xs) => some (ks, xs) | some (.dctL ks xs) => some (ks, xs) | _ => none
  | _ => none
def dttOf (d : D) (M : AH) : Option (List (List Key) × List D) := match d with
  | .dtt ks xs => some (ks, xs)
  | .ref i => match M[i]? with | some (.dtt ks xs) => some (ks, xs) | some (.dttL ks xs) => some (ks, xs) | _ => none
  | _ => none
def truD (d : D) (M : AH) : Res Bool := match d with
  | .bl b => .ok b M
  | .int i => .ok (i != 0) M
  | .non => .ok false M
  | .str z => if z.length ≤ sizeLine then .ok ((z.length : Int) != 0) M else .stuck
  | d => match tupOf d with
    | some xs => .ok (!xs.isEmpty) M
    | none => match listOf d M with
      | some xs => .ok (!xs.isEmpty) M
      | none => match dctOf d M with
        | some (ks, _) => .ok (!ks.isEmpty) M
        | none => .stuck
def fTru (fe : FE) : FT := fun δ M => (fe δ M).bind truD
def fAnd (a b : FT) : FT := fun δ M => (a δ M).bind fun c M1 => if c then b δ M1 else .ok false M1
def fOr (a b : FT) : FT := fun δ M => (a δ M).bind fun c M1 => if c then .ok true M1 else b δ M1
def fNot (a : FT) : FT := fun δ M => (a δ M).bind fun c M1 => .ok (!c) M1
def fAndV (a b : FE) : FE := fun δ M => (a δ M).bind fun x M1 => (asB x M1).bind fun c M1 => if c then b δ M1 else .ok (.bl false) M1
def fOrV (a b : FE) : FE := fun δ M => (a δ M).bind fun x M1 => (asB x M1).bind fun c M1 => if c then .ok (.bl true) M1 else b δ M1
def fNotV (a : FE) : FE := fun δ M => (a δ M).bind fun x M1 => (asB x M1).bind fun c M1 => .ok (.bl (!c)) M1
def fIf (t : FT) (a b : FE) : FE := fun δ M => (t δ M).bind fun c M1 => if c then a δ M1 else b δ M1
def fNil : FA := fun _ M => .ok [] M
def fCons (a : FE) (r : FA) : FA := fun δ M => (a δ M).bind fun x M1 => (r δ M1).bind fun xs M2 => .ok (x :: xs) M2
def fTup (a : FA) : FE := fun δ M => (a δ M).bind fun xs M1 => if xs.length ≤ sizeLine then .ok (.tup xs) M1 else .stuck
def fLst (a : FA) : FE := fun δ M => (a δ M).bind fun xs M1 => if xs.length ≤ sizeLine then .ok (.ref M1.length) (M1 ++ [.lst xs]) else .stuck
def fCall (f : FD) (a : FA) : FE := fun δ M => (a δ M).bind fun xs M1 => f xs M1
def fCB (g : List D → AH → Res D) (a : FA) : FE := fun δ M => (a δ M).bind fun xs M1 => g xs M1
def fMt (g : D → List D → AH → Res D) (o : FE) (a : FA) : FE := fun δ M => (o δ M).bind fun x M1 => (a δ M1).bind fun xs M2 => g x xs M2
def fNoPart : FO := fun _ M => .ok none M
def fPart (a : FE) : FO := fun δ M => (a δ M).bind fun x M1 => match x with | .int i => .ok (some i) M1 | _ => .stuck
def fSl (g : D → Option Int → Option Int → AH → Res D) (a : FE) (lo hi : FO) : FE := fun δ M => (a δ M).bind fun x M1 => (lo δ M1).bind fun l M2 => (hi δ M2).bind fun u M3 => g x l u M3
def fChain (g h : D → D → AH → Res D) (a b c : FE) : FE := fun δ M => (a δ M).bind fun x M1 => (b δ M1).bind fun y M2 => (g x y M2).bind fun z M3 => (asB z M3).bind fun k M3 => if k then (c δ M3).bind fun w M4 => h y w M4 else .ok (.bl false) M3
section
variable {K : PySem.W.Frag} {κ : Kap} {E : EK} {ι ι' : List Addr} {F F' H H' : Hp} {M M' : AH}
theorem le_var {i : Nat} : LE K κ E (tVar i) (fVar i) := fun σ δ H M ι F Q hs hh p => by
  unfold fVar at p
  split at p
  · rename_i d e
    obtain ⟨v, h1, h2⟩ := hs.pl i d e
    exact ⟨v, h1, p.here hh h2⟩
  · exact p.elim
theorem le_C {d : D} {v : V} (h : ∀ ι F, Rep K κ ι F d v) : LE K κ E (tC v) (fC d) := fun σ δ H M ι F Q hs hh p => p.here hh (h ι F)
theorem le_int {i : Int} : LE K κ E (tC (.int i)) (fC (.int i)) := le_C fun _ _ => .int i
theorem le_str {z : Str} : LE K κ E (tC (.str z)) (fC (.str z)) := le_C fun _ _ => .str z
theorem le_bl {b : Bool} : LE K κ E (tC (.bl b)) (fC (.bl b)) := le_C fun _ _ => .bl b
theorem le_non : LE K κ E (tC .non) (fC .non) := le_C fun _ _ => .non
theorem le_ty {n : String} : LE K κ E (tC (.ty n)) (fC (.ty n)) := le_C fun _ _ => .ty n
theorem le_cls {c : String} : LE K κ E (tC (.ref (κ c))) (fC (.cls c)) := le_C fun _ _ => .cls c
theorem le_op {r : R2} {g : D → D → AH → Res D} {ta tb : TE} {fa fb : FE} (hr : LR2 K κ r g) (ha : LE K κ E ta fa) (hb : LE K κ E tb fb) : LE K κ E (tOp r ta tb) (fOp g fa fb) := fun σ δ H M ι F Q hs hh p => by
  refine ha σ δ H M ι F _ hs hh ((Post.bind (R := Rep K κ) p).mono Ext.refl ?_)
  rintro v H1 ⟨d, M1, ι1, F1, e1, h1, r1, p1⟩
  refine hb σ δ H1 M1 ι1 F1 _ (hs.ext e1) h1 ((Post.bind (R := Rep K κ) p1).mono Ext.refl ?_)
  rintro w H2 ⟨d2, M2, ι2, F2, e2, h2, r2, p2⟩
  exact hr H2 M2 ι2 F2 d d2 v w Q _ h2 (r1.ext e2) r2 p2
theorem le_un {r : V → Hp → VK → Prop} {g : D → AH → Res D} {ta : TE} {fa : FE} (hr : LR1 K κ r g) (ha : LE K κ E ta fa) : LE K κ E (tUn r ta) (fUn g fa) := fun σ δ H M ι F Q hs hh p => by
  refine ha σ δ H M ι F _ hs hh ((Post.bind (R := Rep K κ) p).mono Ext.refl ?_)
  rintro v H1 ⟨d, M1, ι1, F1, e1, h1, r1, p1⟩
  exact hr H1 M1 ι1 F1 d v Q _ h1 r1 p1
theorem asB_inv {d : D} {v : V} {Q : Bool → Hp → Prop} {E : XK} (hh : RelH K κ ι F H M) (r : Rep K κ ι F d v) (p : Post K κ REq ι F H (asB d M) Q E) : ∃ k, v = .bl k ∧ Q k H := by
  unfold asB at p
  split at p
  · cases r
    exact ⟨_, rfl, p.here hh rfl⟩
  · exact p.elim
theorem lt_test {te : TE} {fe : FE} (h : LE K κ E te fe) : LT K κ E (tTest te) (fTest fe) := fun σ δ H M ι F Q hs hh p => by
  refine h σ δ H M ι F _ hs hh ((Post.bind (R := Rep K κ) p).mono Ext.refl ?_)
  rintro v H1 ⟨d, M1, ι1, F1, e1, h1, r1, p1⟩
  exact asB_inv h1 r1 p1
theorem relH_ref (hh : RelH K κ ι F H M) {i : Nat} {v : V} (r : Rep K κ ι F (.ref i) v) {o : AO} (e : M[i]? = some o) : ∃ a u, v = .ref a ∧ ι[i]? = some a ∧ H a = some u ∧ RepO K κ ι F o u := by
  cases r with
  | ref h =>
    obtain ⟨u, hu, ru⟩ := hh.at_ h e
    exact ⟨_, u, rfl, h, hu, ru⟩
theorem list_at (hh : RelH K κ ι F H M) {d : D} {v : V} {xs : List D} (r : Rep K κ ι F d v) (e : listOf d M = some xs) : ∃ a vs, v = .ref a ∧ SqL K H a vs ∧ RepL K κ ι F xs vs := by
  unfold listOf at e
  split at e
  · cases e
    cases r with
    | lst h r => exact ⟨_, _, rfl, .inl (.inl (hh.le.ex h fun z => z)), r⟩
  · cases e
    cases r with
    | lsk h r => exact ⟨_, _, rfl, h.monoL hh.le, r⟩
  · split at e
    · rename_i q
      cases e
      obtain ⟨a, u, rfl, h1, h2, h3⟩ := relH_ref hh r q
      cases h3 with
      | lst h3 => exact ⟨a, _, rfl, .inl (.inl h2), h3⟩
    · cases e
  · cases e
theorem tup_at (hh : RelH K κ ι F H M) {d : D} {v : V} {xs : List D} (r : Rep K κ ι F d v) (e : tupOf d = some xs) : ∃ a vs, v = .ref a ∧ SqT K H a vs ∧ RepL K κ ι F xs vs := by
  unfold tupOf at e
  split at e
  · cases e
    cases r with
    | tup h r => exact ⟨_, _, rfl, h.sq.monoL hh.le, r⟩
  · cases e
    cases r with
    | tuq h r => exact ⟨_, _, rfl, h.monoL hh.le, r⟩
  · cases e
theorem dct_at (hh : RelH K κ ι F H M) {d : D} {v : V} {ks : List Key} {xs : List D} (r : Rep K κ ι F d v) (e : dctOf d M = some (ks, xs)) : ∃ a vs, v = .ref a ∧ Rd H a (.dK (ks.zip vs)) ∧ ks.length = vs.length ∧ RepL K κ ι F xs vs := by
  unfold dctOf at e
  split at e
  · cases e
    cases r with
    | dct h l r => exact ⟨_, _, rfl, hh.le.rd h, l, r⟩
  · split at e
    · rename_i q
      cases e
      obtain ⟨a, u, rfl, h1, h2, h3⟩ := relH_ref hh r q
      cases h3 with
      | dct l h3 => exact ⟨a, _, rfl, .inl h2, l, h3⟩
    · rename_i q
      cases e
      obtain ⟨a, u, rfl, h1, h2, h3⟩ := relH_ref hh r q
      cases h3 with
      | dctL l h3 => exact ⟨a, _, rfl, .inr ⟨_, h2⟩, l, h3⟩
    · cases e
  · cases e
theorem dtt_at (hh : RelH K κ ι F H M) {d : D} {v : V} {ks : List (List Key)} {xs : List D} (r : Rep K κ ι F d v) (e : dttOf d M = some (ks, xs)) : ∃ a vs, v = .ref a ∧ Rd H a (.dT (ks.zip vs)) ∧ ks.length = vs.length ∧ RepL K κ ι F xs vs := by
  unfold dttOf at e
  split at e
  · cases e
    cases r with
    | dtt h l r => exact ⟨_, _, rfl, hh.le.rd h, l, r⟩
  · split at e
    · rename_i q
      cases e
      obtain ⟨a, u, rfl, h1, h2, h3⟩ := relH_ref hh r q
      cases h3 with
      | dtt l h3 => exact ⟨a, _, rfl, .inl h2, l, h3⟩
    · rename_i q
      cases e
      obtain ⟨a, u, rfl, h1, h2, h3⟩ := relH_ref hh r q
      cases h3 with
      | dttL l h3 => exact ⟨a, _, rfl, .inr ⟨_, h2⟩, l, h3⟩
    · cases e
  · cases e
theorem isE {ds : List D} {vs : List V} (r : RepL K κ ι F ds vs) : (!vs.isEmpty) = !ds.isEmpty := by cases r <;> rfl
theorem zipE {τ : Type} {ks : List τ} {vs : List V} (h : ks.length = vs.length) : (!(ks.zip vs).isEmpty) = !ks.isEmpty := by
  cases ks <;> cases vs <;> simp_all
/-- the truth of a value, locked dicts and dicts of tuples among them -/
def TruX (K : PySem.W.Frag) (x : V) (H : Hp) (k : Bool) : Prop := TruV K x H k ∨ ∃ p kvs, x = .ref p ∧ Rd H p (.dK kvs) ∧ k = !kvs.isEmpty
def tTruX (K : PySem.W.Frag) (ta : TE) : TT := fun σ H Q => ta σ H fun x H1 => ∃ k, TruX K x H1 k ∧ Q k H1
theorem trux_ok {X : Cx} : TruR X (fun x H Q => ∃ k, TruX X.K x H k ∧ Q k H) := by
  intro pins s σ H x v Q I rx h
  obtain ⟨k, h | ⟨p, kvs, rfl, hr, e⟩, q⟩ := h
  · exact tru_ok pins s σ H x v Q I rx ⟨k, h, q⟩
  · cases rx
    have hl := line63
    obtain ⟨hz, hS, vs, r, m⟩ : kvs.length ≤ sizeLine ∧ (p == sysModules) = false ∧ ∃ vs, KV kvs vs ∧ s.heap.DictOf (mixKind X.prog X.w) p vs := hr.ok I.hok
    subst e
    have hlen : kvs.length = vs.length := Paired.length r
    exact wpAny_truthy_dict hS m (by omega) ⟨H, I.tok _, by rw [isEmpty_kv r]; exact q⟩
theorem pt_truX {X : Cx} {a : Expr} {ta : TE} (ha : PE X a ta) (h : X.K = K := by rfl) (he : ∀ whole, isTrue a X.env whole = (do let v ← whole; standAt a.pos; holding [v] (truthy v)) := by intro _; rfl) : PT X a (tTruX K ta) := by
  subst h
  exact ⟨fun pins s σ H Q I h => isTrue_plain (thn (ha.run pins s σ H _ I h) fun v s1 ⟨x, H1, I1, r1, q1⟩ => trux_ok pins s1 σ H1 x v Q I1 r1 q1) (he _)⟩
theorem truD_at {d : D} {v : V} {Q : Bool → Hp → Prop} {e : XK} (hh : RelH K κ ι F H M) (r : Rep K κ ι F d v) (p : Post K κ REq ι F H (truD d M) Q e) : ∃ k, TruX K v H k ∧ Q k H := by
  have gen : ∀ (xs : List D), tupOf d = some xs ∨ listOf d M = some xs → Q (!xs.isEmpty) H → ∃ k, TruX K v H k ∧ Q k H := fun xs hx q => by
    rcases hx with hx | hx
    · obtain ⟨a, vs, rfl, hq, hr⟩ := tup_at hh r hx
      exact ⟨_, .inl (.inr (.inl ⟨vs, hq, rfl⟩)), by rw [isE hr]; exact q⟩
    · obtain ⟨a, vs, rfl, hq, hr⟩ := list_at hh r hx
      exact ⟨_, .inl (.inl ⟨vs, hq, rfl⟩), by rw [isE hr]; exact q⟩
  unfold truD at p
  split at p
  · cases r; exact ⟨_, .inl rfl, p.here hh rfl⟩
  · cases r; exact ⟨_, .inl rfl, p.here hh rfl⟩
  · cases r; exact ⟨_, .inl rfl, p.here hh rfl⟩
  · split at p
    · rename_i hz
      cases r
      exact ⟨_, .inl ⟨hz, rfl⟩, p.here hh rfl⟩
    · exact p.elim
  · split at p
    · rename_i hx
      exact gen _ (.inl hx) (p.here hh rfl)
    · split at p
      · rename_i hx
        exact gen _ (.inr hx) (p.here hh rfl)
      · split at p
        · rename_i hx
          obtain ⟨a, vs, rfl, hq, hl, hr⟩ := dct_at hh r hx
          exact ⟨_, .inr ⟨_, _, rfl, hq, rfl⟩, by rw [zipE hl]; exact p.here hh rfl⟩
        · exact p.elim
theorem lt_tru {te : TE} {fe : FE} (h : LE K κ E te fe) : LT K κ E (tTruX K te) (fTru fe) := fun σ δ H M ι F Q hs hh p => by
  refine h σ δ H M ι F _ hs hh ((Post.bind (R := Rep K κ) p).mono Ext.refl ?_)
  rintro v H1 ⟨d, M1, ι1, F1, e1, h1, r1, p1⟩
  exact truD_at h1 r1 p1
theorem lt_and {a b : TT} {fa fb : FT} (ha : LT K κ E a fa) (hb : LT K κ E b fb) : LT K κ E (tAnd a b) (fAnd fa fb) := fun σ δ H M ι F Q hs hh p => by
  refine ha σ δ H M ι F _ hs hh ((Post.bind (R := REq) p).mono Ext.refl ?_)
  rintro c H1 ⟨d, M1, ι1, F1, e1, h1, r1, p1⟩
  cases (show d = c from r1)
  cases c with
  | true => exact hb σ δ H1 M1 ι1 F1 _ (hs.ext e1) h1 p1
  | false => exact p1.here h1 rfl
theorem lt_or {a b : TT} {fa fb : FT} (ha : LT K κ E a fa) (hb : LT K κ E b fb) : LT K κ E (tOr a b) (fOr fa fb) := fun σ δ H M ι F Q hs hh p => by
  refine ha σ δ H M ι F _ hs hh ((Post.bind (R := REq) p).mono Ext.refl ?_)
  rintro c H1 ⟨d, M1, ι1, F1, e1, h1, r1, p1⟩
  cases (show d = c from r1)
  cases c with
  | false => exact hb σ δ H1 M1 ι1 F1 _ (hs.ext e1) h1 p1
  | true => exact p1.here h1 rfl
theorem lt_not {a : TT} {fa : FT} (ha : LT K κ E a fa) : LT K κ E (tNot a) (fNot fa) := fun σ δ H M ι F Q hs hh p => by
  refine ha σ δ H M ι F _ hs hh ((Post.bind (R := REq) p).mono Ext.refl ?_)
  rintro c H1 ⟨d, M1, ι1, F1, e1, h1, r1, p1⟩
  cases (show d = c from r1)
  exact p1.here h1 rfl
theorem le_andV {a b : TE} {fa fb : FE} (ha : LE K κ E a fa) (hb : LE K κ E b fb) : LE K κ E (tAndV a b) (fAndV fa fb) := fun σ δ H M ι F Q hs hh p => by
  refine ha σ δ H M ι F _ hs hh ((Post.bind (R := Rep K κ) p).mono Ext.refl ?_)
  rintro v H1 ⟨d, M1, ι1, F1, e1, h1, r1, p1⟩
  obtain ⟨k, ev, q⟩ := asB_inv h1 r1 (Post.bind (R := REq) p1)
  obtain ⟨d2, M2, ι2, F2, e2, h2, r2, p2⟩ := q
  cases (show d2 = k from r2)
  refine ⟨k, ev, ?_⟩
  cases k with
  | true => exact hb σ δ H1 M2 ι2 F2 _ ((hs.ext e1).ext e2) h2 p2
  | false => exact p2.here h2 (.bl false)
theorem le_orV {a b : TE} {fa fb : FE} (ha : LE K κ E a fa) (hb : LE K κ E b fb) : LE K κ E (tOrV a b) (fOrV fa fb) := fun σ δ H M ι F Q hs hh p => by
  refine ha σ δ H M ι F _ hs hh ((Post.bind (R := Rep K κ) p).mono Ext.refl ?_)
  rintro v H1 ⟨d, M1, ι1, F1, e1, h1, r1, p1⟩
  obtain ⟨k, ev, q⟩ := asB_inv h1 r1 (Post.bind (R := REq) p1)
  obtain ⟨d2, M2, ι2, F2, e2, h2, r2, p2⟩ := q
  cases (show d2 = k from r2)
  refine ⟨k, ev, ?_⟩
  cases k with
  | false => exact hb σ δ H1 M2 ι2 F2 _ ((hs.ext e1).ext e2) h2 p2
  | true => exact p2.here h2 (.bl true)
theorem le_notV {a : TE} {fa : FE} (ha : LE K κ E a fa) : LE K κ E (tNotV a) (fNotV fa) := fun σ δ H M ι F Q hs hh p => by
  refine ha σ δ H M ι F _ hs hh ((Post.bind (R := Rep K κ) p).mono Ext.refl ?_)
  rintro v H1 ⟨d, M1, ι1, F1, e1, h1, r1, p1⟩
  obtain ⟨k, ev, q⟩ := asB_inv h1 r1 (Post.bind (R := REq) p1)
  obtain ⟨d2, M2, ι2, F2, e2, h2, r2, p2⟩ := q
  cases (show d2 = k from r2)
  exact ⟨k, ev, p2.here h2 (.bl _)⟩
theorem le_if {t : TT} {a b : TE} {ft : FT} {fa fb : FE} (ht : LT K κ E t ft) (ha : LE K κ E a fa) (hb : LE K κ E b fb) : LE K κ E (tIf t a b) (fIf ft fa fb) := fun σ δ H M ι F Q hs hh p => by
  refine ht σ δ H M ι F _ hs hh ((Post.bind (R := REq) p).mono Ext.refl ?_)
  rintro c H1 ⟨d, M1, ι1, F1, e1, h1, r1, p1⟩
  cases (show d = c from r1)
  cases c with
  | true => exact ha σ δ H1 M1 ι1 F1 _ (hs.ext e1) h1 p1
  | false => exact hb σ δ H1 M1 ι1 F1 _ (hs.ext e1) h1 p1
theorem la_nil : LA K κ E tNil fNil := fun σ δ H M ι F Q hs hh p => p.here hh .nil
theorem la_cons {a : TE} {r : TA} {fa : FE} {fr : FA} (ha : LE K κ E a fa) (hr : LA K κ E r fr) : LA K κ E (tCons a r) (fCons fa fr) := fun σ δ H M ι F Q hs hh p => by
  refine ha σ δ H M ι F _ hs hh ((Post.bind (R := Rep K κ) p).mono Ext.refl ?_)
  rintro v H1 ⟨d, M1, ι1, F1, e1, h1, r1, p1⟩
  refine hr σ δ H1 M1 ι1 F1 _ (hs.ext e1) h1 ((Post.bind (R := RepL K κ) p1).mono Ext.refl ?_)
  rintro w H2 ⟨d2, M2, ι2, F2, e2, h2, r2, p2⟩
  exact p2.here h2 (.cons (r1.ext e2) r2)
/-! a tuple whose record is known -/
def tTupF (t : TA) : TE := fun σ H Q => t σ H fun xs H1 => xs.length ≤ sizeLine ∧ ∀ p o, H1 p = none → o.cls = .type "tuple" → o.dict = none → Q (.ref p) (upd H1 p (.frz o (.tup xs)))
theorem pe_tupF {X : Cx} {es : List Expr} {t : TA} {pos : Pos} {x1} (h : PA X es t) : PE X (.Tuple es x1 pos) (tTupF t) := by
  refine ⟨fun pins s σ H Q I hq => ?_⟩
  refine wpAny_Tuple_spliced (thn (h.run pos pins s σ H _ I hq) fun us s1 ⟨xs, H1, I1, r, z, q⟩ => ⟨by rw [← r.length]; exact z, ?_⟩)
  have hf : H1 s1.heap.objs.size = none := I1.hok.fresh (Nat.le_refl _)
  refine ⟨.ref s1.heap.objs.size, upd H1 s1.heap.objs.size (.frz { cls := .type "tuple", data := .seq us.toArray } (.tup xs)), I1.laid (t' := s1.toks) (fun b u e => Heap.get?_push_of_some _ e) (Nat.le_refl _) ?_, rfl, q _ _ hf rfl rfl⟩
  exact ⟨Heap.get?_push_size _ rfl, z, us, r, IsTup.new _ _⟩
theorem le_tup {t : TA} {f : FA} (h : LA K κ E t f) : LE K κ E (tTupF t) (fTup f) := fun σ δ H M ι F Q hs hh p => by
  refine h σ δ H M ι F _ hs hh ((Post.bind (R := RepL K κ) p).mono Ext.refl ?_)
  rintro vs H1 ⟨ds, M1, ι1, F1, e1, h1, r1, p1⟩
  split at p1
  · rename_i hl
    refine ⟨by rw [← r1.len]; exact hl, fun p o hp hc hd => ?_⟩
    obtain ⟨e2, h2⟩ := h1.newF hp (.frz o (.tup vs))
    exact p1 _ _ _ _ e2 h2 (.tup (.inl ⟨o, upd_same, hc, hd⟩) (r1.ext e2))
  · exact p1.elim
theorem le_lst {t : TA} {f : FA} (h : LA K κ E t f) : LE K κ E (tLst t) (fLst f) := fun σ δ H M ι F Q hs hh p => by
  refine h σ δ H M ι F _ hs hh ((Post.bind (R := RepL K κ) p).mono Ext.refl ?_)
  rintro vs H1 ⟨ds, M1, ι1, F1, e1, h1, r1, p1⟩
  split at p1
  · rename_i hl
    refine ⟨by rw [← r1.len]; exact hl, fun p hp => ?_⟩
    obtain ⟨e2, h2, h3⟩ := h1.new (o := .lst ds) (ho := .lst vs) hp (.lst r1)
    exact p1 _ _ _ _ e2 h2 (.ref h3)
  · exact p1.elim
theorem le_call {E1 : XK} {f : FD} {t : TA} {fa : FA} (h : LA K κ (EK.of E1) t fa) : LE K κ (EK.of E1) (tCall (conc K κ f) [] E1 t) (fCall f fa) := fun σ δ H M ι F Q hs hh p => by
  rw [w_Call]
  refine h σ δ H M ι F _ hs hh ((Post.bind (R := RepL K κ) p).mono Ext.refl ?_)
  rintro vs H1 ⟨ds, M1, ι1, F1, e1, h1, r1, p1⟩
  exact ⟨ds, M1, ι1, F1, h1, r1, p1⟩
theorem le_callS {f : FD} {t : TA} {fa : FA} (h : LA K κ E t fa) : LE K κ E (tCallS (conc K κ f) E.E t) (fCall f fa) := fun σ δ H M ι F Q hs hh p => by
  refine h σ δ H M ι F _ hs hh ((Post.bind (R := RepL K κ) p).mono Ext.refl ?_)
  rintro vs H1 ⟨ds, M1, ι1, F1, e1, h1, r1, p1⟩
  exact ⟨ds, M1, ι1, F1, h1, r1, p1⟩
theorem le_CB {r : List V → Hp → VK → Prop} {g : List D → AH → Res D} {t : TA} {fa : FA} (hr : LRN K κ r g) (h : LA K κ E t fa) : LE K κ E (tCB r t) (fCB g fa) := fun σ δ H M ι F Q hs hh p => by
  refine h σ δ H M ι F _ hs hh ((Post.bind (R := RepL K κ) p).mono Ext.refl ?_)
  rintro vs H1 ⟨ds, M1, ι1, F1, e1, h1, r1, p1⟩
  exact hr H1 M1 ι1 F1 ds vs Q _ h1 r1 p1
theorem lo_none : LO K κ E tNoPart fNoPart := fun σ δ H M ι F Q hs hh p => p.here hh rfl
theorem lo_some {t : TE} {f : FE} (h : LE K κ E t f) : LO K κ E (tPart t) (fPart f) := fun σ δ H M ι F Q hs hh p => by
  refine h σ δ H M ι F _ hs hh ((Post.bind (R := Rep K κ) p).mono Ext.refl ?_)
  rintro v H1 ⟨d, M1, ι1, F1, e1, h1, r1, p1⟩
  split at p1
  · cases r1
    exact ⟨_, rfl, p1.here h1 rfl⟩
  · exact p1.elim
def LSl (K : PySem.W.Frag) (κ : Kap) (r : V → Option Int → Option Int → Hp → VK → Prop) (g : D → Option Int → Option Int → AH → Res D) : Prop :=
  ∀ H M ι F x l u v Q (e : XK), RelH K κ ι F H M → Rep K κ ι F x v → Post K κ (Rep K κ) ι F H (g x l u M) Q e → r v l u H Q
theorem le_sl {r : V → Option Int → Option Int → Hp → VK → Prop} {g : D → Option Int → Option Int → AH → Res D} {t : TE} {lo hi : TO} {f : FE} {fl fh : FO} (hr : LSl K κ r g) (h : LE K κ E t f) (hl : LO K κ E lo fl) (hu : LO K κ E hi fh) :
    LE K κ E (L2.tSl r t lo hi) (fSl g f fl fh) := fun σ δ H M ι F Q hs hh p => by
  refine h σ δ H M ι F _ hs hh ((Post.bind (R := Rep K κ) p).mono Ext.refl ?_)
  rintro v H1 ⟨d, M1, ι1, F1, e1, h1, r1, p1⟩
  refine hl σ δ H1 M1 ι1 F1 _ (hs.ext e1) h1 ((Post.bind (R := REq) p1).mono Ext.refl ?_)
  rintro l H2 ⟨d2, M2, ι2, F2, e2, h2, r2, p2⟩
  cases (show d2 = l from r2)
  refine hu σ δ H2 M2 ι2 F2 _ ((hs.ext e1).ext e2) h2 ((Post.bind (R := REq) p2).mono Ext.refl ?_)
  rintro u H3 ⟨d3, M3, ι3, F3, e3, h3, r3, p3⟩
  cases (show d3 = u from r3)
  exact hr H3 M3 ι3 F3 d l u v Q _ h3 ((r1.ext e2).ext e3) p3
theorem le_chain {r r2 : R2} {g g2 : D → D → AH → Res D} {ta tb tc : TE} {fa fb fc : FE} (hr : LR2 K κ r g) (hr2 : LR2 K κ r2 g2) (ha : LE K κ E ta fa) (hb : LE K κ E tb fb) (hc : LE K κ E tc fc) : LE K κ E (tChain r r2 ta tb tc) (fChain g g2 fa fb fc) := fun σ δ H M ι F Q hs hh p => by
  refine ha σ δ H M ι F _ hs hh ((Post.bind (R := Rep K κ) p).mono Ext.refl ?_)
  rintro v H1 ⟨d, M1, ι1, F1, e1, h1, r1, p1⟩
  refine hb σ δ H1 M1 ι1 F1 _ (hs.ext e1) h1 ((Post.bind (R := Rep K κ) p1).mono Ext.refl ?_)
  rintro w H2 ⟨d2, M2, ι2, F2, e2, h2, rr2, p2⟩
  refine hr H2 M2 ι2 F2 d d2 v w _ (E.E σ) h2 (r1.ext e2) rr2 ((Post.bind (R := Rep K κ) p2).mono Ext.refl ?_)
  rintro z H3 ⟨d3, M3, ι3, F3, e3, h3, r3, p3⟩
  obtain ⟨k, ev, q⟩ := asB_inv h3 r3 (Post.bind (R := REq) p3)
  obtain ⟨d4, M4, ι4, F4, e4, h4, r4, p4⟩ := q
  cases (show d4 = k from r4)
  refine ⟨k, ev, ?_⟩
  cases k with
  | false => exact p4.here h4 (.bl false)
  | true =>
    refine hc σ δ H3 M4 ι4 F4 _ ((((hs.ext e1).ext e2).ext e3).ext e4) h4 ((Post.bind (R := Rep K κ) p4).mono Ext.refl ?_)
    rintro x H5 ⟨d5, M5, ι5, F5, e5, h5, r5, p5⟩
    exact hr2 H5 M5 ι5 F5 d2 d5 w x Q _ h5 (((rr2.ext e3).ext e4).ext e5) r5 p5
end
end G
namespace G
open PySem PySem.Spec PyProof.Rows L2
/-! ### operators -/
instance (i j : Int) : Decidable (CMul i j) := by unfold CMul; infer_instance
instance (i j : Int) : Decidable (CMulW i j) := by unfold CMulW; infer_instance
instance (i j : Int) : Decidable (CDivW i j) := by unfold CDivW; infer_instance
instance (i j : Int) : Decidable (CPow i j) := by unfold CPow; infer_instance
instance (i j : Int) : Decidable (CDiv i j) := by unfold CDiv; infer_instance
def gAdd : D → D → AH → Res D := fun x y M => match x, y with
  | .int i, .int j => .ok (.int (i + j)) M
  | .str a, .str b => if a.length + b.length ≤ sizeLine then .ok (.str (a ++ b)) M else .stuck
  | x, y => match tupOf x, tupOf y with
    | some xs, some ys => if xs.length + ys.length ≤ sizeLine then (if xs.isEmpty then .ok y M else if ys.isEmpty then .ok x M else .ok (.tuq (xs ++ ys)) M) else .stuck
    | _, _ => match x, y with
      | .lsk _, _ => .stuck
      | _, .lsk _ => .stuck
      | x, y => match listOf x M, listOf y M with
        | some xs, some ys => if xs.length + ys.length ≤ sizeLine then .ok (.ref M.length) (M ++ [.lst (xs ++ ys)]) else .stuck
        | _, _ => .stuck
def gSubI : D → D → AH → Res D := fun x y M => match x, y with
  | .int i, .int j => .ok (.int (i - j)) M
  | _, _ => .stuck
def gMul : D → D → AH → Res D := fun x y M => match x, y with
  | .int i, .int j => if CMul i j ∨ CMulW i j then .ok (.int (i * j)) M else .stuck
  | .ref l, .int k => match M[l]? with
    | some (.lst xs) => if k < 2 ^ 63 ∧ -(2 ^ 63) ≤ k ∧ xs.length * k.toNat ≤ sizeLine then .ok (.ref M.length) (M ++ [.lst (List.replicate k.toNat xs).flatten]) else .stuck
    | _ => .stuck
  | _, _ => .stuck
def gMod : D → D → AH → Res D := fun x y M => match x, y with
  | .int i, .int j => if 0 < j then .ok (.int (i % j)) M else .stuck
  | _, _ => .stuck
def gDiv : D → D → AH → Res D := fun x y M => match x, y with
  | .int i, .int j => if CDivW i j then .ok (.int (i / j)) M else .stuck
  | _, _ => .stuck
def gPow : D → D → AH → Res D := fun x y M => match x, y with
  | .int i, .int j => if CPow i j then .ok (.int (i ^ j.toNat)) M else .stuck
  | _, _ => .stuck
def gCmp (p : Int → Int → Bool) (q : List Nat → List Nat → Bool) : D → D → AH → Res D := fun x y M => match x, y with
  | .int i, .int j => .ok (.bl (p i j)) M
  | .str a, .str b => .ok (.bl (q (tl a) (tl b))) M
  | _, _ => .stuck
def gLt := gCmp (fun i j => decide (i < j)) fun a b => decide (a < b)
def gLe := gCmp (fun i j => decide (i ≤ j)) fun a b => !decide (b < a)
def gGt := gCmp (fun i j => decide (j < i)) fun a b => decide (b < a)
def gGe := gCmp (fun i j => decide (j ≤ i)) fun a b => !decide (a < b)
/-! data of any depth, compared -/
mutual
def pyD : D → Option PyData
  | .non => some .none
  | .bl b => some (.bool b)
  | .int i => some (.int i)
  | .str z => some (.str z)
  | .tup xs => (pyL xs).map .tuple
  | .tuq xs => (pyL xs).map .tuple
  | .lst xs => (pyL xs).map .list
  | .lsk xs => (pyL xs).map .list
  | _ => none
def pyL : List D → Option (List PyData)
  | [] => some []
  | x :: xs => match pyD x, pyL xs with
    | some a, some b => some (a :: b)
    | _, _ => none
end
def pyOf (d : D) (M : AH) : Option PyData := match d with
  | .ref i => match M[i]? with | some (.lst xs) => (pyL xs).map .list | _ => none
  | d => pyD d
def refD : D → Bool
  | .tup _ => true
  | .tuq _ => true
  | .lst _ => true
  | .lsk _ => true
  | .ref _ => true
  | _ => false
def scalEq : D → D → Option Bool
  | .int i, .int j => some (decide (i = j))
  | .str a, .str b => some (decide (tl a = tl b))
  | .bl a, .bl b => some (decide (a = b))
  | .non, .non => some true
  | .non, .int _ => some false
  | .int _, .non => some false
  | .non, .str _ => some false
  | .str _, .non => some false
  | .non, .bl _ => some false
  | .bl _, .non => some false
  | .int _, .str _ => some false
  | .str _, .int _ => some false
  | .bl _, .str _ => some false
  | .str _, .bl _ => some false
  | _, _ => none
def gEqB (neg : Bool) : D → D → AH → Res D := fun x y M => if refD x || refD y then (match pyOf x M, pyOf y M with
    | some a, some b => if SeqAt.shaped a && SeqAt.shaped b then .ok (.bl (neg != PyData.eqv a b)) M else .stuck
    | _, _ => .stuck)
  else match scalEq x y with
    | some c => .ok (.bl (neg != c)) M
    | none => .stuck
def gEq := gEqB false
def gNe := gEqB true
def isRef : V → Bool
  | .ref _ => true
  | _ => false
section
variable {K : PySem.W.Frag} {κ : Kap} {ι : List Addr} {F H : Hp} {M : AH}
theorem RepL.append {a b : List D} {c d : List V} (h1 : RepL K κ ι F a c) (h2 : RepL K κ ι F b d) : RepL K κ ι F (a ++ b) (c ++ d) := by
  induction a generalizing c with
  | nil => cases h1; exact h2
  | cons x a ih => cases h1 with | cons h3 h4 => exact .cons h3 (ih h4)
theorem rmulK : LR2 K κ rMulG gMul := fun H M ι F x y v w Q e hh rx ry p => by
  unfold gMul at p
  split at p
  · cases rx; cases ry
    split at p
    · rename_i hc
      exact ⟨hc, p.here hh (.int _)⟩
    · exact p.elim
  · split at p
    · rename_i ds q
      split at p
      · rename_i hc
        obtain ⟨a, u, rfl, h1, h2, h3⟩ := relH_ref hh rx q
        cases ry
        cases h3 with
        | @lst _ vs h3 =>
          refine ⟨vs, h2, hc.2.1, hc.1, by rw [← h3.len]; exact hc.2.2, fun r hr => ?_⟩
          have rep : ∀ n, RepL K κ ι F (List.replicate n ds).flatten (List.replicate n vs).flatten := fun n => by
            induction n with
            | zero => exact .nil
            | succ n ih =>
              rw [List.replicate_succ, List.replicate_succ, List.flatten_cons, List.flatten_cons]
              exact h3.append ih
          obtain ⟨e2, hh2, h5⟩ := hh.new (o := .lst (List.replicate _ ds).flatten) (ho := .lst (List.replicate _ vs).flatten) hr (.lst (rep _))
          exact p _ _ _ _ e2 hh2 (.ref h5)
      · exact p.elim
    · exact p.elim
  · exact p.elim
theorem listT {d : D} {v : V} {xs : List D} (hh : RelH K κ ι F H M) (r : Rep K κ ι F d v) (e : listOf d M = some xs) (hk : ∀ ys, d ≠ .lsk ys) : ∃ a vs, v = .ref a ∧ H a = some (.lst vs) ∧ RepL K κ ι F xs vs := by
  unfold listOf at e
  split at e
  · cases e
    cases r with
    | lst h r => exact ⟨_, _, rfl, hh.le.ex h fun z => z, r⟩
  · exact absurd rfl (hk _)
  · split at e
    · rename_i q
      cases e
      obtain ⟨a, u, rfl, h1, h2, h3⟩ := relH_ref hh r q
      cases h3 with
      | lst h3 => exact ⟨a, _, rfl, h2, h3⟩
    · cases e
  · cases e
theorem nE {α β : Type} {xs : List α} {ys : List β} (h : xs.length = ys.length) : (xs = [] ↔ ys = []) := by
  cases xs <;> cases ys <;> simp_all
theorem raddK : LR2 K κ (rAddG K) gAdd := fun H M ι F x y v w Q e hh rx ry p => by
  unfold gAdd at p
  split at p
  · cases rx; cases ry
    exact p.here hh (.int _)
  · split at p
    · rename_i hc
      cases rx; cases ry
      exact ⟨hc, p.here hh (.str _)⟩
    · exact p.elim
  · split at p
    · rename_i xs ys hx hy
      split at p
      · rename_i hl
        obtain ⟨a, vs, rfl, h1, r1⟩ := tup_at hh rx hx
        obtain ⟨b, ws, rfl, h2, r2⟩ := tup_at hh ry hy
        refine .inr ⟨a, b, vs, ws, rfl, rfl, h1, h2, by rw [← r1.len, ← r2.len]; exact hl, fun z => ?_, fun z1 z2 => ?_, fun z1 z2 q hq => ?_⟩
        · have : xs = [] := (nE r1.len).mpr z
          subst this
          exact p.here hh ry
        · have n1 : xs ≠ [] := fun z => z1 ((nE r1.len).mp z)
          have : ys = [] := (nE r2.len).mpr z2
          subst this
          rw [if_neg (by simpa using n1)] at p
          exact p.here hh rx
        · have n1 : xs ≠ [] := fun z => z1 ((nE r1.len).mp z)
          have n2 : ys ≠ [] := fun z => z2 ((nE r2.len).mp z)
          rw [if_neg (by simpa using n1), if_neg (by simpa using n2)] at p
          obtain ⟨e2, h3⟩ := hh.newF hq (.tup (vs ++ ws))
          exact p _ _ _ _ e2 h3 (.tuq (.inl (.inl upd_same)) ((r1.append r2).ext e2))
      · exact p.elim
    · split at p
      · exact p.elim
      · exact p.elim
      · rename_i n1 n2
        split at p
        · rename_i xs ys hx hy
          split at p
          · rename_i hl
            obtain ⟨a, vs, rfl, h1, r1⟩ := listT hh rx hx (fun ys => n1 ys)
            obtain ⟨b, ws, rfl, h2, r2⟩ := listT hh ry hy (fun ys => n2 ys)
            refine .inl ⟨vs, ws, h1, h2, by rw [← r1.len, ← r2.len]; exact hl, fun r hr => ?_⟩
            obtain ⟨e2, hh2, h5⟩ := hh.new (o := .lst (xs ++ ys)) (ho := .lst (vs ++ ws)) hr (.lst (r1.append r2))
            exact p _ _ _ _ e2 hh2 (.ref h5)
          · exact p.elim
        · exact p.elim
theorem rsubK : LR2 K κ rSubG gSubI := fun H M ι F x y v w Q e hh rx ry p => by
  unfold gSubI at p
  split at p
  · cases rx; cases ry
    exact p.here hh (.int _)
  · exact p.elim
theorem rmodK : LR2 K κ rModG gMod := fun H M ι F x y v w Q e hh rx ry p => by
  unfold gMod at p
  split at p
  · split at p
    · rename_i hc
      cases rx; cases ry
      exact ⟨hc, p.here hh (.int _)⟩
    · exact p.elim
  · exact p.elim
theorem rdivK : LR2 K κ rDivG gDiv := fun H M ι F x y v w Q e hh rx ry p => by
  unfold gDiv at p
  split at p
  · split at p
    · rename_i hc
      cases rx; cases ry
      exact ⟨hc, p.here hh (.int _)⟩
    · exact p.elim
  · exact p.elim
theorem rpowK : LR2 K κ rPowG gPow := fun H M ι F x y v w Q e hh rx ry p => by
  unfold gPow at p
  split at p
  · split at p
    · rename_i hc
      cases rx; cases ry
      exact ⟨hc, p.here hh (.int _)⟩
    · exact p.elim
  · exact p.elim
theorem rltK : LR2 K κ rLtG gLt := fun H M ι F x y v w Q e hh rx ry p => by
  unfold gLt gCmp at p
  split at p <;> first | exact p.elim | (cases rx; cases ry; exact p.here hh (.bl _))
theorem rleK : LR2 K κ rLeG gLe := fun H M ι F x y v w Q e hh rx ry p => by
  unfold gLe gCmp at p
  split at p <;> first | exact p.elim | (cases rx; cases ry; exact p.here hh (.bl _))
theorem rgtK : LR2 K κ rGtG gGt := fun H M ι F x y v w Q e hh rx ry p => by
  unfold gGt gCmp at p
  split at p <;> first | exact p.elim | (cases rx; cases ry; exact p.here hh (.bl _))
theorem rgeK : LR2 K κ rGeG gGe := fun H M ι F x y v w Q e hh rx ry p => by
  unfold gGe gCmp at p
  split at p <;> first | exact p.elim | (cases rx; cases ry; exact p.here hh (.bl _))
mutual
theorem pyD_dp (s : Le F H) : ∀ {d : D} {v : V} {e : PyData}, Rep K κ ι F d v → pyD d = some e → Dp K H v e
  | .non, _, _, r, h => by cases r; simp only [pyD] at h; cases h; exact .non
  | .bl b, _, _, r, h => by cases r; simp only [pyD] at h; cases h; exact .bl b
  | .int b, _, _, r, h => by cases r; simp only [pyD] at h; cases h; exact .int b
  | .str b, _, _, r, h => by cases r; simp only [pyD] at h; cases h; exact .str b
  | .tup xs, _, _, r, h => by
    simp only [pyD] at h
    obtain ⟨x, hx, rfl⟩ := Option.map_eq_some_iff.mp h
    cases r with
    | tup q r => exact .tup (q.sq.monoL s) (pyL_dp s r hx)
  | .tuq xs, _, _, r, h => by
    simp only [pyD] at h
    obtain ⟨x, hx, rfl⟩ := Option.map_eq_some_iff.mp h
    cases r with
    | tuq q r => exact .tup (q.monoL s) (pyL_dp s r hx)
  | .lst xs, _, _, r, h => by
    simp only [pyD] at h
    obtain ⟨x, hx, rfl⟩ := Option.map_eq_some_iff.mp h
    cases r with
    | lst q r => exact .lst (.inl (.inl (s.ex q fun z => z))) (pyL_dp s r hx)
  | .lsk xs, _, _, r, h => by
    simp only [pyD] at h
    obtain ⟨x, hx, rfl⟩ := Option.map_eq_some_iff.mp h
    cases r with
    | lsk q r => exact .lst (q.monoL s) (pyL_dp s r hx)
  | .ty _, _, _, r, h => by simp [pyD] at h
  | .cls _, _, _, r, h => by simp [pyD] at h
  | .dct _ _, _, _, r, h => by simp [pyD] at h
  | .obj _ _ _, _, _, r, h => by simp [pyD] at h
  | .ref _, _, _, r, h => by simp [pyD] at h
theorem pyL_dp (s : Le F H) : ∀ {ds : List D} {vs : List V} {es : List PyData}, RepL K κ ι F ds vs → pyL ds = some es → DpAll K H vs es
  | [], _, _, r, h => by cases r; simp only [pyL] at h; cases h; exact .nil
  | d :: ds, _, _, r, h => by
    simp only [pyL] at h
    split at h
    · rename_i e1 e2
      cases h
      cases r with
      | cons a b => exact .cons (pyD_dp s a e1) (pyL_dp s b e2)
    · cases h
end
theorem pyOf_dp (hh : RelH K κ ι F H M) {d : D} {v : V} {e : PyData} (r : Rep K κ ι F d v) (h : pyOf d M = some e) : Dp K H v e := by
  unfold pyOf at h
  split at h
  · split at h
    · rename_i q
      obtain ⟨x, hx, rfl⟩ := Option.map_eq_some_iff.mp h
      obtain ⟨a, u, rfl, h1, h2, h3⟩ := relH_ref hh r q
      cases h3 with
      | lst h3 => exact .lst (.inl (.inl h2)) (pyL_dp hh.le h3 hx)
    · cases h
  · exact pyD_dp hh.le r h
theorem req_gen {v w : V} {a b : PyData} {Q : VK} (h1 : Dp K H v a) (h2 : Dp K H w b) (s1 : SeqAt.shaped a = true) (s2 : SeqAt.shaped b = true) (hr : isRef v = true ∨ isRef w = true) (q : Q (.bl (PyData.eqv a b)) H) : rEqG K v w H Q := by
  have d : rEqD K v w H Q := ⟨a, b, h1, h2, s1, s2, q⟩
  cases v <;> cases w <;> first
    | exact d
    | (simp [isRef] at hr; done)
theorem rne_gen {v w : V} {a b : PyData} {Q : VK} (h1 : Dp K H v a) (h2 : Dp K H w b) (s1 : SeqAt.shaped a = true) (s2 : SeqAt.shaped b = true) (hr : isRef v = true ∨ isRef w = true) (q : Q (.bl (!PyData.eqv a b)) H) : rNeG K v w H Q := by
  have d : rNeD K v w H Q := ⟨a, b, h1, h2, s1, s2, q⟩
  cases v <;> cases w <;> first
    | exact d
    | (simp [isRef] at hr; done)
theorem refD_is {d : D} {v : V} (r : Rep K κ ι F d v) (h : refD d = true) : isRef v = true := by
  cases r <;> first | rfl | (simp [refD] at h)
theorem reqK : LR2 K κ (rEqG K) gEq := fun H M ι F x y v w Q e hh rx ry p => by
  unfold gEq gEqB at p
  split at p
  · rename_i hr
    split at p
    · rename_i a b h1 h2
      split at p
      · rename_i hs
        rw [Bool.and_eq_true] at hs
        simp only [Bool.false_bne] at p
        exact req_gen (pyOf_dp hh rx h1) (pyOf_dp hh ry h2) hs.1 hs.2 ((Bool.or_eq_true_iff.mp hr).imp (refD_is rx) (refD_is ry)) (p.here hh (.bl _))
      · exact p.elim
    · exact p.elim
  · split at p
    · rename_i c hc
      simp only [Bool.false_bne] at p
      unfold scalEq at hc
      split at hc <;> first
        | (cases hc; cases rx; cases ry; exact p.here hh (.bl _))
        | (cases hc; cases rx; cases ry; exact ⟨rfl, p.here hh (.bl _)⟩)
        | (cases hc; cases rx; cases ry; exact ⟨rfl, by simpa using p.here hh (.bl _)⟩)
        | cases hc
    · exact p.elim
theorem rneK : LR2 K κ (rNeG K) gNe := fun H M ι F x y v w Q e hh rx ry p => by
  unfold gNe gEqB at p
  split at p
  · rename_i hr
    split at p
    · rename_i a b h1 h2
      split at p
      · rename_i hs
        rw [Bool.and_eq_true] at hs
        simp only [Bool.true_bne] at p
        exact rne_gen (pyOf_dp hh rx h1) (pyOf_dp hh ry h2) hs.1 hs.2 ((Bool.or_eq_true_iff.mp hr).imp (refD_is rx) (refD_is ry)) (p.here hh (.bl _))
      · exact p.elim
    · exact p.elim
  · split at p
    · rename_i c hc
      simp only [Bool.true_bne] at p
      unfold scalEq at hc
      split at hc <;> first
        | (cases hc; cases rx; cases ry; exact p.here hh (.bl _))
        | (cases hc; cases rx; cases ry; exact ⟨rfl, p.here hh (.bl _)⟩)
        | (cases hc; cases rx; cases ry; exact ⟨rfl, by simpa using p.here hh (.bl _)⟩)
        | cases hc
    · exact p.elim
end
end G
namespace G
open PySem PySem.Spec PyProof.Rows L2
/-! ### subscripts, slices, in, built-ins, methods -/
def gIx : D → D → AH → Res D := fun x y M => match x, y with
  | .str z, .int i => if z.length ≤ sizeLine then (match atI (tl z) i with | some c => .ok (.str (S [c])) M | none => .stuck) else .stuck
  | .dct ks xs, y => (match y with
    | .str z => (match ((ks.zip xs).find? fun p => decide (p.1 = (.inr z : Key))) with | some p => .ok p.2 M | none => .stuck)
    | .int z => (match ((ks.zip xs).find? fun p => decide (p.1 = (.inl z : Key))) with | some p => .ok p.2 M | none => .stuck)
    | _ => .stuck)
  | x, .int i => match tupOf x with
    | some xs => (match atI xs i with | some d => .ok d M | none => .stuck)
    | none => match listOf x M with
      | some xs => (match atI xs i with | some d => .ok d M | none => .stuck)
      | none => .stuck
  | _, _ => .stuck
def gIxS : D → D → AH → Res D := fun x y M => match x, y with
  | .str z, .int i => if z.length ≤ sizeLine then (match atI (tl z) i with | some c => .ok (.str (S [c])) M | none => .stuck) else .stuck
  | x, .int i => (match tupOf x with
    | some xs => (match atI xs i with | some d => .ok d M | none => .stuck)
    | none => match listOf x M with
      | some xs => (match atI xs i with | some d => .ok d M | none => .stuck)
      | none => .stuck)
  | _, _ => .stuck
def cutD (xs : List D) (lo hi : Option Int) : List D := (xs.drop (HT.sIx xs.length 0 lo)).take (HT.sIx xs.length xs.length hi - HT.sIx xs.length 0 lo)
def gSl : D → Option Int → Option Int → AH → Res D := fun x lo hi M => match x with
  | .str z => if z.length ≤ sizeLine then .ok (.str (cutS z lo hi)) M else .stuck
  | x => match listOf x M with
    | some xs => .ok (.ref M.length) (M ++ [.lst (cutD xs lo hi)])
    | none => .stuck
/-- scalars, and whether one is another one -/
def flatD : D → Bool
  | .non => true | .bl _ => true | .int _ => true | .str _ => true
  | _ => false
def eqF : D → D → Bool
  | .non, .non => true
  | .bl a, .bl b => a == b
  | .int a, .int b => decide (a = b)
  | .str a, .str b => decide (a = b)
  | .bl a, .int i => decide ((if a then (1 : Int) else 0) = i)
  | .int i, .bl a => decide (i = (if a then (1 : Int) else 0))
  | _, _ => false
def gIn (neg : Bool) : D → D → AH → Res D := fun x y M => match x, y with
  | .str c, .str z => (match c with
    | ⟨⟨[c]⟩⟩ => .ok (.bl (neg != decide (c ∈ tl z))) M
    | _ => .stuck)
  | x, y => match tupOf y with
    | some ys => if flatD x && ys.all flatD then .ok (.bl (neg != ys.any fun d => eqF d x)) M else .stuck
    | none => match listOf y M with
      | some ys => if flatD x && ys.all flatD then .ok (.bl (neg != ys.any fun d => eqF d x)) M else .stuck
      | none => .stuck
def gLen : List D → AH → Res D := fun xs M => match xs with
  | [.str z] => if z.length ≤ sizeLine then .ok (.int z.length) M else .stuck
  | [x] => (match tupOf x with
    | some ys => .ok (.int ys.length) M
    | none => match listOf x M with
      | some ys => .ok (.int ys.length) M
      | none => .stuck)
  | _ => .stuck
def gInt : List D → AH → Res D := fun xs M => match xs with
  | [.int i] => .ok (.int i) M
  | [.bl b] => .ok (.int (if b then 1 else 0)) M
  | [.str a] => (match PySem.intText? a with | some n => if a.length ≤ 640 then .ok (.int n) M else .stuck | none => .stuck)
  | _ => .stuck
def gAbs : List D → AH → Res D := fun xs M => match xs with
  | [.int i] => .ok (.int (if i < 0 then -i else i)) M
  | _ => .stuck
def gMax : List D → AH → Res D := fun xs M => match xs with
  | [.int i, .int j] => .ok (.int (if j > i then j else i)) M
  | _ => .stuck
def gMin : List D → AH → Res D := fun xs M => match xs with
  | [.int i, .int j] => .ok (.int (if j < i then j else i)) M
  | _ => .stuck
def gStr : List D → AH → Res D := fun xs M => match xs with
  | [.int i] => if i.natAbs.log2 < 1920 then .ok (.str (Str.ofString (toString i))) M else .stuck
  | _ => .stuck
def gDivmod : List D → AH → Res D := fun xs M => match xs with
  | [.int i, .int j] => if CDiv i j then .ok (.tuq [.int (i / j), .int (i % j)]) M else .stuck
  | _ => .stuck
def gTuple : List D → AH → Res D := fun xs M => match xs with
  | [x] => (match tupOf x with
    | some _ => .ok x M
    | none => match listOf x M with
      | some ys => .ok (.tup ys) M
      | none => .stuck)
  | _ => .stuck
def gList : List D → AH → Res D := fun xs M => match xs with
  | [x] => (match tupOf x with
    | some ys => .ok (.ref M.length) (M ++ [.lst ys])
    | none => match listOf x M with
      | some ys => .ok (.ref M.length) (M ++ [.lst ys])
      | none => .stuck)
  | _ => .stuck
def intsOf : List D → Option (List Int)
  | [] => some []
  | .int i :: r => (intsOf r).map (i :: ·)
  | _ => none
def blsOf : List D → Option (List Bool)
  | [] => some []
  | .bl i :: r => (blsOf r).map (i :: ·)
  | _ => none
def gSum : List D → AH → Res D := fun xs M => match xs with
  | [x] => (match listOf x M with
    | some ys => (match intsOf ys with | some ns => .ok (.int ns.sum) M | none => .stuck)
    | none => .stuck)
  | _ => .stuck
def gAll : List D → AH → Res D := fun xs M => match xs with
  | [x] => (match listOf x M with
    | some ys => (match blsOf ys with | some ns => .ok (.bl (ns.all id)) M | none => .stuck)
    | none => .stuck)
  | _ => .stuck
def gAny : List D → AH → Res D := fun xs M => match xs with
  | [x] => (match listOf x M with
    | some ys => (match blsOf ys with | some ns => .ok (.bl (ns.any id)) M | none => .stuck)
    | none => .stuck)
  | _ => .stuck
/-- the type's name -/
def tyD (d : D) (M : AH) : Option String := match d with
  | .non => some "NoneType" | .bl _ => some "bool" | .int _ => some "int" | .str _ => some "str"
  | .tup _ => some "tuple" | .tuq _ => some "tuple" | .lst _ => some "list" | .lsk _ => some "list" | .dct _ _ => some "dict"
  | .ref i => (match M[i]? with | some (.lst _) => some "list" | some (.dct _ _) => some "dict" | some (.dctL _ _) => some "dict" | _ => none)
  | _ => none
def isK (t n : String) : Bool := decide (t = n) || (decide (t = "bool") && decide (n = "int"))
def kinds : List String := ["NoneType", "bool", "int", "str", "tuple", "list", "dict"]
theorem kit_all : (kinds.all fun t => kinds.tail.all fun n => decide (kitB t n = some (isK t n))) = true := by decide +kernel
def gIsi : List D → AH → Res D := fun xs M => match xs with
  | [x, .ty n] => (match tyD x M with
    | some t => if n ∈ kinds.tail then .ok (.bl (isK t n)) M else .stuck
    | none => .stuck)
  | _ => .stuck
section
variable {K : PySem.W.Frag} {κ : Kap} {ι : List Addr} {F H : Hp} {M : AH}
theorem RepL.get {ds : List D} {vs : List V} (r : RepL K κ ι F ds vs) {i : Nat} {d : D} (h : ds[i]? = some d) : ∃ v, vs[i]? = some v ∧ Rep K κ ι F d v := by
  induction i generalizing ds vs with
  | zero => cases r with
    | nil => cases h
    | cons a b => cases h; exact ⟨_, rfl, a⟩
  | succ i ih => cases r with
    | nil => cases h
    | cons a b => exact ih b (by simpa using h)
theorem atI_rep {ds : List D} {vs : List V} (r : RepL K κ ι F ds vs) {i : Int} {d : D} (h : atI ds i = some d) : ∃ v, atI vs i = some v ∧ Rep K κ ι F d v := by
  unfold atI at h ⊢
  rw [← r.len]
  cases q : ixN ds.length i with
  | none => rw [q] at h; cases h
  | some j =>
    rw [q] at h
    exact r.get h
theorem ixSK : LR2 K κ (rIxG K) gIxS := fun H M ι F x y v w Q e hh rx ry p => by
  unfold gIxS at p
  split at p
  · cases rx; cases ry
    split at p
    · rename_i hz
      split at p
      · rename_i c hc
        exact ⟨hz, c, hc, p.here hh (.str _)⟩
      · exact p.elim
    · exact p.elim
  · cases ry
    split at p
    · rename_i hx
      split at p
      · rename_i hd
        obtain ⟨a, vs, rfl, h1, r1⟩ := tup_at hh rx hx
        obtain ⟨u, hu, ru⟩ := atI_rep r1 hd
        exact ⟨vs, u, .inr h1, hu, p.here hh ru⟩
      · exact p.elim
    · split at p
      · rename_i hx
        split at p
        · rename_i hd
          obtain ⟨a, vs, rfl, h1, r1⟩ := list_at hh rx hx
          obtain ⟨u, hu, ru⟩ := atI_rep r1 hd
          exact ⟨vs, u, .inl h1, hu, p.here hh ru⟩
        · exact p.elim
      · exact p.elim
  · exact p.elim
theorem RepL.drop {ds : List D} {vs : List V} (r : RepL K κ ι F ds vs) : ∀ n, RepL K κ ι F (ds.drop n) (vs.drop n)
  | 0 => r
  | n + 1 => match r with
    | .nil => .nil
    | .cons _ b => RepL.drop b n
theorem RepL.takeN {ds : List D} {vs : List V} (r : RepL K κ ι F ds vs) : ∀ n, RepL K κ ι F (ds.take n) (vs.take n)
  | 0 => .nil
  | n + 1 => match r with
    | .nil => .nil
    | .cons a b => .cons a (RepL.takeN b n)
theorem cut_rep {ds : List D} {vs : List V} (r : RepL K κ ι F ds vs) (lo hi : Option Int) : RepL K κ ι F (cutD ds lo hi) (cutV vs lo hi) := by
  unfold cutD cutV
  rw [← r.len]
  exact (r.drop _).takeN _
theorem slK : LSl K κ (rSlG K) gSl := fun H M ι F x l u v Q e hh rx p => by
  unfold gSl at p
  split at p
  · cases rx
    split at p
    · rename_i hz
      exact ⟨hz, p.here hh (.str _)⟩
    · exact p.elim
  · split at p
    · rename_i hx
      obtain ⟨a, vs, rfl, h1, r1⟩ := list_at hh rx hx
      refine .inl ⟨vs, h1, fun q hq => ?_⟩
      obtain ⟨e2, hh2, h5⟩ := hh.new (ho := .lst (cutV vs l u)) hq (.lst (cut_rep r1 l u))
      exact p _ _ _ _ e2 hh2 (.ref h5)
    · exact p.elim
theorem flat_rep {d : D} {v : V} (r : Rep K κ ι F d v) (h : flatD d = true) : flatV v = true := by
  cases r <;> first | rfl | (simp [flatD] at h)
theorem flats_rep {ds : List D} {vs : List V} (r : RepL K κ ι F ds vs) (h : ds.all flatD = true) : vs.all flatV = true := by
  induction ds generalizing vs with
  | nil => cases r; rfl
  | cons d ds ih =>
    cases r with
    | cons a b =>
      rw [List.all_cons, Bool.and_eq_true] at h ⊢
      exact ⟨flat_rep a h.1, ih b h.2⟩
theorem eqF_rep {d e : D} {v w : V} (r : Rep K κ ι F d v) (s : Rep K κ ι F e w) (h : flatD d = true) (h' : flatD e = true) : eqV v w = eqF d e := by
  cases r <;> first
    | (simp [flatD] at h; done)
    | (cases s <;> first
        | (simp [flatD] at h'; done)
        | rfl
        | (simp [eqV, eqF]; done)
        | (simp only [eqV, eqF]; first | rfl | (simp; done) | (exact decide_eq_decide.mpr (by simp; done)) | skip))
theorem in_rep {e : D} {w : V} {ds : List D} {vs : List V} (s : Rep K κ ι F e w) (r : RepL K κ ι F ds vs) (h' : flatD e = true) (h : ds.all flatD = true) : inV w vs = ds.any fun d => eqF d e := by
  unfold inV
  induction ds generalizing vs with
  | nil => cases r; rfl
  | cons d ds ih =>
    cases r with
    | cons a b =>
      rw [List.all_cons, Bool.and_eq_true] at h
      rw [List.any_cons, List.any_cons, eqF_rep a s h.1 h', ih b h.2]
theorem negIf {n b : Bool} : (n != b) = if n then !b else b := by cases n <;> cases b <;> rfl
theorem inK (neg : Bool) : LR2 K κ (rInG K neg) (gIn neg) := fun H M ι F x y v w Q e hh rx ry p => by
  unfold gIn at p
  split at p
  · cases rx; cases ry
    split at p
    · exact ⟨_, rfl, by have := p.here hh (.bl _); rw [negIf] at this; exact this⟩
    · exact p.elim
  · split at p
    · rename_i hx
      split at p
      · rename_i hf
        rw [Bool.and_eq_true] at hf
        obtain ⟨a, vs, rfl, h1, r1⟩ := tup_at hh ry hx
        refine ⟨vs, .inr h1, flat_rep rx hf.1, flats_rep r1 hf.2, ?_⟩
        rw [in_rep rx r1 hf.1 hf.2]
        have := p.here hh (.bl _)
        rw [negIf] at this
        exact this
      · exact p.elim
    · split at p
      · rename_i hx
        split at p
        · rename_i hf
          rw [Bool.and_eq_true] at hf
          obtain ⟨a, vs, rfl, h1, r1⟩ := list_at hh ry hx
          refine ⟨vs, .inl h1, flat_rep rx hf.1, flats_rep r1 hf.2, ?_⟩
          rw [in_rep rx r1 hf.1 hf.2]
          have := p.here hh (.bl _)
          rw [negIf] at this
          exact this
        · exact p.elim
      · exact p.elim
theorem lenK : LRN K κ (rLenG K) gLen := fun H M ι F xs vs Q e hh r p => by
  unfold gLen at p
  split at p
  · split at p
    · rename_i hz
      cases r with | cons a b => cases a; cases b; exact ⟨hz, p.here hh (.int _)⟩
    · exact p.elim
  · cases r with
    | cons a b =>
      cases b
      split at p
      · rename_i hx
        obtain ⟨q, ws, rfl, h1, r1⟩ := tup_at hh a hx
        exact ⟨ws, .inr h1, by rw [← r1.len]; exact p.here hh (.int _)⟩
      · split at p
        · rename_i hx
          obtain ⟨q, ws, rfl, h1, r1⟩ := list_at hh a hx
          exact ⟨ws, .inl h1, by rw [← r1.len]; exact p.here hh (.int _)⟩
        · exact p.elim
  · exact p.elim
theorem intK : LRN K κ rIntG gInt := fun H M ι F xs vs Q e hh r p => by
  unfold gInt at p
  split at p
  · cases r with | cons a b => cases a; cases b; exact p.here hh (.int _)
  · cases r with | cons a b => cases a; cases b; exact p.here hh (.int _)
  · split at p
    · rename_i n hn
      split at p
      · rename_i hl
        cases r with | cons a b => cases a; cases b; exact ⟨n, hn, hl, p.here hh (.int _)⟩
      · exact p.elim
    · exact p.elim
  · exact p.elim
theorem absK : LRN K κ rAbsG gAbs := fun H M ι F xs vs Q e hh r p => by
  unfold gAbs at p
  split at p
  · cases r with | cons a b => cases a; cases b; exact p.here hh (.int _)
  · exact p.elim
theorem maxK : LRN K κ rMaxG gMax := fun H M ι F xs vs Q e hh r p => by
  unfold gMax at p
  split at p
  · cases r with | cons a b => cases a; cases b with | cons c d => cases c; cases d; exact p.here hh (.int _)
  · exact p.elim
theorem minK : LRN K κ rMinG gMin := fun H M ι F xs vs Q e hh r p => by
  unfold gMin at p
  split at p
  · cases r with | cons a b => cases a; cases b with | cons c d => cases c; cases d; exact p.here hh (.int _)
  · exact p.elim
theorem strK : LRN K κ rStrG gStr := fun H M ι F xs vs Q e hh r p => by
  unfold gStr at p
  split at p
  · split at p
    · rename_i hl
      cases r with | cons a b => cases a; cases b; exact ⟨hl, p.here hh (.str _)⟩
    · exact p.elim
  · exact p.elim
theorem divmodK : LRN K κ rDivmodG gDivmod := fun H M ι F xs vs Q e hh r p => by
  unfold gDivmod at p
  split at p
  · split at p
    · rename_i hc
      cases r with
      | cons a b =>
        cases a
        cases b with
        | cons c d =>
          cases c; cases d
          refine ⟨hc, fun q hq => ?_⟩
          obtain ⟨e2, h3⟩ := hh.newF hq (.tup [.int _, .int _])
          exact p _ _ _ _ e2 h3 (.tuq (.inl (.inl upd_same)) (.cons (.int _) (.cons (.int _) .nil)))
    · exact p.elim
  · exact p.elim
/-- tuple(..) of a tuple, of a list -/
def rTupleG (K : PySem.W.Frag) : List V → Hp → VK → Prop := fun xs H Q => ∃ p ys, xs = [.ref p] ∧ ((SqL K H p ys ∧ ∀ l o, H l = none → o.cls = .type "tuple" → o.dict = none → Q (.ref l) (upd H l (.frz o (.tup ys)))) ∨ (SqT K H p ys ∧ Q (.ref p) H))
theorem call_tupleG {X : Cx} : CallR X (.type "tuple") (rTupleG X.K) := by
  intro pins s σ H xs us Q I r h
  obtain ⟨p, ys, e, h⟩ := h
  rcases h with ⟨h1, h2⟩ | ⟨h1, h2⟩
  · exact call_tupleF pins s σ H xs us Q I r ⟨p, ys, e, h1, h2⟩
  · exact call_tupleT pins s σ H xs us Q I r ⟨p, ys, e, h1, h2⟩
theorem tupleK : LRN K κ (rTupleG K) gTuple := fun H M ι F xs vs Q e hh r p => by
  unfold gTuple at p
  split at p
  · cases r with
    | cons a b =>
      cases b
      split at p
      · rename_i hx
        obtain ⟨q, ws, rfl, h1, r1⟩ := tup_at hh a hx
        exact ⟨q, ws, rfl, .inr ⟨h1, p.here hh a⟩⟩
      · split at p
        · rename_i hx
          obtain ⟨q, ws, rfl, h1, r1⟩ := list_at hh a hx
          refine ⟨q, ws, rfl, .inl ⟨h1, fun l o hl hc hd => ?_⟩⟩
          obtain ⟨e2, h3⟩ := hh.newF hl (.frz o (.tup ws))
          exact p _ _ _ _ e2 h3 (.tup (.inl ⟨o, upd_same, hc, hd⟩) (r1.ext e2))
        · exact p.elim
  · exact p.elim
def rListG (K : PySem.W.Frag) : List V → Hp → VK → Prop := fun xs H Q => ∃ p ys, xs = [.ref p] ∧ (SqL K H p ys ∨ SqT K H p ys) ∧ ∀ l, H l = none → Q (.ref l) (upd H l (.lst ys))
theorem call_listG {X : Cx} : CallR X (.type "list") (rListG X.K) := call_list_of
theorem listK : LRN K κ (rListG K) gList := fun H M ι F xs vs Q e hh r p => by
  unfold gList at p
  split at p
  · cases r with
    | cons a b =>
      cases b
      split at p
      · rename_i hx
        obtain ⟨q, ws, rfl, h1, r1⟩ := tup_at hh a hx
        refine ⟨q, ws, rfl, .inr h1, fun l hl => ?_⟩
        obtain ⟨e2, hh2, h5⟩ := hh.new (ho := .lst ws) hl (.lst r1)
        exact p _ _ _ _ e2 hh2 (.ref h5)
      · split at p
        · rename_i hx
          obtain ⟨q, ws, rfl, h1, r1⟩ := list_at hh a hx
          refine ⟨q, ws, rfl, .inl h1, fun l hl => ?_⟩
          obtain ⟨e2, hh2, h5⟩ := hh.new (ho := .lst ws) hl (.lst r1)
          exact p _ _ _ _ e2 hh2 (.ref h5)
        · exact p.elim
  · exact p.elim
theorem ints_rep : ∀ {ds : List D} {vs : List V} {ns : List Int}, RepL K κ ι F ds vs → intsOf ds = some ns → vs = ns.map V.int
  | [], _, _, r, h => by cases r; simp only [intsOf] at h; cases h; rfl
  | d :: ds, _, _, r, h => by
    cases r with
    | cons a b =>
      cases a <;> simp only [intsOf] at h <;> first
        | (cases h; done)
        | (obtain ⟨x, hx, rfl⟩ := Option.map_eq_some_iff.mp h; rw [ints_rep b hx]; rfl)
theorem bls_rep : ∀ {ds : List D} {vs : List V} {ns : List Bool}, RepL K κ ι F ds vs → blsOf ds = some ns → vs = ns.map V.bl
  | [], _, _, r, h => by cases r; simp only [blsOf] at h; cases h; rfl
  | d :: ds, _, _, r, h => by
    cases r with
    | cons a b =>
      cases a <;> simp only [blsOf] at h <;> first
        | (cases h; done)
        | (obtain ⟨x, hx, rfl⟩ := Option.map_eq_some_iff.mp h; rw [bls_rep b hx]; rfl)
theorem sumK : LRN K κ (rSum K) gSum := fun H M ι F xs vs Q e hh r p => by
  unfold gSum at p
  split at p
  · cases r with
    | cons a b =>
      cases b
      split at p
      · rename_i hx
        split at p
        · rename_i ns hn
          obtain ⟨q, ws, rfl, h1, r1⟩ := list_at hh a hx
          exact ⟨q, ns, rfl, by rw [← ints_rep r1 hn]; exact h1, p.here hh (.int _)⟩
        · exact p.elim
      · exact p.elim
  · exact p.elim
theorem allK : LRN K κ (rAll K) gAll := fun H M ι F xs vs Q e hh r p => by
  unfold gAll at p
  split at p
  · cases r with
    | cons a b =>
      cases b
      split at p
      · rename_i hx
        split at p
        · rename_i ns hn
          obtain ⟨q, ws, rfl, h1, r1⟩ := list_at hh a hx
          exact ⟨q, ns, rfl, by rw [← bls_rep r1 hn]; exact h1, p.here hh (.bl _)⟩
        · exact p.elim
      · exact p.elim
  · exact p.elim
theorem anyK : LRN K κ (rAny K) gAny := fun H M ι F xs vs Q e hh r p => by
  unfold gAny at p
  split at p
  · cases r with
    | cons a b =>
      cases b
      split at p
      · rename_i hx
        split at p
        · rename_i ns hn
          obtain ⟨q, ws, rfl, h1, r1⟩ := list_at hh a hx
          exact ⟨q, ns, rfl, by rw [← bls_rep r1 hn]; exact h1, p.here hh (.bl _)⟩
        · exact p.elim
      · exact p.elim
  · exact p.elim
theorem kit_of' {t n : String} (ht : t ∈ kinds) (hn : n ∈ kinds.tail) : kitB t n = some (isK t n) := of_decide_eq_true (List.all_eq_true.mp (List.all_eq_true.mp kit_all t ht) n hn)
theorem tyX_tup {a : Addr} {vs : List V} (h : SqT K H a vs) : TyX K H (.ref a) (.type "tuple") := by
  rcases h with h | ⟨o, its, n, h1, h2, _⟩
  · rcases h with h | ⟨o, h⟩
    · exact .base (.tup h)
    · exact .fTuple h
  · exact .kTuple h1 h2
theorem tyX_lst {a : Addr} {vs : List V} (h : SqL K H a vs) : TyX K H (.ref a) (.type "list") := by
  rcases h with h | ⟨o, its, n, h1, h2, _⟩
  · rcases h with h | ⟨o, h⟩
    · exact .base (.lst h)
    · exact .base (.frz h)
  · exact .kList h1 h2
theorem isiK : LRN K κ (rIsiH K) gIsi := fun H M ι F xs vs Q e hh r p => by
  unfold gIsi at p
  split at p
  · rename_i x n
    split at p
    · rename_i t ht
      split at p
      · rename_i hn
        cases r with
        | cons a b =>
          cases b with
          | cons c d =>
            cases c; cases d
            have q := p.here hh (.bl _)
            have flat : ∀ {v : V}, Rep K κ ι F x v → flatV v = true → tyOf v = t → t ∈ kinds → (∀ z, v ≠ .ref z) → rIsiH K [v, .ty n] H Q := fun {v} _ h1 h2 h3 h4 => by
              have : rIsiG [v, .ty n] H Q := ⟨h1, by rw [h2]; intro z; rw [z] at h3; revert h3; decide, _, by rw [h2]; exact kit_of' h3 hn, q⟩
              unfold rIsiH
              cases v <;> first | exact this | exact absurd rfl (h4 _)
            have refs : ∀ {z : Addr}, TyX K H (.ref z) (.type t) → t ∈ kinds → rIsiH K [.ref z, .ty n] H Q := fun h1 h2 => ⟨t, _, h1, kit_of' h2 hn, q⟩
            unfold tyD at ht
            split at ht
            · cases ht; cases a; exact flat .non rfl rfl (by decide) (fun z e => by cases e)
            · cases ht; cases a; exact flat (.bl _) rfl rfl (by decide) (fun z e => by cases e)
            · cases ht; cases a; exact flat (.int _) rfl rfl (by decide) (fun z e => by cases e)
            · cases ht; cases a; exact flat (.str _) rfl rfl (by decide) (fun z e => by cases e)
            · cases ht
              obtain ⟨z, ws, rfl, h1, _⟩ := tup_at hh a rfl
              exact refs (tyX_tup h1) (by decide)
            · cases ht
              obtain ⟨z, ws, rfl, h1, _⟩ := tup_at hh a rfl
              exact refs (tyX_tup h1) (by decide)
            · cases ht
              obtain ⟨z, ws, rfl, h1, _⟩ := list_at hh a rfl
              exact refs (tyX_lst h1) (by decide)
            · cases ht
              obtain ⟨z, ws, rfl, h1, _⟩ := list_at hh a rfl
              exact refs (tyX_lst h1) (by decide)
            · cases ht
              obtain ⟨z, ws, rfl, h1, _⟩ := dct_at hh a rfl
              rcases h1 with h1 | ⟨_, h1⟩
              · exact refs (.base (.dK h1)) (by decide)
              · exact refs (.fDict h1) (by decide)
            · split at ht
              · rename_i hM
                cases ht
                obtain ⟨z, u, rfl, _, h2, h3⟩ := relH_ref hh a hM
                cases h3 with | lst h3 => exact refs (.base (.lst h2)) (by decide)
              · rename_i hM
                cases ht
                obtain ⟨z, u, rfl, _, h2, h3⟩ := relH_ref hh a hM
                cases h3 with | dct l h3 => exact refs (.base (.dK h2)) (by decide)
              · rename_i hM
                cases ht
                obtain ⟨z, u, rfl, _, h2, h3⟩ := relH_ref hh a hM
                cases h3 with | dctL l h3 => exact refs (.fDict h2) (by decide)
              · cases ht
            · cases ht
      · exact p.elim
    · exact p.elim
  · exact p.elim
end
end G
namespace G
open PySem PySem.Spec PyProof.Rows L2
/-! ### statements -/
abbrev FG := D → AS → AH → SRes
section
variable (K : PySem.W.Frag) (κ : Kap) (E : EK)
def LG (g : TG) (f : FG) : Prop := ∀ v d σ δ H M ι F T, RelS K κ E ι F H δ σ → RelH K κ ι F H M → Rep K κ ι F d v → SPost K κ ι F H (f d δ M) T E → g v σ H T.nx
def LGs (g : TGs) (f : List D → AS → AH → SRes) : Prop := ∀ vs ds σ δ H M ι F T, RelS K κ E ι F H δ σ → RelH K κ ι F H M → RepL K κ ι F ds vs → SPost K κ ι F H (f ds δ M) T E → g vs σ H T.nx
end
def fgName (i : Nat) : FG := fun d δ M => .nx (δ.set i (some d)) M
def fgNil : List D → AS → AH → SRes := fun ds δ M => match ds with | [] => .nx δ M | _ => .stuck
def thenG (r : SRes) (k : AS → AH → SRes) : SRes := match r with
  | .nx δ M => k δ M
  | .exc c p δ M => .exc c p δ M
  | _ => .stuck
def fgCons (f : FG) (fs : List D → AS → AH → SRes) : List D → AS → AH → SRes := fun ds δ M => match ds with | d :: r => thenG (f d δ M) (fs r) | _ => .stuck
def fgTup (n : Nat) (fs : List D → AS → AH → SRes) : FG := fun d δ M => match tupOf d with
  | some xs => if xs.length = n then fs xs δ M else .stuck
  | none => .stuck
def fgLst (n : Nat) (fs : List D → AS → AH → SRes) : FG := fun d δ M => match listOf d M with
  | some xs => if xs.length = n then fs xs δ M else .stuck
  | none => .stuck
def fSeq (a b : FS) : FS := fun δ M => match a δ M with
  | .nx δ' M' => b δ' M'
  | r => r
def fIfS (t : FT) (a b : FS) : FS := fun δ M => (t δ M).thenS δ fun c M1 => if c then a δ M1 else b δ M1
def fRet (e : FE) : FS := fun δ M => (e δ M).thenS δ fun d M1 => .rt d M1
def fRetN : FS := fun _ M => .rt .non M
def fAsg (e : FE) (g : FG) : FS := fun δ M => (e δ M).thenS δ fun d M1 => g d δ M1
def fDrop (e : FE) : FS := fun δ M => (e δ M).thenS δ fun _ M1 => .nx δ M1
def fNext : FS := fun δ M => .nx δ M
def fNever : FS := fun _ _ => .stuck
def fBreak : FS := fun δ M => .bk δ M
def fCont : FS := fun δ M => .ct δ M
def fPar (i j : Nat) (a : FA) : FS := fun δ M => (a δ M).thenS δ fun ds M1 => match ds with
  | [x, y] => .nx ((δ.set i (some x)).set j (some y)) M1
  | _ => .stuck
def fRaiseC (c f : String) (a : FA) : FS := fun δ M => (a δ M).thenS δ fun ds M1 => match ds with
  | [d] => .exc c (some ([f], [d])) δ M1
  | _ => .stuck
/-- xs[i] = v -/
def fgSub (o i : FE) : FG := fun d δ M => (o δ M).thenS δ fun x M1 => (i δ M1).thenS δ fun k M2 => match x, k with
  | .ref l, .int k => (match M2[l]? with
    | some (.lst xs) => (match ixN xs.length k with | some j => .nx δ (M2.set l (.lst (xs.set j d))) | none => .stuck)
    | _ => .stuck)
  | _, _ => .stuck
def loopS (r : SRes) (k : AS → AH → SRes) : SRes := match r with
  | .nx δ M => k δ M
  | .ct δ M => k δ M
  | .bk δ M => .nx δ M
  | r => r
def fWhile (t : FT) (b : FS) : Nat → FS
  | 0 => fun _ _ => .stuck
  | n + 1 => fun δ M => (t δ M).thenS δ fun c M1 => if c then loopS (b δ M1) (fWhile t b n) else .nx δ M1
/-- what is walked: the things, and whether it stands as it did -/
abbrev Itm := List D × (AH → Bool)
abbrev FI := AS → AH → Res Itm
def fForL (chk : AH → Bool) (g : FG) (b : FS) : List D → FS
  | [] => fun δ M => if chk M then .nx δ M else .stuck
  | d :: ds => fun δ M => if chk M then thenG (g d δ M) (fun δ1 M1 => loopS (b δ1 M1) (fForL chk g b ds)) else .stuck
def fFor (i : FI) (g : FG) (b : FS) : FS := fun δ M => (i δ M).thenS δ fun it M1 => fForL it.2 g b it.1 δ M1
section
variable {K : PySem.W.Frag} {κ : Kap} {E : EK} {ι ι' : List Addr} {F F' H H' : Hp} {M M' : AH}
theorem SPost.of {r : SRes} {T : Ends} {σ : L2.St} {δ : AS} (p : SPost K κ ι F H (.nx δ M) T E) (hs : RelS K κ E ι F H δ σ) (hh : RelH K κ ι F H M) : T.nx σ H := p σ H ι F Ext.refl hh hs
theorem lg_name {i : Nat} (hE : E.Free) : LG K κ E (gName i) (fgName i) := fun v d σ δ H M ι F T hs hh r p => p _ _ _ _ Ext.refl hh (hs.set hE r i)
theorem lgs_nil : LGs K κ E gNil fgNil := fun vs ds σ δ H M ι F T hs hh r p => by
  cases r with
  | nil => exact ⟨rfl, p _ _ _ _ Ext.refl hh hs⟩
  | cons a b => exact p.elim
theorem SPost.thenG {r : SRes} {k : AS → AH → SRes} {T : Ends} (p : SPost K κ ι F H (thenG r k) T E) : SPost K κ ι F H r { T with nx := fun σ' H' => ∃ δ' M' ι' F', Ext ι F H ι' F' H' ∧ RelH K κ ι' F' H' M' ∧ RelS K κ E ι' F' H' δ' σ' ∧ SPost K κ ι' F' H' (k δ' M') T E } E := by
  unfold G.thenG at p
  cases r with
  | nx δ M1 => exact fun σ' H' ι' F' e h s => ⟨δ, M1, ι', F', e, h, s, SPost.mono e p⟩
  | exc c q δ M1 => cases q <;> exact p
  | rt d M1 => exact p.elim
  | bk δ M1 => exact p.elim
  | ct δ M1 => exact p.elim
  | stuck => exact p.elim
theorem lgs_cons {g : TG} {gs : TGs} {f : FG} {fs : List D → AS → AH → SRes} (h1 : LG K κ E g f) (h2 : LGs K κ E gs fs) : LGs K κ E (gCons g gs) (fgCons f fs) := fun vs ds σ δ H M ι F T hs hh r p => by
  cases r with
  | nil => exact p.elim
  | @cons d v ds vs a b =>
    refine ⟨v, vs, rfl, ?_⟩
    refine h1 v d σ δ H M ι F { T with nx := fun σ' H' => gs vs σ' H' T.nx } hs hh a ?_
    have q := SPost.thenG (r := f d δ M) (k := fs ds) p
    revert q
    generalize f d δ M = r
    intro q
    cases r with
    | nx δ M1 =>
      intro σ' H' ι' F' e h s
      obtain ⟨δ', M', ι2, F2, e2, h3, s2, p2⟩ := q σ' H' ι' F' e h s
      exact h2 vs ds σ' δ' H' M' ι2 F2 T s2 h3 (b.ext e2) p2
    | exc c q2 δ M1 => cases q2 <;> exact q
    | rt d M1 => exact q
    | bk δ M1 => exact q
    | ct δ M1 => exact q
    | stuck => exact q.elim
theorem lg_tup {n : Nat} {gs : TGs} {fs : List D → AS → AH → SRes} (h : LGs K κ E gs fs) : LG K κ E (gTup K n gs) (fgTup n fs) := fun v d σ δ H M ι F T hs hh r p => by
  unfold fgTup at p
  split at p
  · rename_i hx
    split at p
    · rename_i hn
      obtain ⟨a, vs, rfl, h1, r1⟩ := tup_at hh r hx
      exact ⟨a, vs, rfl, h1, by rw [← r1.len]; exact hn, h vs _ σ δ H M ι F T hs hh r1 p⟩
    · exact p.elim
  · exact p.elim
theorem lg_lst {n : Nat} {gs : TGs} {fs : List D → AS → AH → SRes} (h : LGs K κ E gs fs) : LG K κ E (gLst K n gs) (fgLst n fs) := fun v d σ δ H M ι F T hs hh r p => by
  unfold fgLst at p
  split at p
  · rename_i hx
    split at p
    · rename_i hn
      obtain ⟨a, vs, rfl, h1, r1⟩ := list_at hh r hx
      exact ⟨a, vs, rfl, h1, by rw [← r1.len]; exact hn, h vs _ σ δ H M ι F T hs hh r1 p⟩
    · exact p.elim
  · exact p.elim
theorem lg_sub {to ti : TE} {fo fi : FE} (h1 : LE K κ E to fo) (h2 : LE K κ E ti fi) : LG K κ E (L2.gSub to ti rSetL) (fgSub fo fi) := fun v d σ δ H M ι F T hs hh r p => by
  refine h1 σ δ H M ι F _ hs hh ((SPost.thenS (R := Rep K κ) hs p).mono Ext.refl ?_)
  rintro x H1 ⟨dx, M1, ι1, F1, e1, hh1, rx, p1⟩
  have hs1 := hs.ext e1
  refine h2 σ δ H1 M1 ι1 F1 _ hs1 hh1 ((SPost.thenS (R := Rep K κ) hs1 p1).mono Ext.refl ?_)
  rintro k H2 ⟨dk, M2, ι2, F2, e2, hh2, rk, p2⟩
  split at p2
  · rename_i l k
    split at p2
    · rename_i ds hM
      split at p2
      · rename_i j hj
        cases rk
        obtain ⟨a, u, rfl, ha, hu, ru⟩ := relH_ref hh2 (rx.ext e2) hM
        cases ru with
        | @lst _ ws ru =>
          refine ⟨a, ws, k, j, rfl, rfl, hu, by rw [← ru.len]; exact hj, ?_⟩
          have rset : ∀ {ds : List D} {ws : List V} (j : Nat), RepL K κ ι2 F2 ds ws → RepL K κ ι2 F2 (ds.set j d) (ws.set j v) := by
            intro ds ws j h
            induction ds generalizing ws j with
            | nil => cases h; exact .nil
            | cons x ds ih => cases h with
              | cons h3 h4 => cases j with
                | zero => exact .cons ((r.ext e1).ext e2) h4
                | succ j => exact .cons h3 (ih j h4)
          obtain ⟨e3, hh3⟩ := hh2.put (o := .lst (ds.set j d)) (ho := .lst (ws.set j v)) ha hM rfl (.lst (rset j ru))
          exact p2 _ _ _ _ e3 hh3 ((hs1.ext e2).ext e3)
      · exact p2.elim
    · exact p2.elim
  · exact p2.elim
theorem ls_seq {t u : TS} {f g : FS} (h1 : LS K κ E t f) (h2 : LS K κ E u g) : LS K κ E (tSeq t u) (fSeq f g) := fun σ δ H M ι F T hs hh p => by
  refine h1 σ δ H M ι F _ hs hh ?_
  unfold fSeq at p
  revert p
  generalize f δ M = r
  intro p
  cases r with
  | nx δ M1 => exact fun σ' H' ι' F' e h s => h2 σ' δ H' M1 ι' F' T s h (SPost.mono e p)
  | exc c q2 δ M1 => cases q2 <;> exact p
  | rt d M1 => exact p
  | bk δ M1 => exact p
  | ct δ M1 => exact p
  | stuck => exact p.elim
theorem ls_if {t : TT} {a b : TS} {ft : FT} {fa fb : FS} (ht : LT K κ E t ft) (ha : LS K κ E a fa) (hb : LS K κ E b fb) : LS K κ E (tIfS t a b) (fIfS ft fa fb) := fun σ δ H M ι F T hs hh p => by
  refine ht σ δ H M ι F _ hs hh ((SPost.thenS (R := REq) hs p).mono Ext.refl ?_)
  rintro c H1 ⟨d, M1, ι1, F1, e1, h1, r1, p1⟩
  cases (show d = c from r1)
  cases c with
  | true => exact ha σ δ H1 M1 ι1 F1 T (hs.ext e1) h1 p1
  | false => exact hb σ δ H1 M1 ι1 F1 T (hs.ext e1) h1 p1
theorem ls_ret {t : TE} {f : FE} (h : LE K κ E t f) : LS K κ E (tRet t) (fRet f) := fun σ δ H M ι F T hs hh p => by
  refine h σ δ H M ι F _ hs hh ((SPost.thenS (R := Rep K κ) hs p).mono Ext.refl ?_)
  rintro v H1 ⟨d, M1, ι1, F1, e1, h1, r1, p1⟩
  exact p1 v H1 ι1 F1 Ext.refl h1 r1
theorem ls_retN : LS K κ E tRetN fRetN := fun σ δ H M ι F T hs hh p => p .non H ι F Ext.refl hh .non
theorem ls_asg {t : TE} {f : FE} {g : TG} {fg : FG} (h : LE K κ E t f) (hg : LG K κ E g fg) : LS K κ E (tAsg t g) (fAsg f fg) := fun σ δ H M ι F T hs hh p => by
  refine h σ δ H M ι F _ hs hh ((SPost.thenS (R := Rep K κ) hs p).mono Ext.refl ?_)
  rintro v H1 ⟨d, M1, ι1, F1, e1, h1, r1, p1⟩
  exact hg v d σ δ H1 M1 ι1 F1 T (hs.ext e1) h1 r1 p1
theorem ls_drop {t : TE} {f : FE} (h : LE K κ E t f) : LS K κ E (tDrop t) (fDrop f) := fun σ δ H M ι F T hs hh p => by
  refine h σ δ H M ι F _ hs hh ((SPost.thenS (R := Rep K κ) hs p).mono Ext.refl ?_)
  rintro v H1 ⟨d, M1, ι1, F1, e1, h1, r1, p1⟩
  exact p1 σ H1 ι1 F1 Ext.refl h1 (hs.ext e1)
theorem ls_next : LS K κ E tNext fNext := fun σ δ H M ι F T hs hh p => p σ H ι F Ext.refl hh hs
theorem ls_never : LS K κ E tNever fNever := fun σ δ H M ι F T hs hh p => p.elim
theorem ls_break : LS K κ E tBreak fBreak := fun σ δ H M ι F T hs hh p => p σ H ι F Ext.refl hh hs
theorem ls_cont : LS K κ E tCont fCont := fun σ δ H M ι F T hs hh p => p σ H ι F Ext.refl hh hs
theorem ls_par {i j : Nat} {t : TA} {f : FA} (hE : E.Free) (h : LA K κ E t f) : LS K κ E (tPar i j t) (fPar i j f) := fun σ δ H M ι F T hs hh p => by
  refine h σ δ H M ι F _ hs hh ((SPost.thenS (R := RepL K κ) hs p).mono Ext.refl ?_)
  rintro vs H1 ⟨ds, M1, ι1, F1, e1, h1, r1, p1⟩
  split at p1
  · cases r1 with
    | cons a b => cases b with
      | cons c d =>
        cases d
        exact ⟨_, _, rfl, p1 _ H1 ι1 F1 Ext.refl h1 (((hs.ext e1).set hE a i).set hE c j)⟩
  · exact p1.elim
theorem ext_same (s : Same H H') (hh : RelH K κ ι F H M) : Ext ι F H ι F H' ∧ RelH K κ ι F H' M := by
  refine ⟨⟨List.prefix_rfl, Same.refl _, fun a o e _ _ => .inl (s _ _ e), fun a e => (show Nn H a from by
    cases q : H a with
    | none => exact .inl q
    | some o => rcases e with e | ⟨ps, e⟩ <;> rw [s _ _ q] at e <;> cases e; exact .inr ⟨ps, q⟩), fun a h => .inl h, fun a o e => .inl e⟩, ⟨hh.le.trans s.toLe, tabs_same hh.tb s, hh.nt, hh.len, hh.nd, hh.dis, fun i o e => ?_⟩⟩
  obtain ⟨a, u, h1, h2, h3⟩ := hh.pl i o e
  exact ⟨a, u, h1, s _ _ h2, h3⟩
theorem ls_raiseC {c f : String} {t : TA} {fa : FA} {W : WX} (hW : ∀ σ cls d H, E.E σ cls d H → W cls d σ H) (h : LA K κ E t fa) : LS K κ E (tRaiseC (κ c) (Str.ofString f) W t) (fRaiseC c f fa) := fun σ δ H M ι F T hs hh p => by
  rw [w_RaiseC]
  refine h σ δ H M ι F _ hs hh ((SPost.thenS (R := RepL K κ) hs p).mono Ext.refl ?_)
  rintro vs H1 ⟨ds, M1, ι1, F1, e1, h1, r1, p1⟩
  split at p1
  · cases r1 with
    | @cons d v _ _ a b =>
      cases b
      refine rMk_of fun x H2 s2 hx hx2 => hW _ _ _ _ ?_
      obtain ⟨e2, h2⟩ := ext_same s2 h1
      exact p1 σ x H2 ι1 F1 [v] (.inl hx) e2 h2 ((hs.ext e1).ext e2) rfl (.cons (a.ext e2) .nil) hx2
  · exact p1.elim
theorem SPost.loop {r : SRes} {k : AS → AH → SRes} {T : Ends} {N : L2.St → Hp → Prop} (p : SPost K κ ι F H (loopS r k) T E)
    (hN : ∀ σ' H' δ' M' ι' F', Ext ι F H ι' F' H' → RelH K κ ι' F' H' M' → RelS K κ E ι' F' H' δ' σ' → SPost K κ ι' F' H' (k δ' M') T E → N σ' H') : SPost K κ ι F H r { T with nx := N, ct := N, bk := T.nx } E := by
  unfold loopS at p
  cases r with
  | nx δ M1 => exact fun σ' H' ι' F' e h s => hN σ' H' δ M1 ι' F' e h s (SPost.mono e p)
  | ct δ M1 => exact fun σ' H' ι' F' e h s => hN σ' H' δ M1 ι' F' e h s (SPost.mono e p)
  | bk δ M1 => exact p
  | rt d M1 => exact p
  | exc c q δ M1 => cases q <;> exact p
  | stuck => exact p
theorem ls_while (n : Nat) {t : TT} {b : TS} {ft : FT} {fb : FS} (ht : LT K κ E t ft) (hb : LS K κ E b fb) : LS K κ E (tWhile t b) (fWhile ft fb n) := fun σ δ H M ι F T hs hh p => by
  refine ⟨fun m σ H => ∃ δ M ι F, RelS K κ E ι F H δ σ ∧ RelH K κ ι F H M ∧ SPost K κ ι F H (fWhile ft fb m δ M) T E, ⟨n, δ, M, ι, F, hs, hh, p⟩, ?_⟩
  rintro m σ H ⟨δ, M, ι, F, hs, hh, p⟩
  cases m with
  | zero => exact p.elim
  | succ m =>
    refine ht σ δ H M ι F _ hs hh ((SPost.thenS (R := REq) hs p).mono Ext.refl ?_)
    rintro c H1 ⟨d, M1, ι1, F1, e1, h1, r1, p1⟩
    cases (show d = c from r1)
    cases c with
    | true =>
      rw [if_pos rfl]
      refine ⟨fun σ' H' => ∃ δ M ι F, RelS K κ E ι F H' δ σ' ∧ RelH K κ ι F H' M ∧ SPost K κ ι F H' (fWhile ft fb m δ M) T E, fun σ' H' h => ⟨m, Nat.lt_succ_self _, h⟩, ?_⟩
      refine hb σ δ H1 M1 ι1 F1 _ (hs.ext e1) h1 (SPost.loop p1 fun σ' H' δ' M' ι' F' _ h s q => ⟨δ', M', ι', F', s, h, q⟩)
    | false =>
      rw [if_neg Bool.false_ne_true]
      exact p1 σ H1 ι1 F1 Ext.refl h1 (hs.ext e1)
/-! what is walked -/
def RelIt (K : PySem.W.Frag) (κ : Kap) (ι0 : List Addr) (F0 H0 : Hp) (a : Itm) (J : It) : Prop := ∀ (i : Nat) (H : Hp) (M : AH) (ι : List Addr) (F : Hp), Ext ι0 F0 H0 ι F H → RelH K κ ι F H M → a.2 M = true →
  (∀ d, a.1[i]? = some d → J.go i H ∧ ∀ v H', J.yld i H v H' → ∃ F', Ext ι F H ι F' H' ∧ RelH K κ ι F' H' M ∧ Rep K κ ι F' d v) ∧ (a.1.length = i → J.stop i H)
/-- as Post, of what is walked -/
def PostI (K : PySem.W.Frag) (κ : Kap) (ι : List Addr) (F H : Hp) (r : Res Itm) (Q : It → Hp → Prop) (E : XK) : Prop := match r with
  | .ok d M' => ∀ v H' ι' F', Ext ι F H ι' F' H' → RelH K κ ι' F' H' M' → RelIt K κ ι' F' H' d v → Q v H'
  | .exc c none M' => ∀ H' ι' F', Ext ι F H ι' F' H' → RelH K κ ι' F' H' M' → E (.ref (κ c)) none H'
  | .exc c (some (ns, ds)) M' => ∀ e H' ι' F' vs, Nn H e → Ext ι F H ι' F' H' → RelH K κ ι' F' H' M' → ns.length = vs.length → RepL K κ ι' F' ds vs → H' e = some (.xd ((ns.map Str.ofString).zip vs)) → E (.ref (κ c)) (some e) H'
  | .stuck => False
section
variable {K : PySem.W.Frag} {κ : Kap} {ι ι' : List Addr} {F F' H H' : Hp} {M M' : AH}
theorem PostI.mono {r : Res Itm} {Q : It → Hp → Prop} {E : XK} (e : Ext ι F H ι' F' H') (h : PostI K κ ι F H r Q E) : PostI K κ ι' F' H' r Q E := by
  unfold PostI at h ⊢
  split
  · exact fun v H2 ι2 F2 e2 r2 q2 => h v H2 ι2 F2 (e.trans e2) r2 q2
  · exact fun H2 ι2 F2 e2 r2 => h H2 ι2 F2 (e.trans e2) r2
  · exact fun x H2 ι2 F2 vs n2 e2 r2 => h x H2 ι2 F2 vs (e.dom _ n2) (e.trans e2) r2
  · exact h
theorem PostI.monoQ {r : Res Itm} {Q Q' : It → Hp → Prop} {E : XK} (h : PostI K κ ι F H r Q E) (hq : ∀ v H, Q v H → Q' v H) : PostI K κ ι F H r Q' E := by
  unfold PostI at h ⊢
  split
  · exact fun v H2 ι2 F2 e2 r2 q2 => hq _ _ (h v H2 ι2 F2 e2 r2 q2)
  · exact h
  · exact h
  · exact h
theorem PostI.bind {α β : Type} {R : List Addr → Hp → α → β → Prop} {r : Res α} {k : α → AH → Res Itm} {Q : It → Hp → Prop} {E : XK} (h : PostI K κ ι F H (r.bind k) Q E) :
    Post K κ R ι F H r (fun v H1 => ∃ d M1 ι1 F1, Ext ι F H ι1 F1 H1 ∧ RelH K κ ι1 F1 H1 M1 ∧ R ι1 F1 d v ∧ PostI K κ ι1 F1 H1 (k d M1) Q E) E := by
  unfold Res.bind at h
  cases r with
  | ok d M1 => exact fun v H1 ι1 F1 e rh rd => ⟨d, M1, ι1, F1, e, rh, rd, PostI.mono e h⟩
  | exc c p M1 =>
    cases p with
    | none => exact h
    | some p => exact h
  | stuck => exact h
theorem PostI.here {d : Itm} {v : It} {Q : It → Hp → Prop} {E : XK} (h : PostI K κ ι F H (.ok d M) Q E) (rh : RelH K κ ι F H M) (r : RelIt K κ ι F H d v) : Q v H := h v H ι F Ext.refl rh r
theorem SPost.thenI {r : Res Itm} {k : Itm → AH → SRes} {δ : AS} {σ : L2.St} {T : Ends} {E : EK} (hs : RelS K κ E ι F H δ σ) (h : SPost K κ ι F H (r.thenS δ k) T E) :
    PostI K κ ι F H r (fun v H1 => ∃ d M1 ι1 F1, Ext ι F H ι1 F1 H1 ∧ RelH K κ ι1 F1 H1 M1 ∧ RelIt K κ ι1 F1 H1 d v ∧ SPost K κ ι1 F1 H1 (k d M1) T E) (E.E σ) := by
  unfold Res.thenS at h
  cases r with
  | ok d M1 => exact fun v H1 ι1 F1 e rh rd => ⟨d, M1, ι1, F1, e, rh, rd, SPost.mono e h⟩
  | exc c p M1 =>
    cases p with
    | none => exact fun H1 ι1 F1 e rh => h σ H1 ι1 F1 e rh (hs.ext e)
    | some p => exact fun x H1 ι1 F1 vs n e rh => h σ x H1 ι1 F1 vs n e rh (hs.ext e)
  | stuck => exact h
theorem PostI.thenP {β γ : Type} {S : List Addr → Hp → β → γ → Prop} {r : Res Itm} {k : Itm → AH → Res β} {Q : γ → Hp → Prop} {E : XK} (h : Post K κ S ι F H (r.bind k) Q E) :
    PostI K κ ι F H r (fun v H1 => ∃ d M1 ι1 F1, Ext ι F H ι1 F1 H1 ∧ RelH K κ ι1 F1 H1 M1 ∧ RelIt K κ ι1 F1 H1 d v ∧ Post K κ S ι1 F1 H1 (k d M1) Q E) E := by
  unfold Res.bind at h
  cases r with
  | ok d M1 => exact fun v H1 ι1 F1 e rh rd => ⟨d, M1, ι1, F1, e, rh, rd, Post.mono e h fun _ _ x => x⟩
  | exc c p M1 =>
    cases p with
    | none => exact h
    | some p => exact h
  | stuck => exact h
end
def LI (K : PySem.W.Frag) (κ : Kap) (E : EK) (w : TI) (f : FI) : Prop := ∀ σ δ H M ι F R, RelS K κ E ι F H δ σ → RelH K κ ι F H M → PostI K κ ι F H (f δ M) R (E.E σ) → w σ H R
theorem ls_for {w : TI} {g : TG} {b : TS} {fi : FI} {fg : FG} {fb : FS} (hw : LI K κ E w fi) (hg : LG K κ E g fg) (hb : LS K κ E b fb) : LS K κ E (tFor w g b) (fFor fi fg fb) := fun σ δ H M ι F T hs hh p => by
  rw [w_For]
  refine hw σ δ H M ι F _ hs hh ((SPost.thenI hs p).monoQ ?_)
  rintro J H1 ⟨⟨xs, chk⟩, M1, ι1, F1, e1, h1, r1, p1⟩
  refine ⟨fun i m σ H => m + i = xs.length ∧ ∃ δ M ι F, Ext ι1 F1 H1 ι F H ∧ RelS K κ E ι F H δ σ ∧ RelH K κ ι F H M ∧ SPost K κ ι F H (fForL chk fg fb (xs.drop i) δ M) T E, ⟨xs.length, rfl, δ, M1, ι1, F1, Ext.refl, hs.ext e1, h1, p1⟩, ?_⟩
  rintro i m σ H ⟨hm, δ, M, ι, F, pe, hs, hh, p⟩
  cases hx : xs.drop i with
  | nil =>
    rw [hx] at p
    simp only [fForL] at p
    split at p
    · rename_i hc
      have hl : xs.length = i := by
        have := List.drop_eq_nil_iff.mp hx
        omega
      exact .inl ⟨(r1 i H M ι F pe hh hc).2 hl, p σ H ι F Ext.refl hh hs⟩
    · exact p.elim
  | cons d ds =>
    rw [hx] at p
    simp only [fForL] at p
    split at p
    · rename_i hc
      have hi : xs[i]? = some d := by
        have := congrArg (fun l => l[0]?) hx
        simpa using this
      have hds : xs.drop (i + 1) = ds := by
        rw [← List.drop_drop, hx]; rfl
      have hlt : i < xs.length := (List.getElem?_eq_some_iff.mp hi).1
      obtain ⟨hgo, hy⟩ := (r1 i H M ι F pe hh hc).1 d hi
      refine .inr ⟨hgo, fun σ' H' => m - 1 + (i + 1) = xs.length ∧ ∃ δ M ι F, Ext ι1 F1 H1 ι F H' ∧ RelS K κ E ι F H' δ σ' ∧ RelH K κ ι F H' M ∧ SPost K κ ι F H' (fForL chk fg fb (xs.drop (i + 1)) δ M) T E, fun σ' H' h => ⟨m - 1, by omega, h⟩, fun v H2 y => ?_⟩
      obtain ⟨F2, e2, hh2, rv⟩ := hy v H2 y
      have p2 := SPost.mono e2 (SPost.thenG p)
      refine hg v d σ δ H2 M ι F2 { T with nx := fun σ2 H3 => b { T with nx := _, ct := _, bk := T.nx } σ2 H3 } (hs.ext e2) hh2 rv ?_
      revert p2
      generalize fg d δ M = r
      intro p2
      cases r with
      | nx δ M1 =>
        intro σ3 H3 ι3 F3 e3 h3 s3
        obtain ⟨δ4, M4, ι4, F4, e4, h4, s4, p4⟩ := p2 σ3 H3 ι3 F3 e3 h3 s3
        exact hb σ3 δ4 H3 M4 ι4 F4 _ s4 h4 (SPost.loop p4 fun σ' H' δ' M' ι' F' e5 h s q => ⟨by omega, δ', M', ι', F', (pe.trans e4).trans e5, s, h, by rw [hds]; exact q⟩)
      | exc c q2 δ M1 => cases q2 <;> exact p2
      | rt d M1 => exact p2
      | bk δ M1 => exact p2
      | ct δ M1 => exact p2
      | stuck => exact p2.elim
    · exact p.elim
end
end G
namespace G
open PySem PySem.Spec PyProof.Rows L2
/-! ### what is walked; comprehensions -/
def stands (i : Nat) (xs : List D) (M : AH) : Bool := match M[i]? with
  | some (.lst ys) => D.beqL ys xs
  | _ => false
def itmOf (d : D) (M : AH) : Res Itm := match d with
  | .lst xs => .ok (xs, fun _ => true) M
  | .lsk xs => .ok (xs, fun _ => true) M
  | .ref i => match M[i]? with
    | some (.lst xs) => .ok (xs, stands i xs) M
    | _ => .stuck
  | _ => .stuck
def fiList (e : FE) : FI := fun δ M => (e δ M).bind itmOf
def fiTup (e : FE) : FI := fun δ M => (e δ M).bind fun d M1 => match tupOf d with
  | some xs => .ok (xs, fun _ => true) M1
  | none => .stuck
def fiStr (e : FE) : FI := fun δ M => (e δ M).bind fun d M1 => match d with
  | .str z => .ok ((tl z).map fun c => .str (S [c]), fun _ => true) M1
  | _ => .stuck
def rngD (lo c : Int) (n : Nat) : List D := (List.range n).map fun (i : Nat) => .int (lo + (i : Int) * c)
def fiRng1 (e : FE) : FI := fun δ M => (e δ M).bind fun d M1 => match d with
  | .int j => if -(2 ^ 62) ≤ j ∧ j < 2 ^ 62 then .ok (rngD 0 1 j.toNat, fun _ => true) M1 else .stuck
  | _ => .stuck
def fiRng2 (a b : FE) : FI := fun δ M => (a δ M).bind fun d M1 => (b δ M1).bind fun e M2 => match d, e with
  | .int i, .int j => if -(2 ^ 62) ≤ i ∧ i < 2 ^ 62 ∧ -(2 ^ 62) ≤ j ∧ j < 2 ^ 62 then .ok (rngD i 1 (j - i).toNat, fun _ => true) M2 else .stuck
  | _, _ => .stuck
instance (i j c : Int) (n : Nat) : Decidable (RgC i j c n) := by unfold RgC; infer_instance
def fiRng3 (a b e : FE) : FI := fun δ M => (a δ M).bind fun d M1 => (b δ M1).bind fun x M2 => (e δ M2).bind fun y M3 => match d, x, y with
  | .int i, .int j, .int c => if RgC i j c (Builtin.Range.rangeSize i j c).toNat then .ok (rngD i c (Builtin.Range.rangeSize i j c).toNat, fun _ => true) M3 else .stuck
  | _, _, _ => .stuck
def enumD : Nat → List D → List D
  | _, [] => []
  | i, x :: xs => .tuq [.int (i : Nat), x] :: enumD (i + 1) xs
def fiEnum (a : FA) : FI := fun δ M => (a δ M).bind fun ds M1 => match ds with
  | [d] => (itmOf d M1).bind fun it M2 => .ok (enumD 0 it.1, it.2) M2
  | _ => .stuck
def itmB (k : Bool) (d : D) (M : AH) : Res Itm := if k then itmOf d M else match tupOf d with
  | some xs => .ok (xs, fun _ => true) M
  | none => .stuck
def zipD (xs ys : List D) : List D := (xs.zip ys).map fun p => .tuq [p.1, p.2]
def fiZip (k1 k2 : Bool) (a : FA) : FI := fun δ M => (a δ M).bind fun ds M1 => match ds with
  | [d, e] => (itmB k1 d M1).bind fun it M2 => (itmB k2 e M2).bind fun jt M3 => .ok (zipD it.1 jt.1, fun M => it.2 M && jt.2 M) M3
  | _ => .stuck
section
variable {K : PySem.W.Frag} {κ : Kap} {E : EK} {ι ι' : List Addr} {F F' H H' : Hp} {M M' : AH}
/-- the list at a is xs as long as chk says so -/
def LstAt (K : PySem.W.Frag) (κ : Kap) (ι0 : List Addr) (F0 : Hp) (a : Addr) (xs : List D) (chk : AH → Bool) : Prop :=
  ∀ (H : Hp) (M : AH) (ι : List Addr) (F : Hp), ι0 <+: ι → Same F0 F → RelH K κ ι F H M → chk M = true → ∃ vs, SqL K H a vs ∧ RepL K κ ι F xs vs
theorem itmOf_at {d : D} {v : V} {Q : Itm → Hp → Prop} {e : XK} (hh : RelH K κ ι F H M) (r : Rep K κ ι F d v) (p : Post K κ (fun _ _ => Eq) ι F H (itmOf d M) Q e) : ∃ a it, v = .ref a ∧ (∃ vs, SqL K H a vs) ∧ LstAt K κ ι F a it.1 it.2 ∧ it.2 M = true ∧ Q it H := by
  unfold itmOf at p
  split at p
  · cases r with
    | lst h r => exact ⟨_, _, rfl, ⟨_, .inl (.inl (hh.le.ex h fun z => z))⟩, fun H M ι F pi pf hh _ => ⟨_, .inl (.inl (hh.le.ex (pf _ _ h) fun z => z)), r.mono pi pf⟩, rfl, p.here hh rfl⟩
  · cases r with
    | lsk h r => exact ⟨_, _, rfl, ⟨_, h.monoL hh.le⟩, fun H M ι F pi pf hh _ => ⟨_, (h.monoF pf).monoL hh.le, r.mono pi pf⟩, rfl, p.here hh rfl⟩
  · split at p
    · rename_i q
      obtain ⟨a, u, rfl, h1, h2, h3⟩ := relH_ref hh r q
      cases h3 with
      | lst h3 =>
        refine ⟨a, _, rfl, ⟨_, .inl (.inl h2)⟩, fun H M ι F pi pf hh hc => ?_, ?_, p.here hh rfl⟩
        · simp only [stands] at hc
          split at hc
          · rename_i hM
            have := D.beqL_eq hc
            subst this
            obtain ⟨u, hu, ru⟩ := hh.at_ (pre_get pi h1) hM
            cases ru with | lst ru => exact ⟨_, .inl (.inl hu), ru⟩
          · cases hc
        · simp only [stands, q]
          exact D.beqL_refl _
    · exact p.elim
  · exact p.elim
theorem seqL_inj {a : Addr} {xs ys : List V} (h : SqL K H a xs) (h' : SqL K H a ys) (hh : True := trivial) : True := trivial
theorem relIt_list {a : Addr} {xs : List D} {chk : AH → Bool} (h : LstAt K κ ι F a xs chk) : RelIt K κ ι F H (xs, chk) (Itl K a) := fun i H M ι' F' pe hh hc => by
  obtain ⟨vs, hq, r⟩ := h H M ι' F' pe.pre pe.frz hh hc
  refine ⟨fun d hd => ?_, fun hl => ⟨vs, hq, by rw [← r.len]; exact Nat.le_of_eq hl⟩⟩
  obtain ⟨v, hv, rv⟩ := r.get hd
  refine ⟨⟨vs, v, hq, hv⟩, fun w H2 y => ?_⟩
  obtain ⟨rfl, y⟩ := y
  have : some v = some w := hv.symm.trans (y vs hq)
  cases this
  exact ⟨F', Ext.refl, hh, rv⟩
theorem li_list {t : TE} {f : FE} (h : LE K κ E t f) : LI K κ E (iList K t) (fiList f) := fun σ δ H M ι F R hs hh p => by
  rw [w_iList]
  refine h σ δ H M ι F _ hs hh ((PostI.bind (R := Rep K κ) p).mono Ext.refl ?_)
  rintro v H1 ⟨d, M1, ι1, F1, e1, h1, r1, p1⟩
  have p1' : Post K κ (fun _ _ => Eq) ι1 F1 H1 (itmOf d M1) (fun it H => ∀ J, RelIt K κ ι1 F1 H1 it J → R J H) (E.E σ) := by
    unfold itmOf at p1 ⊢
    split at p1 <;> first
      | exact p1.elim
      | (exact fun it H' ι' F' e h q J hJ => by
          subst q
          exact p1 J H' ι' F' e h (fun i H M ι F pe hh hc => hJ i H M ι F (e.trans pe) hh hc))
      | (split at p1
         · exact fun it H' ι' F' e h q J hJ => by
            subst q
            exact p1 J H' ι' F' e h (fun i H M ι F pe hh hc => hJ i H M ι F (e.trans pe) hh hc)
         · exact p1.elim)
  obtain ⟨a, it, rfl, hq, hL, _, q⟩ := itmOf_at h1 r1 p1'
  exact ⟨a, rfl, hq, q _ (relIt_list hL)⟩
theorem relIt_tup {a : Addr} {xs : List D} {vs : List V} (hq : SqT K F a vs) (r : RepL K κ ι F xs vs) : RelIt K κ ι F H (xs, fun _ => true) (Itt K a) := fun i H M ι' F' pe hh hc => by
  have pi := pe.pre
  have pf := pe.frz
  have hq' : SqT K H a vs := (hq.monoF pf).monoL hh.le
  refine ⟨fun d hd => ?_, fun hl => ⟨vs, hq', by rw [← r.len]; exact Nat.le_of_eq hl⟩⟩
  obtain ⟨v, hv, rv⟩ := r.get hd
  refine ⟨⟨vs, v, hq', hv⟩, fun w H2 y => ?_⟩
  obtain ⟨rfl, y⟩ := y
  have : some v = some w := hv.symm.trans (y vs hq')
  cases this
  exact ⟨F', Ext.refl, hh, rv.mono pi pf⟩
theorem tupF_at {d : D} {v : V} {xs : List D} (r : Rep K κ ι F d v) (e : tupOf d = some xs) : ∃ a vs, v = .ref a ∧ SqT K F a vs ∧ RepL K κ ι F xs vs := by
  unfold tupOf at e
  split at e
  · cases e
    cases r with
    | tup h r => exact ⟨_, _, rfl, h.sq, r⟩
  · cases e
    cases r with
    | tuq h r => exact ⟨_, _, rfl, h, r⟩
  · cases e
theorem li_tup {t : TE} {f : FE} (h : LE K κ E t f) : LI K κ E (iTup K t) (fiTup f) := fun σ δ H M ι F R hs hh p => by
  rw [w_iTup]
  refine h σ δ H M ι F _ hs hh ((PostI.bind (R := Rep K κ) p).mono Ext.refl ?_)
  rintro v H1 ⟨d, M1, ι1, F1, e1, h1, r1, p1⟩
  split at p1
  · rename_i hx
    obtain ⟨a, vs, rfl, hq, r⟩ := tupF_at r1 hx
    exact ⟨a, rfl, ⟨vs, hq.monoL h1.le⟩, p1.here h1 (relIt_tup hq r)⟩
  · exact p1.elim
theorem relIt_fn {J : It} {n : Nat} {xs : List D} {g : Nat → V} (hl : xs.length = n) (w : Walk J n (fun _ => True) (fun i H x H' => H' = H ∧ x = g i)) (hx : ∀ i d, xs[i]? = some d → ∀ ι F, Rep K κ ι F d (g i)) : RelIt K κ ι F H (xs, fun _ => true) J := fun i H M ι' F' pe hh hc => by
  refine ⟨fun d hd => ?_, fun hi => by rw [← hi]; rw [hl]; exact w.stops H trivial⟩
  have hi : i < n := by rw [← hl]; exact (List.getElem?_eq_some_iff.mp hd).1
  refine ⟨w.goes i H hi trivial, fun v H2 y => ?_⟩
  obtain ⟨rfl, rfl⟩ := w.yields i H v H2 hi trivial y
  exact ⟨F', Ext.refl, hh, hx i d hd ι' F'⟩
theorem rngD_len {lo c : Int} {n : Nat} : (rngD lo c n).length = n := by simp [rngD]
theorem rngD_get {lo c : Int} {n i : Nat} {d : D} (h : (rngD lo c n)[i]? = some d) : d = .int (lo + (i : Int) * c) := by
  unfold rngD at h
  rw [List.getElem?_map] at h
  cases q : (List.range n)[i]? with
  | none => rw [q] at h; cases h
  | some j =>
    rw [q] at h
    have : j = i := by
      have := List.getElem?_eq_some_iff.mp q
      simpa using this.2.symm
    subst this
    cases h
    rfl
theorem relIt_range {lo : Int} {n : Nat} : RelIt K κ ι F H (rngD lo 1 n, fun _ => true) (Itr lo n) :=
  relIt_fn (g := fun i => .int (lo + i)) rngD_len walk_range fun i d h ι F => by
    rw [rngD_get h, Int.mul_one]; exact .int _
theorem relIt_rangeC {lo c : Int} {n : Nat} : RelIt K κ ι F H (rngD lo c n, fun _ => true) (Itc lo c n) :=
  relIt_fn (g := fun i => .int (lo + (i : Nat) * c)) rngD_len walk_rangeC fun i d h ι F => by
    rw [rngD_get h]; exact .int _
theorem li_str {t : TE} {f : FE} (h : LE K κ E t f) : LI K κ E (iStr t) (fiStr f) := fun σ δ H M ι F R hs hh p => by
  rw [w_iStr]
  refine h σ δ H M ι F _ hs hh ((PostI.bind (R := Rep K κ) p).mono Ext.refl ?_)
  rintro v H1 ⟨d, M1, ι1, F1, e1, h1, r1, p1⟩
  split at p1
  · rename_i z
    cases r1
    refine ⟨z, rfl, p1.here h1 fun i H M ι' F' pe hh hc => ?_⟩
    refine ⟨fun d hd => ?_, fun hl => by have s := (walk_str (z := z)).stops H trivial; rw [← hl]; simpa using s⟩
    rw [List.getElem?_map] at hd
    cases q : (tl z)[i]? with
    | none => rw [q] at hd; cases hd
    | some c =>
      rw [q] at hd
      cases hd
      have hi : i < z.cps.size := by
        have := (List.getElem?_eq_some_iff.mp q).1
        simpa using this
      refine ⟨hi, fun w H2 y => ?_⟩
      obtain ⟨rfl, c2, hc2, rfl⟩ := y
      have : c2 = c := by
        have h3 : (tl z)[i]? = some c2 := by simpa using hc2
        rw [q] at h3
        exact (Option.some.inj h3).symm
      subst this
      exact ⟨F', Ext.refl, hh, .str _⟩
  · exact p1.elim
theorem li_rng1 {t : TE} {f : FE} (h : LE K κ E t f) : LI K κ E (iRng1 (tCons t tNil)) (fiRng1 f) := fun σ δ H M ι F R hs hh p => by
  rw [w_iR1]
  refine h σ δ H M ι F _ hs hh ((PostI.bind (R := Rep K κ) p).mono Ext.refl ?_)
  rintro v H1 ⟨d, M1, ι1, F1, e1, h1, r1, p1⟩
  split at p1
  · split at p1
    · rename_i hj
      cases r1
      exact ⟨_, rfl, hj.1, hj.2, p1.here h1 relIt_range⟩
    · exact p1.elim
  · exact p1.elim
theorem li_rng2 {t u : TE} {f g : FE} (h : LE K κ E t f) (h' : LE K κ E u g) : LI K κ E (iRng2 (tCons t (tCons u tNil))) (fiRng2 f g) := fun σ δ H M ι F R hs hh p => by
  rw [w_iR2]
  refine h σ δ H M ι F _ hs hh ((PostI.bind (R := Rep K κ) p).mono Ext.refl ?_)
  rintro v H1 ⟨d, M1, ι1, F1, e1, h1, r1, p1⟩
  refine h' σ δ H1 M1 ι1 F1 _ (hs.ext e1) h1 ((PostI.bind (R := Rep K κ) p1).mono Ext.refl ?_)
  rintro w H2 ⟨d2, M2, ι2, F2, e2, h2, r2, p2⟩
  split at p2
  · split at p2
    · rename_i hj
      cases r1; cases r2
      exact iR2_of hj (p2.here h2 relIt_range)
    · exact p2.elim
  · exact p2.elim
theorem li_rng3 {t u w : TE} {f g k : FE} (h : LE K κ E t f) (h' : LE K κ E u g) (h'' : LE K κ E w k) : LI K κ E (iRng3 (tCons t (tCons u (tCons w tNil)))) (fiRng3 f g k) := fun σ δ H M ι F R hs hh p => by
  refine h σ δ H M ι F _ hs hh ((PostI.bind (R := Rep K κ) p).mono Ext.refl ?_)
  rintro v H1 ⟨d, M1, ι1, F1, e1, h1, r1, p1⟩
  refine h' σ δ H1 M1 ι1 F1 _ (hs.ext e1) h1 ((PostI.bind (R := Rep K κ) p1).mono Ext.refl ?_)
  rintro v2 H2 ⟨d2, M2, ι2, F2, e2, h2, r2, p2⟩
  refine h'' σ δ H2 M2 ι2 F2 _ ((hs.ext e1).ext e2) h2 ((PostI.bind (R := Rep K κ) p2).mono Ext.refl ?_)
  rintro v3 H3 ⟨d3, M3, ι3, F3, e3, h3, r3, p3⟩
  split at p3
  · split at p3
    · rename_i hj
      cases r1; cases r2; cases r3
      exact ⟨_, _, _, _, rfl, hj, p3.here h3 relIt_rangeC⟩
    · exact p3.elim
  · exact p3.elim
theorem enumD_get : ∀ {xs : List D} {k i : Nat} {d : D}, (enumD k xs)[i]? = some d → ∃ x, xs[i]? = some x ∧ d = .tuq [.int ((k + i : Nat) : Int), x]
  | [], _, _, _, h => by simp [enumD] at h
  | x :: xs, k, 0, d, h => by simp [enumD] at h; exact ⟨x, rfl, h.symm⟩
  | x :: xs, k, i + 1, d, h => by
    simp only [enumD, List.getElem?_cons_succ] at h
    obtain ⟨y, h1, h2⟩ := enumD_get h
    exact ⟨y, by simpa using h1, by rw [h2]; congr 3; omega⟩
theorem enumD_len : ∀ {xs : List D} {k : Nat}, (enumD k xs).length = xs.length
  | [], _ => rfl
  | x :: xs, k => by simp [enumD, enumD_len]
theorem relIt_enum {a : Addr} {xs : List D} {chk : AH → Bool} (h : LstAt K κ ι F a xs chk) : RelIt K κ ι F H (enumD 0 xs, chk) (Ite K a) := fun i H M ι' F' pe hh hc => by
  obtain ⟨vs, hq, r⟩ := h H M ι' F' pe.pre pe.frz hh hc
  refine ⟨fun d hd => ?_, fun hl => ⟨vs, hq, by rw [← r.len, ← enumD_len (k := 0)]; exact Nat.le_of_eq hl⟩⟩
  obtain ⟨x, hx, rfl⟩ := enumD_get hd
  obtain ⟨v, hv, rv⟩ := r.get hx
  refine ⟨⟨vs, v, hq, hv⟩, fun w H2 y => ?_⟩
  obtain ⟨T, z, rfl, hT, rfl, y⟩ := y
  have : some v = some z := hv.symm.trans (y vs hq)
  cases this
  obtain ⟨e2, h2⟩ := hh.newF hT (.tup [.int (i : Nat), v])
  exact ⟨_, e2, h2, .tuq (.inl (.inl upd_same)) (.cons (by rw [Nat.zero_add]; exact .int _) (.cons (rv.ext e2) .nil))⟩
end
end G
namespace G
open PySem PySem.Spec PyProof.Rows L2
def wipeD (δ : AS) : List Nat → AS
  | [] => δ
  | v :: vs => (wipeD δ vs).set v none
/-- a comprehension -/
def fLcL (chk : AH → Bool) (g : FG) (t : FT) (e : FE) (δ : AS) : List D → List D → AH → Res (List D)
  | [], acc, M => if chk M then .ok acc M else .stuck
  | d :: ds, acc, M => if chk M then (match g d δ M with
    | .nx δ1 M1 => (match t δ1 M1 with
      | .ok true M2 => (match e δ1 M2 with
        | .ok y M3 => if acc.length < sizeLine then fLcL chk g t e δ ds (acc ++ [y]) M3 else .stuck
        | _ => .stuck)
      | .ok false M2 => fLcL chk g t e δ ds acc M2
      | _ => .stuck)
    | _ => .stuck) else .stuck
def fLc (i : FI) (g : FG) (t : FT) (e : FE) (vs : List Nat) : FE := fun δ M => (i δ M).bind fun it M1 => match fLcL it.2 g t e (wipeD δ vs) it.1 [] M1 with
  | .ok ys M2 => .ok (.ref M2.length) (M2 ++ [.lst ys])
  | _ => .stuck
def fYes : FT := fun _ M => .ok true M
/-- a target that stores in these places alone -/
def GW (g : TG) (vs : List Nat) : Prop := ∀ v σ H Q, g v σ H Q → g v σ H fun σ' H' => Q σ' H' ∧ wipe σ' vs = wipe σ vs
def GWs (g : TGs) (vs : List Nat) : Prop := ∀ v σ H Q, g v σ H Q → g v σ H fun σ' H' => Q σ' H' ∧ wipe σ' vs = wipe σ vs
theorem wipe_get (σ : L2.St) (j : Nat) : ∀ vs : List Nat, (wipe σ vs)[j]? = if j ∈ vs then (σ[j]?).map (fun _ => none) else σ[j]?
  | [] => by simp [wipe]
  | v :: vs => by
    simp only [wipe]
    by_cases h : v = j
    · subst h
      rw [List.getElem?_set_self', wipe_get σ v vs]
      cases σ[v]? <;> simp <;> split <;> simp
    · rw [List.getElem?_set_ne h, wipe_get σ j vs]
      simp [Ne.symm h]
theorem wipeD_get (σ : AS) (j : Nat) : ∀ vs : List Nat, (wipeD σ vs)[j]? = if j ∈ vs then (σ[j]?).map (fun _ => none) else σ[j]?
  | [] => by simp [wipeD]
  | v :: vs => by
    simp only [wipeD]
    by_cases h : v = j
    · subst h
      rw [List.getElem?_set_self', wipeD_get σ v vs]
      cases σ[v]? <;> simp <;> split <;> simp
    · rw [List.getElem?_set_ne h, wipeD_get σ j vs]
      simp [Ne.symm h]
theorem wipe_set {σ : L2.St} {i : Nat} {x : Option V} {vs : List Nat} (h : i ∈ vs) : wipe (σ.set i x) vs = wipe σ vs := by
  refine List.ext_getElem? fun j => ?_
  rw [wipe_get, wipe_get]
  by_cases hj : i = j
  · subst hj
    rw [if_pos h, if_pos h, List.getElem?_set_self']
    cases σ[i]? <;> rfl
  · rw [List.getElem?_set_ne hj]
theorem gw_name {i : Nat} {vs : List Nat} (h : i ∈ vs) : GW (gName i) vs := fun v σ H Q q => ⟨q, wipe_set h⟩
theorem gws_nil {vs : List Nat} : GWs gNil vs := fun v σ H Q q => ⟨q.1, q.2, rfl⟩
theorem gws_cons {g : TG} {gs : TGs} {vs : List Nat} (h1 : GW g vs) (h2 : GWs gs vs) (m1 : ∀ v σ H (Q Q' : L2.St → Hp → Prop), (∀ σ H, Q σ H → Q' σ H) → g v σ H Q → g v σ H Q') (m2 : ∀ v σ H (Q Q' : L2.St → Hp → Prop), (∀ σ H, Q σ H → Q' σ H) → gs v σ H Q → gs v σ H Q') : GWs (gCons g gs) vs := fun v σ H Q q => by
  obtain ⟨x, r, e, q⟩ := q
  refine ⟨x, r, e, m1 _ _ _ _ _ (fun σ' H' ⟨q, w⟩ => ?_) (h1 x σ H _ q)⟩
  exact m2 _ _ _ _ _ (fun σ2 H2 ⟨q2, w2⟩ => ⟨q2, w2.trans w⟩) (h2 r σ' H' Q q)
def GM (g : TG) : Prop := ∀ v σ H (Q Q' : L2.St → Hp → Prop), (∀ σ H, Q σ H → Q' σ H) → g v σ H Q → g v σ H Q'
def GMs (g : TGs) : Prop := ∀ v σ H (Q Q' : L2.St → Hp → Prop), (∀ σ H, Q σ H → Q' σ H) → g v σ H Q → g v σ H Q'
theorem gm_name {i : Nat} : GM (gName i) := fun _ _ _ _ _ h q => h _ _ q
theorem gms_nil : GMs gNil := fun _ _ _ _ _ h q => ⟨q.1, h _ _ q.2⟩
theorem gms_cons {g : TG} {gs : TGs} (h1 : GM g) (h2 : GMs gs) : GMs (gCons g gs) := fun v σ H Q Q' h q => by
  obtain ⟨x, r, e, q⟩ := q
  exact ⟨x, r, e, h1 _ _ _ _ _ (fun σ' H' q => h2 _ _ _ _ _ h q) q⟩
theorem gm_tup {K : PySem.W.Frag} {n : Nat} {gs : TGs} (h : GMs gs) : GM (gTup K n gs) := fun v σ H Q Q' hq q => by
  obtain ⟨a, xs, e, h1, h2, q⟩ := q
  exact ⟨a, xs, e, h1, h2, h _ _ _ _ _ hq q⟩
theorem gw_tup {K : PySem.W.Frag} {n : Nat} {gs : TGs} {vs : List Nat} (h : GWs gs vs) : GW (gTup K n gs) vs := fun v σ H Q q => by
  obtain ⟨a, xs, e, h1, h2, q⟩ := q
  exact ⟨a, xs, e, h1, h2, h _ _ _ _ q⟩
theorem gws_cons' {g : TG} {gs : TGs} {vs : List Nat} (h1 : GW g vs) (h2 : GWs gs vs) (m1 : GM g) (m2 : GMs gs) : GWs (gCons g gs) vs := gws_cons h1 h2 m1 m2
section
variable {K : PySem.W.Frag} {κ : Kap} {E : EK} {ι ι' : List Addr} {F F' H H' : Hp} {M M' : AH}
/-- the list or tuple at a is xs as long as chk says so -/
def BAt (K : PySem.W.Frag) (κ : Kap) (k : Bool) (ι0 : List Addr) (F0 : Hp) (a : Addr) (xs : List D) (chk : AH → Bool) : Prop :=
  ∀ (H : Hp) (M : AH) (ι : List Addr) (F : Hp), ι0 <+: ι → Same F0 F → RelH K κ ι F H M → chk M = true → ∃ vs, SqB K k H a vs ∧ RepL K κ ι F xs vs
theorem itmB_at {k : Bool} {d : D} {v : V} {it : Itm} {M2 : AH} (hh : RelH K κ ι F H M) (r : Rep K κ ι F d v) (p : itmB k d M = .ok it M2) : M2 = M ∧ ∃ a, v = .ref a ∧ (∃ vs, SqB K k H a vs) ∧ BAt K κ k ι F a it.1 it.2 := by
  unfold itmB at p
  cases k with
  | true =>
    simp only [if_true] at p
    have hM : M2 = M := by
      unfold itmOf at p
      split at p <;> first
        | (cases p; rfl)
        | (split at p <;> first | (cases p; rfl) | cases p)
        | cases p
    have : Post K κ (fun _ _ => Eq) ι F H (itmOf d M) (fun j _ => j = it) (fun _ _ _ => False) := by
      rw [p]
      exact fun v H' ι' F' e h q => q.symm
    obtain ⟨a, jt, e, hq, hL, _, rfl⟩ := itmOf_at hh r this
    exact ⟨hM, a, e, hq, hL⟩
  | false =>
    simp only [Bool.false_eq_true, if_false] at p
    split at p
    · rename_i hx
      cases p
      obtain ⟨a, vs, rfl, hq, rr⟩ := tupF_at r hx
      exact ⟨rfl, a, rfl, ⟨vs, hq.monoL hh.le⟩, fun H M ι F pi pf hh hc => ⟨vs, (hq.monoF pf).monoL hh.le, rr.mono pi pf⟩⟩
    · cases p
theorem itmOf_nox {d : D} {c : String} {q : Option (List String × List D)} {M2 : AH} (h : itmOf d M = .exc c q M2) : False := by
  unfold itmOf at h
  split at h <;> first
    | (cases h; done)
    | (split at h <;> cases h)
theorem itmB_nox {k : Bool} {d : D} {c : String} {q : Option (List String × List D)} {M2 : AH} (h : itmB k d M = .exc c q M2) : False := by
  unfold itmB at h
  cases k with
  | true => exact itmOf_nox h
  | false =>
    simp only [Bool.false_eq_true, if_false] at h
    split at h <;> cases h
theorem li_enum {t : TE} {f : FE} (h : LE K κ E t f) : LI K κ E (iEnum K (tCons t tNil)) (fiEnum (fCons f fNil)) := fun σ δ H M ι F R hs hh p => by
  rw [w_iEnum]
  refine h σ δ H M ι F _ hs hh ?_
  unfold fiEnum fCons fNil at p
  revert p
  generalize f δ M = r
  intro p
  cases r with
  | ok d M1 =>
    intro v H1 ι1 F1 e1 h1 r1
    have p2 : PostI K κ ι1 F1 H1 ((itmOf d M1).bind fun it M2 => Res.ok (enumD 0 it.1, it.2) M2) R (E.E σ) := PostI.mono e1 (by exact p)
    cases q : itmOf d M1 with
    | ok it M2 =>
      rw [q] at p2
      simp only [Res.bind] at p2
      obtain ⟨rfl, a, rfl, ⟨vs, hq⟩, hL⟩ := itmB_at (k := true) h1 r1 q
      exact ⟨a, vs, rfl, hq, PostI.here p2 h1 (relIt_enum hL)⟩
    | exc c w M2 => exact (itmOf_nox q).elim
    | stuck => rw [q] at p2; exact p2.elim
  | exc c q M1 => cases q <;> exact p
  | stuck => exact p.elim
theorem zipD_get {xs ys : List D} {i : Nat} {d : D} (h : (zipD xs ys)[i]? = some d) : ∃ x y, xs[i]? = some x ∧ ys[i]? = some y ∧ d = .tuq [x, y] := by
  unfold zipD at h
  rw [List.getElem?_map] at h
  cases q : (xs.zip ys)[i]? with
  | none => rw [q] at h; cases h
  | some p =>
    rw [q] at h
    cases h
    rw [List.getElem?_zip_eq_some] at q
    exact ⟨_, _, q.1, q.2, rfl⟩
theorem zipD_len {xs ys : List D} : (zipD xs ys).length = min xs.length ys.length := by simp [zipD]
theorem relIt_zip {k1 k2 : Bool} {a b : Addr} {xs ys : List D} {c1 c2 : AH → Bool} (h1 : BAt K κ k1 ι F a xs c1) (h2 : BAt K κ k2 ι F b ys c2) : RelIt K κ ι F H (zipD xs ys, fun M => c1 M && c2 M) (ItzG K k1 k2 a b) := fun i H M ι' F' pe hh hc => by
  have pi := pe.pre
  have pf := pe.frz
  rw [Bool.and_eq_true] at hc
  obtain ⟨vs, hq1, r1⟩ := h1 H M ι' F' pi pf hh hc.1
  obtain ⟨ws, hq2, r2⟩ := h2 H M ι' F' pi pf hh hc.2
  refine ⟨fun d hd => ?_, fun hl => ⟨vs, ws, hq1, hq2, ?_, ?_, ?_⟩⟩
  · obtain ⟨x, y, hx, hy, rfl⟩ := zipD_get hd
    obtain ⟨v, hv, rv⟩ := r1.get hx
    obtain ⟨w, hw, rw_⟩ := r2.get hy
    refine ⟨⟨vs, ws, v, w, hq1, hq2, hv, hw⟩, fun u H2 q => ?_⟩
    obtain ⟨T, z1, z2, rfl, hT, rfl, q1, q2⟩ := q
    have e1 : some v = some z1 := hv.symm.trans (q1 vs hq1)
    have e2 : some w = some z2 := hw.symm.trans (q2 ws hq2)
    cases e1
    cases e2
    obtain ⟨e2, hh2⟩ := hh.newF hT (.tup [v, w])
    exact ⟨_, e2, hh2, .tuq (.inl (.inl upd_same)) (.cons (rv.ext e2) (.cons (rw_.ext e2) .nil))⟩
  all_goals
    have l1 := r1.len
    have l2 := r2.len
    simp only [zipD_len] at hl
    omega
theorem li_zip {k1 k2 : Bool} {t : TA} {f : FA} (h : LA K κ E t f) : LI K κ E (iZipG K k1 k2 t) (fiZip k1 k2 f) := fun σ δ H M ι F R hs hh p => by
  rw [w_iZipG]
  refine h σ δ H M ι F _ hs hh ((PostI.bind (R := RepL K κ) p).mono Ext.refl ?_)
  rintro vs H1 ⟨ds, M1, ι1, F1, e1, h1, r1, p1⟩
  split at p1
  · rename_i d e
    cases r1 with
    | cons ra rb => cases rb with
      | cons rb rc =>
        cases rc
        cases q1 : itmB k1 d M1 with
        | ok it M2 =>
          rw [q1] at p1
          simp only [Res.bind] at p1
          obtain ⟨rfl, a, rfl, ⟨vs, ha⟩, hA⟩ := itmB_at h1 ra q1
          cases q2 : itmB k2 e M2 with
          | ok jt M3 =>
            rw [q2] at p1
            obtain ⟨rfl, b, rfl, ⟨ws, hb⟩, hB⟩ := itmB_at h1 rb q2
            exact ⟨a, b, vs, ws, rfl, ha, hb, p1.here h1 (relIt_zip hA hB)⟩
          | exc c q M3 => exact (itmB_nox q2).elim
          | stuck => rw [q2] at p1; exact p1.elim
        | exc c q M2 => exact (itmB_nox q1).elim
        | stuck => rw [q1] at p1; exact p1.elim
  · exact p1.elim
theorem wipe_wipe {σ : L2.St} {vs : List Nat} : wipe (wipe σ vs) vs = wipe σ vs := by
  refine List.ext_getElem? fun j => ?_
  rw [wipe_get, wipe_get]
  split
  · cases σ[j]? <;> rfl
  · rfl
theorem relS_wipe {δ : AS} {σ : L2.St} {E0 : XK} (hs : RelS K κ E ι F H δ σ) (vs : List Nat) : RelS K κ (EK.of E0) ι F H (wipeD δ vs) (wipe σ vs) := by
  refine ⟨?_, fun i d e => ?_, trivial⟩
  · have l1 : ∀ vs : List Nat, (wipeD δ vs).length = δ.length := fun vs => by
      induction vs with
      | nil => rfl
      | cons v vs ih => simp [wipeD, ih]
    rw [l1, wipe_length]
    exact hs.len
  · rw [wipeD_get] at e
    split at e
    · cases q : δ[i]? with
      | none => rw [q] at e; cases e
      | some x => rw [q] at e; cases e
    · rename_i hv
      obtain ⟨v, h1, h2⟩ := hs.pl i d e
      exact ⟨v, by rw [wipe_get, if_neg hv]; exact h1, h2⟩
theorem lt_yes : LT K κ E tYes fYes := fun σ δ H M ι F Q hs hh p => p.here hh rfl
/-- a change beside -/
theorem RelH.beside (h : RelH K κ ι F H M) {p : Addr} {o : HO} (hn : p ∉ ι) (hF : F p = none) (hq : H p = none ∨ ∃ xs, H p = some (.lst xs)) : RelH K κ ι F (upd H p o) M :=
  ⟨fun a u e => by rw [upd_ne (fun z => by rw [z, hF] at e; cases e)]; exact h.le _ _ e, tabs_keep h.tb (fun b u e t φ hφ => by
      rw [upd_ne (fun z => by rw [z] at e; rcases hq with q | ⟨_, q⟩ <;> rw [q] at e <;> cases e <;> cases hφ)]; exact e) (fun b ps e => by
      rw [upd_ne (fun z => by rw [z] at e; rcases hq with q | ⟨_, q⟩ <;> rw [q] at e <;> cases e)]; exact e), h.nt, h.len, h.nd, h.dis, fun i u e => by
    obtain ⟨a, ho, e1, e2, r⟩ := h.pl i u e
    exact ⟨a, ho, e1, by rw [upd_ne (fun z => by rw [z] at e1; exact hn (List.mem_iff_getElem?.mpr ⟨i, e1⟩))]; exact e2, r⟩⟩
theorem Ext.beside (e : Ext ι F H ι' F' H') {p : Addr} {o : HO} (hp : H p = none) : Ext ι F H ι' F' (upd H' p o) :=
  ⟨e.pre, e.frz, fun a u h n t => by rw [upd_ne (ne_of_none h hp)]; exact e.frame a u h n t, fun a h => by
    by_cases ha : a = p
    · rw [ha]; exact .inl hp
    · exact e.dom a (h.upd fun z => (ha z).elim), e.nι, e.nF⟩
theorem le_lc {w : TI} {g : TG} {t : TT} {e : TE} {vs : List Nat} {fi : FI} {fg : FG} {ft : FT} {fe : FE} (hw : LI K κ E w fi) (hg : LG K κ (EK.of E0) g fg) (gw : GW g vs) (gm : GM g) (ht : LT K κ (EK.of E0) t ft) (he : LE K κ (EK.of E0) e fe) :
    LE K κ E (tLc w g t e vs) (fLc fi fg ft fe vs) := fun σ δ H M ι F Q hs hh p => by
  rw [w_Lc]
  refine hw σ δ H M ι F _ hs hh ((PostI.thenP p).monoQ ?_)
  rintro J H1 ⟨⟨xs, chk⟩, M1, ι1, F1, e1, h1, r1, p1⟩
  intro A hA
  have hsw := relS_wipe (E0 := E0) (hs.ext e1) vs
  -- the turns
  have base : ∀ (m i : Nat) (H : Hp) (M : AH) (ι : List Addr) (F : Hp) (acc : List D) (av : List V), Ext ι1 F1 H1 ι F H → RelH K κ ι F H M → A ∉ ι → F A = none → H A = some (.lst av) → RepL K κ ι F acc av → True := fun _ _ _ _ _ _ _ _ _ _ _ _ _ _ => trivial
  let W : Nat → Nat → Hp → Prop := fun i m H => m + i = xs.length ∧ ∃ (M : AH) (ι : List Addr) (F : Hp) (acc : List D) (av : List V), Ext ι1 F1 H1 ι F H ∧ RelH K κ ι F H M ∧ A ∉ ι ∧ F A = none ∧ H A = some (.lst av) ∧ RepL K κ ι F acc av ∧
    ∃ ys M2, fLcL chk fg ft fe (wipeD δ vs) (xs.drop i) acc M = .ok ys M2 ∧ Post K κ (Rep K κ) ι1 F1 H1 (.ok (.ref M2.length) (M2 ++ [.lst ys])) Q (E.E σ)
  refine ⟨W, ⟨xs.length, rfl, M1, ι1, F1, [], [], ?_, ?_, h1.notin hA, h1.freeF hA, upd_same, .nil, ?_⟩, ?_⟩
  · exact Ext.refl.beside hA
  · exact h1.beside (h1.notin hA) (h1.freeF hA) (.inl hA)
  · revert p1
    simp only [List.drop_zero]
    cases q : fLcL chk fg ft fe (wipeD δ vs) xs [] M1 with
    | ok ys M2 => exact fun p1 => ⟨ys, M2, rfl, p1⟩
    | exc c q M2 => exact fun p1 => p1.elim
    | stuck => exact fun p1 => p1.elim
  rintro i m H ⟨hm, M, ι, F, acc, av, ee, hh, hn, hF, hAv, ra, ys, M2, hL, pq⟩
  cases hx : xs.drop i with
  | nil =>
    rw [hx] at hL
    simp only [fLcL] at hL
    split at hL
    · rename_i hc
      cases hL
      have hl : xs.length = i := by
        have := List.drop_eq_nil_iff.mp hx
        omega
      refine .inl ⟨(r1 i H M ι F ee hh hc).2 hl, ?_⟩
      have h2 := hh.adopt (o := .lst acc) hAv hF hn (.lst ra)
      refine pq (.ref A) H (ι ++ [A]) F ⟨ee.pre.trans (List.prefix_append ..), ee.frz, ee.frame, ee.dom, fun a ha => ?_, ee.nF⟩ h2 (.ref (by rw [← hh.len]; simp))
      rcases List.mem_append.mp ha with ha | ha
      · exact ee.nι a ha
      · have : a = A := by simpa using ha
        rw [this]; exact .inr (.inl hA)
    · cases hL
  | cons d ds =>
    rw [hx] at hL
    simp only [fLcL] at hL
    split at hL
    · rename_i hc
      have hi : xs[i]? = some d := by
        have := congrArg (fun l => l[0]?) hx
        simpa using this
      have hds : xs.drop (i + 1) = ds := by rw [← List.drop_drop, hx]; rfl
      have hlt : i < xs.length := (List.getElem?_eq_some_iff.mp hi).1
      obtain ⟨hgo, hy⟩ := (r1 i H M ι F ee hh hc).1 d hi
      refine .inr ⟨hgo, fun H' => W (i + 1) (m - 1) H', fun H' h => ⟨m - 1, by omega, h⟩, fun v H2 y => ?_⟩
      obtain ⟨F2, e2, hh2, rv⟩ := hy v H2 y
      -- what the list is, behind a step
      have keep : ∀ {ι3 : List Addr} {F3 H3 : Hp}, Ext ι F H ι3 F3 H3 → A ∉ ι3 ∧ F3 A = none ∧ H3 A = some (.lst av) := fun {ι3 F3 H3} e3 => by
        refine ⟨fun ha => (e3.nι A ha).elim hn (fun z => z.no hAv (fun _ q => by cases q)), ?_, (e3.frame A _ hAv (.inl hn) (fun ps z => by cases z)).elim id fun z => z.1.elim⟩
        cases z : F3 A with
        | none => rfl
        | some o => exact ((e3.nF A o z).elim (fun z => by rw [hF] at z; cases z) fun z => (z.no hAv (fun _ q => by cases q)).elim)
      split at hL
      · rename_i δ3 M3 hg3
        split at hL
        · rename_i M4 ht4
          split at hL
          · rename_i y5 M5 he5
            split at hL
            · rename_i hlen
              refine gm v _ _ _ _ (fun σ3 H3 ⟨q, w⟩ => ⟨w.trans wipe_wipe, q⟩) (gw v (wipe σ vs) H2 _ (hg v d (wipe σ vs) (wipeD δ vs) H2 M ι F2 { nx := _, rt := fun _ _ => True } (RelS.ext (H := H) (H' := H2) (relS_wipe (E0 := E0) ((hs.ext e1).ext ee) vs) e2) hh2 rv ?_))
              rw [hg3]
              intro σ3 H3 ι3 F3 e3 h3 s3
              have e13 := e2.trans e3
              refine ht σ3 δ3 H3 M3 ι3 F3 _ s3 h3 ?_
              rw [ht4]
              rintro b H4 ι4 F4 e4 h4 rfl
              rw [if_pos rfl]
              refine he σ3 δ3 H4 M4 ι4 F4 _ (s3.ext e4) h4 ?_
              rw [he5]
              intro yv H5 ι5 F5 e5 h5 r5
              have e15 := (e13.trans e4).trans e5
              obtain ⟨n5, f5, a5⟩ := keep e15
              refine ⟨av, a5, by rw [← ra.len]; exact hlen, by omega, M5, ι5, F5, acc ++ [y5], av ++ [yv], (ee.trans e15).beside hA, h5.beside n5 f5 (.inr ⟨_, a5⟩), n5, f5, upd_same, (ra.ext e15).append (.cons r5 .nil), ys, M2, by rw [hds]; exact hL, pq⟩
            · cases hL
          · cases hL
        · rename_i M4 ht4
          refine gm v _ _ _ _ (fun σ3 H3 ⟨q, w⟩ => ⟨w.trans wipe_wipe, q⟩) (gw v (wipe σ vs) H2 _ (hg v d (wipe σ vs) (wipeD δ vs) H2 M ι F2 { nx := _, rt := fun _ _ => True } (RelS.ext (H := H) (H' := H2) (relS_wipe (E0 := E0) ((hs.ext e1).ext ee) vs) e2) hh2 rv ?_))
          rw [hg3]
          intro σ3 H3 ι3 F3 e3 h3 s3
          have e13 := e2.trans e3
          refine ht σ3 δ3 H3 M3 ι3 F3 _ s3 h3 ?_
          rw [ht4]
          rintro b H4 ι4 F4 e4 h4 rfl
          rw [if_neg Bool.false_ne_true]
          have e15 := e13.trans e4
          obtain ⟨n5, f5, a5⟩ := keep e15
          exact ⟨by omega, M4, ι4, F4, acc, av, ee.trans e15, h4, n5, f5, a5, ra.ext e15, ys, M2, by rw [hds]; exact hL, pq⟩
        · cases hL
      · cases hL
    · cases hL
end
end G
namespace G
open PySem PySem.Spec PyProof.Rows L2
/-! ### dicts -/
def keyD : D → Option Key
  | .int i => some (.inl i)
  | .str z => some (.inr z)
  | _ => none
def dOfK : Key → D
  | .inl i => .int i
  | .inr z => .str z
def valD (ks : List Key) (xs : List D) (k : Key) : Option D := ((ks.zip xs).find? fun p => decide (p.1 = k)).map (·.2)
def hasK (ks : List Key) (k : Key) : Bool := ks.any fun j => decide (j = k)
def putD (ks : List Key) (xs : List D) (k : Key) (d : D) : List Key × List D :=
  if hasK ks k then (ks, List.zipWith (fun j x => if j = k then d else x) ks xs) else (ks ++ [k], xs ++ [d])
def mergeD : List Key × List D → List (Key × D) → List Key × List D
  | a, [] => a
  | a, p :: r => mergeD (putD a.1 a.2 p.1 p.2) r
/-- the pairs of a tuple or list of pairs -/
def pairsD : List D → Option (List (Key × D))
  | [] => some []
  | d :: r => match tupOf d, pairsD r with
    | some [a, b], some ps => (match keyD a with | some k => some ((k, b) :: ps) | none => none)
    | _, _ => none
def fDNew : FE := fun _ M => .ok (.ref M.length) (M ++ [.dct [] []])
def gDGet : D → D → AH → Res D := fun d y M => match dctOf d M, keyD y with
  | some (ks, xs), some k => (match valD ks xs k with | some x => .ok x M | none => .stuck)
  | _, _ => .stuck
def fDGet (d y : FE) : FE := fun δ M => (d δ M).bind fun a M1 => (y δ M1).bind fun k M2 => gDGet a k M2
def fDGet2 (d y z : FE) : FE := fun δ M => (d δ M).bind fun a M1 => if (dctOf a M1).isSome then (y δ M1).bind fun k M2 => (z δ M2).bind fun e M3 => (match dctOf a M3, keyD k with
  | some (ks, xs), some k => .ok ((valD ks xs k).getD e) M3
  | _, _ => .stuck) else .stuck
def fDPut (d y v : FE) : FS := fun δ M => (v δ M).thenS δ fun x M1 => (d δ M1).thenS δ fun a M2 => (y δ M2).thenS δ fun k M3 => match a, keyD k with
  | .ref i, some k => (match M3[i]? with
    | some (.dct ks xs) => if ks.length < sizeLine then .nx δ (M3.set i (.dct (putD ks xs k x).1 (putD ks xs k x).2)) else .stuck
    | _ => .stuck)
  | _, _ => .stuck
/-- dict(..) of a tuple of pairs, of a dict -/
def gDict : List D → AH → Res D := fun xs M => match xs with
  | [.tup ds] => (match pairsD ds with | some ps => .ok (.ref M.length) (M ++ [.dct (mergeD ([], []) ps).1 (mergeD ([], []) ps).2]) | none => .stuck)
  | [d] => (match dctOf d M with | some (ks, ys) => .ok (.ref M.length) (M ++ [.dct ks ys]) | none => .stuck)
  | _ => .stuck
section
variable {K : PySem.W.Frag} {κ : Kap} {E : EK} {ι ι' : List Addr} {F F' H H' : Hp} {M M' : AH}
theorem keyD_rep {d : D} {v : V} {k : Key} (r : Rep K κ ι F d v) (h : keyD d = some k) : v = kV k := by
  cases r <;> simp only [keyD] at h <;> cases h <;> rfl
theorem val_rep {ks : List Key} {xs : List D} {vs : List V} (hl : ks.length = vs.length) (r : RepL K κ ι F xs vs) (k : Key) :
    (valD ks xs k = none ∧ valV (ks.zip vs) k = none) ∨ ∃ d v, valD ks xs k = some d ∧ valV (ks.zip vs) k = some v ∧ Rep K κ ι F d v := by
  induction ks generalizing xs vs with
  | nil => exact .inl ⟨rfl, rfl⟩
  | cons j ks ih =>
    cases r with
    | nil => cases hl
    | @cons d v xs vs a b =>
      by_cases hj : j = k
      · exact .inr ⟨d, v, by simp [valD, hj], by simp [valV, hj], a⟩
      · rcases ih (by simpa using hl) b with ⟨h1, h2⟩ | ⟨x, y, h1, h2, h3⟩
        · exact .inl ⟨by simp [valD, hj] at h1 ⊢; exact h1, by simp [valV, hj] at h2 ⊢; exact h2⟩
        · exact .inr ⟨x, y, by simp [valD, hj] at h1 ⊢; exact h1, by simp [valV, hj] at h2 ⊢; exact h2, h3⟩
theorem putD_len {ks : List Key} {xs : List D} {k : Key} {d : D} (h : ks.length = xs.length) : (putD ks xs k d).1.length = (putD ks xs k d).2.length := by
  unfold putD
  split <;> simp [h]
theorem put_rep {ks : List Key} {xs : List D} {vs : List V} {k : Key} {d : D} {v : V} (hl : ks.length = vs.length) (r : RepL K κ ι F xs vs) (rd : Rep K κ ι F d v) :
    ∃ ws, putK (ks.zip vs) k v = (putD ks xs k d).1.zip ws ∧ (putD ks xs k d).1.length = ws.length ∧ RepL K κ ι F (putD ks xs k d).2 ws := by
  have hany : ((ks.zip vs).any fun kv => decide (kv.1 = k)) = hasK ks k := by
    clear r
    unfold hasK
    induction ks generalizing vs with
    | nil => simp
    | cons j ks ih =>
      cases vs with
      | nil => cases hl
      | cons w vs =>
        have := ih (vs := vs) (by simpa using hl)
        simp only [List.zip_cons_cons, List.any_cons, this]
  unfold putK putD
  rw [hany]
  by_cases hk : hasK ks k = true
  · rw [if_pos hk, if_pos hk]
    refine ⟨List.zipWith (fun j x => if j = k then v else x) ks vs, ?_, by simp [hl], ?_⟩
    · clear hany hk r
      induction ks generalizing vs with
      | nil => rfl
      | cons j ks ih =>
        cases vs with
        | nil => cases hl
        | cons w vs =>
          have := ih (vs := vs) (by simpa using hl)
          simp only [List.zip_cons_cons, List.map_cons, List.zipWith_cons_cons, this]
          split <;> rfl
    · clear hany hk
      induction ks generalizing xs vs with
      | nil => cases vs with
        | nil => cases r; exact .nil
        | cons _ _ => cases hl
      | cons j ks ih =>
        cases r with
        | nil => cases hl
        | cons a b =>
          simp only [List.zipWith_cons_cons]
          refine .cons ?_ (ih (by simpa using hl) b)
          split
          · exact rd
          · exact a
  · rw [if_neg hk, if_neg hk]
    refine ⟨vs ++ [v], ?_, by simp [hl], r.append (.cons rd .nil)⟩
    rw [List.zip_append hl]
    rfl
theorem merge_rep : ∀ {ps : List (Key × D)} {qs : List (Key × V)} {ks : List Key} {xs : List D} {vs : List V}, Paired (fun (p : Key × D) (q : Key × V) => p.1 = q.1 ∧ Rep K κ ι F p.2 q.2) ps qs → ks.length = vs.length → RepL K κ ι F xs vs →
    ∃ ws, mergeK (ks.zip vs) qs = (mergeD (ks, xs) ps).1.zip ws ∧ (mergeD (ks, xs) ps).1.length = ws.length ∧ RepL K κ ι F (mergeD (ks, xs) ps).2 ws
  | [], _, ks, xs, vs, .nil, hl, r => ⟨vs, rfl, hl, r⟩
  | p :: ps, q :: qs, ks, xs, vs, .cons h t, hl, r => by
    obtain ⟨ws, h1, h2, h3⟩ := put_rep (k := p.1) hl r h.2
    have e : mergeK (ks.zip vs) (q :: qs) = mergeK (putK (ks.zip vs) q.1 q.2) qs := rfl
    rw [e, ← h.1, h1]
    exact merge_rep t h2 h3
theorem pairs_rep : ∀ {ds : List D} {vs : List V} {ps : List (Key × D)}, RepL K κ ι F ds vs → pairsD ds = some ps → ∃ (as : List Addr) (qs : List (Key × V)), vs = as.map V.ref ∧ Paired (fun p kv => SqT K F p [kV kv.1, kv.2]) as qs ∧ Paired (fun (p : Key × D) (q : Key × V) => p.1 = q.1 ∧ Rep K κ ι F p.2 q.2) ps qs
  | [], _, _, r, h => by
    cases r
    simp only [pairsD] at h
    cases h
    exact ⟨[], [], rfl, .nil, .nil⟩
  | d :: ds, _, _, r, h => by
    cases r with
    | cons ra rb =>
      simp only [pairsD] at h
      split at h
      · rename_i a b ps h1 h2
        split at h
        · rename_i k hk
          cases h
          obtain ⟨as, qs, rfl, p1, p2⟩ := pairs_rep rb h2
          obtain ⟨p, vs, rfl, hq, rr⟩ := tupF_at ra h1
          cases rr with
          | cons r1 r2 => cases r2 with
            | @cons _ v2 _ _ r2 r3 =>
              cases r3
              have := keyD_rep r1 hk
              subst this
              exact ⟨p :: as, (k, v2) :: qs, rfl, .cons hq p1, .cons ⟨rfl, r2⟩ p2⟩
        · cases h
      · cases h
theorem le_dnew : LE K κ E tDNewK fDNew := fun σ δ H M ι F Q hs hh p => fun q hq => by
  obtain ⟨e2, h2, h3⟩ := hh.new (o := .dct [] []) (ho := .dK []) hq (RepO.dct (ks := []) (vs := []) rfl .nil)
  exact p _ _ _ _ e2 h2 (.ref h3)
theorem dgetK {d y : D} {v w : V} {ks : List Key} {xs : List D} {k : Key} (hh : RelH K κ ι F H M) (rd : Rep K κ ι F d v) (ry : Rep K κ ι F y w) (h1 : dctOf d M = some (ks, xs)) (h2 : keyD y = some k) :
    ∃ a, v = .ref a ∧ IsD H a ∧ ((valD ks xs k = none ∧ DGet H a w none) ∨ ∃ x u, valD ks xs k = some x ∧ DGet H a w (some u) ∧ Rep K κ ι F x u) := by
  obtain ⟨a, vs, rfl, hd, hl, r⟩ := dct_at hh rd h1
  have hw := keyD_rep ry h2
  subst hw
  refine ⟨a, rfl, .inl ⟨_, hd⟩, ?_⟩
  have g : DGet H a (kV k) (valV (ks.zip vs) k) := .inl ⟨_, k, hd, rfl, rfl⟩
  rcases val_rep hl r k with ⟨e1, e2⟩ | ⟨x, u, e1, e2, ru⟩
  · rw [e2] at g
    exact .inl ⟨e1, g⟩
  · rw [e2] at g
    exact .inr ⟨x, u, e1, g, ru⟩
theorem le_dget {td ty : TE} {fd fy : FE} (h1 : LE K κ E td fd) (h2 : LE K κ E ty fy) : LE K κ E (tDGet td ty) (fDGet fd fy) := fun σ δ H M ι F Q hs hh p => by
  refine h1 σ δ H M ι F _ hs hh ((Post.bind (R := Rep K κ) p).mono Ext.refl ?_)
  rintro v H1 ⟨d, M1, ι1, F1, e1, hh1, r1, p1⟩
  refine h2 σ δ H1 M1 ι1 F1 _ (hs.ext e1) hh1 ((Post.bind (R := Rep K κ) p1).mono Ext.refl ?_)
  rintro w H2 ⟨d2, M2, ι2, F2, e2, hh2, r2, p2⟩
  unfold gDGet at p2
  split at p2
  · rename_i hd hk
    obtain ⟨a, rfl, _, q⟩ := dgetK hh2 (r1.ext e2) r2 hd hk
    split at p2
    · rename_i x hx
      rcases q with ⟨q, _⟩ | ⟨x2, u, q1, q2, q3⟩
      · rw [hx] at q; cases q
      · rw [hx] at q1
        cases q1
        exact ⟨a, u, rfl, q2, p2.here hh2 q3⟩
    · exact p2.elim
  · exact p2.elim
theorem le_dget2 {td ty tx : TE} {fd fy fx : FE} (h1 : LE K κ E td fd) (h2 : LE K κ E ty fy) (h3 : LE K κ E tx fx) : LE K κ E (tDGet2 td ty tx) (fDGet2 fd fy fx) := fun σ δ H M ι F Q hs hh p => by
  refine h1 σ δ H M ι F _ hs hh ((Post.bind (R := Rep K κ) p).mono Ext.refl ?_)
  rintro v H1 ⟨d, M1, ι1, F1, e1, hh1, r1, p1⟩
  split at p1
  · rename_i hd0
    have s1 := hs.ext e1
    obtain ⟨⟨ks0, xs0⟩, hd0⟩ := Option.isSome_iff_exists.mp hd0
    obtain ⟨a, vs0, ea, hq0, _, _⟩ := dct_at hh1 r1 hd0
    refine ⟨a, ea, .inl ⟨_, hq0⟩, ?_⟩
    refine h2 σ δ H1 M1 ι1 F1 _ s1 hh1 ((Post.bind (R := Rep K κ) p1).mono Ext.refl ?_)
    rintro w H2 ⟨d2, M2, ι2, F2, e2, hh2, r2, p2⟩
    refine h3 σ δ H2 M2 ι2 F2 _ (s1.ext e2) hh2 ((Post.bind (R := Rep K κ) p2).mono Ext.refl ?_)
    rintro z H3 ⟨d3, M3, ι3, F3, e3, hh3, r3, p3⟩
    split at p3
    · rename_i hd hk
      obtain ⟨b, eb, _, q⟩ := dgetK hh3 ((r1.ext e2).ext e3) (r2.ext e3) hd hk
      have hab : a = b := by rw [ea] at eb; exact V.ref.inj eb
      subst hab
      rcases q with ⟨q, g⟩ | ⟨x2, u, q1, q2, q3⟩
      · rw [q] at p3
        exact ⟨none, g, p3.here hh3 r3⟩
      · rw [q1] at p3
        exact ⟨some u, q2, p3.here hh3 q3⟩
    · exact p3.elim
  · exact p1.elim
theorem ls_dput {td ty tv : TE} {fd fy fv : FE} (h1 : LE K κ E td fd) (h2 : LE K κ E ty fy) (h3 : LE K κ E tv fv) : LS K κ E (sDPut td ty tv) (fDPut fd fy fv) := fun σ δ H M ι F T hs hh p => by
  refine h3 σ δ H M ι F _ hs hh ((SPost.thenS (R := Rep K κ) hs p).mono Ext.refl ?_)
  rintro v H1 ⟨x, M1, ι1, F1, e1, hh1, r1, p1⟩
  have s1 := hs.ext e1
  refine h1 σ δ H1 M1 ι1 F1 _ s1 hh1 ((SPost.thenS (R := Rep K κ) s1 p1).mono Ext.refl ?_)
  rintro a H2 ⟨d, M2, ι2, F2, e2, hh2, r2, p2⟩
  have s2 := s1.ext e2
  refine h2 σ δ H2 M2 ι2 F2 _ s2 hh2 ((SPost.thenS (R := Rep K κ) s2 p2).mono Ext.refl ?_)
  rintro w H3 ⟨y, M3, ι3, F3, e3, hh3, r3, p3⟩
  split at p3
  · rename_i i k hk
    split at p3
    · rename_i ks xs hM
      split at p3
      · rename_i hlen
        obtain ⟨b, u, rfl, hb, hu, ru⟩ := relH_ref hh3 (r2.ext e3) hM
        have hw := keyD_rep r3 hk
        subst hw
        cases ru with
        | @dct _ _ vs hl ru =>
          obtain ⟨ws, q1, q2, q3⟩ := put_rep (k := k) hl ru ((r1.ext e2).ext e3)
          obtain ⟨e4, hh4⟩ := hh3.put (o := .dct (putD ks xs k x).1 (putD ks xs k x).2) (ho := .dK ((putD ks xs k x).1.zip ws)) hb hM rfl (.dct q2 q3)
          refine ⟨b, _, rfl, .inl ⟨_, k, hu, rfl, by rw [List.length_zip, hl, Nat.min_self, ← hl]; exact hlen, rfl⟩, ?_⟩
          rw [q1]
          exact p3 σ _ ι3 F3 e4 hh4 ((s2.ext e3).ext e4)
      · exact p3.elim
    · exact p3.elim
  · exact p3.elim
def rDictG (K : PySem.W.Frag) : List V → Hp → VK → Prop := fun xs H Q => (∃ (a : Addr) (ps : List Addr) (kvs : List (Key × V)), xs = [.ref a] ∧ PlainT K H a (ps.map V.ref) ∧
    Paired (fun p kv => SqT K H p [kV kv.1, kv.2]) ps kvs ∧ ∀ p, H p = none → Q (.ref p) (upd H p (.dK (mergeK [] kvs)))) ∨ ∃ (a : Addr) (kvs : List (Key × V)), xs = [.ref a] ∧ Rd H a (.dK kvs) ∧ ∀ p, H p = none → Q (.ref p) (upd H p (.dK kvs))
theorem call_dictG {X : Cx} (hc : X.calm = true) : CallR X (.type "dict") (rDictG X.K) := by
  intro pins s σ H xs us Q I r h
  rcases h with h | h
  · exact call_dictF hc pins s σ H xs us Q I r h
  · exact call_dictD pins s σ H xs us Q I r h
theorem paired_mono {α β : Type} {R S : α → β → Prop} (h : ∀ a b, R a b → S a b) : ∀ {as : List α} {bs : List β}, Paired R as bs → Paired S as bs
  | _, _, .nil => .nil
  | _, _, .cons a b => .cons (h _ _ a) (paired_mono h b)
theorem PlainT.monoP {a : Addr} {vs : List V} (h : PlainT K F a vs) (s : Le F H) : PlainT K H a vs := by
  rcases h with ⟨o, h⟩ | h
  · exact .inl ⟨o, s.ex h.1 (fun z => z), h.2⟩
  · exact .inr h
theorem dictK : LRN K κ (rDictG K) gDict := fun H M ι F xs vs Q e hh r p => by
  unfold gDict at p
  split at p
  · rename_i ds
    split at p
    · rename_i ps hps
      cases r with
      | cons a b =>
        cases b
        cases a with
        | @tup _ ad vs hp rr =>
          obtain ⟨as, qs, rfl, p1, p2⟩ := pairs_rep rr hps
          obtain ⟨ws, m1, m2, m3⟩ := merge_rep (ks := []) (vs := []) p2 rfl .nil
          refine .inl ⟨ad, as, qs, rfl, hp.monoP hh.le, paired_mono (fun _ _ h => h.monoL hh.le) p1, fun q hq => ?_⟩
          have : mergeK [] qs = (mergeD ([], []) ps).1.zip ws := m1
          rw [this]
          obtain ⟨e2, h2, h3⟩ := hh.new hq (.dct m2 m3)
          exact p _ _ _ _ e2 h2 (.ref h3)
    · exact p.elim
  · cases r with
    | cons a b =>
      cases b
      split at p
      · rename_i hx
        obtain ⟨q, ws, rfl, h1, h2, h3⟩ := dct_at hh a hx
        refine .inr ⟨q, _, rfl, h1, fun l hl => ?_⟩
        obtain ⟨e2, hh2, h5⟩ := hh.new hl (.dct h2 h3)
        exact p _ _ _ _ e2 hh2 (.ref h5)
      · exact p.elim
  · exact p.elim
end
end G
namespace G
open PySem PySem.Spec PyProof.Rows L2
/-! ### objects -/
def objOf (c : String) (d : D) (M : AH) : Option (List String × List D) := match d with
  | .obj c' ns xs => if c' = c then some (ns, xs) else none
  | .ref i => (match M[i]? with | some (.obj c' ns xs) => if c' = c then some (ns, xs) else none | _ => none)
  | _ => none
def look (f : String) : List String → List D → Option D
  | n :: ns, x :: xs => if n = f then some x else look f ns xs
  | _, _ => none
def putN (f : String) (d : D) : List String → List D → List String × List D
  | n :: ns, x :: xs => if n = f then (n :: ns, d :: xs) else (n :: (putN f d ns xs).1, x :: (putN f d ns xs).2)
  | _, _ => ([f], [d])
def fFld (c f : String) (o : FE) : FE := fun δ M => (o δ M).bind fun d M1 => match objOf c d M1 with
  | some (ns, xs) => (match look f ns xs with | some x => .ok x M1 | none => .stuck)
  | none => .stuck
def fsFld (c f : String) (o v : FE) : FS := fun δ M => (v δ M).thenS δ fun y M1 => (o δ M1).thenS δ fun d M2 => match d with
  | .ref i => (match M2[i]? with
    | some (.obj c' ns xs) => if c' = c ∧ ns.length = xs.length ∧ ns.length < 1000 then .nx δ (M2.set i (.obj c (putN f y ns xs).1 (putN f y ns xs).2)) else .stuck
    | _ => .stuck)
  | _ => .stuck
def fMeth (c m : String) (f : FD) (o : FE) (a : FA) : FE := fun δ M => (o δ M).bind fun x M1 => match objOf c x M1 with
  | some (ns, _) => if m ∈ ns then .stuck else (a δ M1).bind fun xs M2 => f (x :: xs) M2
  | none => .stuck
def fProp (c : String) (f : FD) (o : FE) : FE := fun δ M => (o δ M).bind fun x M1 => match objOf c x M1 with
  | some _ => f [x] M1
  | none => .stuck
/-- an object is made, and never changes again -/
def mkFin (n : Nat) (M1 : AH) (r : Res D) : Res D := match r with
  | .ok .non M2 => fin M1 (.ok (.ref n) M2)
  | .ok _ _ => .stuck
  | r => fin M1 r
def fMk (c : String) (f : FD) (ds : List D) (a : FA) : FE := fun δ M => (a δ M).bind fun xs M1 => mkFin M1.length M1 (f (.ref M1.length :: (xs ++ ds)) (M1 ++ [.obj c [] []]))
/-- an object is made -/
def fMkM (c : String) (f : FD) (ds : List D) (a : FA) : FE := fun δ M => (a δ M).bind fun xs M1 => match f (.ref M1.length :: (xs ++ ds)) (M1 ++ [.obj c [] []]) with
  | .ok .non M2 => .ok (.ref M1.length) M2
  | .ok _ _ => .stuck
  | r => r
def fCMeth (c : String) (f : FD) (o : FE) (a : FA) : FE := fun δ M => (o δ M).bind fun x M1 => match x with
  | .cls c' => if c' = c then (a δ M1).bind fun xs M2 => f (.cls c :: xs) M2 else .stuck
  | _ => .stuck
def fStar (n : Nat) (f : FD) : FD := fun ds M => if n ≤ ds.length ∧ ds.length ≤ sizeLine then f (ds.take n ++ [.tuq (ds.drop n)]) M else .stuck
def gOwn (c : String) (f : FD) : D → D → AH → Res D := fun x y M => match objOf c x M, objOf c y M with
  | some _, some _ => f [x, y] M
  | _, _ => .stuck
def gOwnI (c : String) (f : FD) : D → D → AH → Res D := fun x y M => match objOf c x M, y with
  | some _, .int i => f [x, .int i] M
  | _, _ => .stuck
def gOwnNe (c : String) (f : FD) : D → D → AH → Res D := fun x y M => match objOf c x M, objOf c y M with
  | some _, some _ => (f [x, y] M).bind fun d M1 => match d with | .bl b => .ok (.bl (!b)) M1 | _ => .stuck
  | _, _ => .stuck
def lenChk (n : Int) (M : AH) : Res D := if 0 ≤ n ∧ n.toNat < 2 ^ 63 then .ok (.int n) M else .stuck
theorem lenChk_ok {n : Nat} {M : AH} (h1 : n < 2 ^ 63) : lenChk (n : Int) M = .ok (.int n) M := if_pos ⟨Int.natCast_nonneg _, by simpa using h1⟩
def gLenOwn (c : String) (f : FD) : List D → AH → Res D := fun xs M => match xs with
  | [x] => (match objOf c x M with
    | some _ => (f [x] M).bind fun d M1 => match d with | .int n => lenChk n M1 | _ => .stuck
    | none => .stuck)
  | _ => .stuck
def gIsiX (cs : List String) : List D → AH → Res D := fun xs M => match xs with
  | [x, .cls c] => (match objOf c x M with
    | some _ => if c ∈ cs then .ok (.bl true) M else .stuck
    | none => .stuck)
  | xs => gIsi xs M
theorem ofS_inj {a b : String} (h : Str.ofString a = Str.ofString b) : a = b := by
  have h2 : tl (Str.ofString a) = tl (Str.ofString b) := congrArg tl h
  rw [show tl (Str.ofString a) = TL.tl (Str.ofString a) from rfl, show tl (Str.ofString b) = TL.tl (Str.ofString b) from rfl, TL.tl_ofString, TL.tl_ofString] at h2
  have h3 : a.toList = b.toList := by
    have inj : ∀ {x y : List Char}, x.map Char.toNat = y.map Char.toNat → x = y := by
      intro x y h
      induction x generalizing y with
      | nil => cases y with
        | nil => rfl
        | cons _ _ => cases h
      | cons c x ih =>
        cases y with
        | nil => cases h
        | cons d y =>
          simp only [List.map_cons, List.cons.injEq] at h
          rw [Char.toNat_inj.mp h.1, ih h.2]
    exact inj h2
  exact String.toList_inj.mp h3
section
variable {K : PySem.W.Frag} {κ : Kap} {E : EK} {ι ι' : List Addr} {F F' H H' : Hp} {M M' : AH} {c f m : String}
abbrev zipN (ns : List String) (vs : List V) : List (Str × V) := (ns.map Str.ofString).zip vs
theorem obj_at (hh : RelH K κ ι F H M) {d : D} {v : V} {ns : List String} {xs : List D} (r : Rep K κ ι F d v) (e : objOf c d M = some (ns, xs)) : ∃ a dx vs, v = .ref a ∧ H a = some (.ins (κ c) dx (zipN ns vs)) ∧ ns.length = vs.length ∧ RepL K κ ι F xs vs := by
  unfold objOf at e
  split at e
  · split at e
    · rename_i hc
      subst hc
      cases e
      cases r with
      | obj h l r => exact ⟨_, _, _, rfl, hh.le.ex h fun z => z, l, r⟩
    · cases e
  · split at e
    · rename_i q
      split at e
      · rename_i hc
        subst hc
        cases e
        obtain ⟨a, u, rfl, h1, h2, h3⟩ := relH_ref hh r q
        cases h3 with
        | obj l h3 => exact ⟨a, _, _, rfl, h2, l, h3⟩
      · cases e
    · cases e
  · cases e
theorem look_rep {ns : List String} {xs : List D} {vs : List V} (r : RepL K κ ι F xs vs) {d : D} (h : look f ns xs = some d) : ∃ v, (zipN ns vs).lookup (Str.ofString f) = some v ∧ Rep K κ ι F d v := by
  induction ns generalizing xs vs with
  | nil => simp [look] at h
  | cons n ns ih =>
    cases r with
    | nil => simp [look] at h
    | @cons x v xs vs a b =>
      simp only [look] at h
      by_cases hn : n = f
      · subst hn
        rw [if_pos rfl] at h
        cases h
        exact ⟨v, by simp [zipN, List.lookup], a⟩
      · rw [if_neg hn] at h
        obtain ⟨w, h1, h2⟩ := ih b h
        refine ⟨w, ?_, h2⟩
        have : (Str.ofString f == Str.ofString n) = false := beq_eq_false_iff_ne.mpr fun z => hn (ofS_inj z).symm
        simp only [zipN, List.map_cons, List.zip_cons_cons, List.lookup, this]
        exact h1
theorem nolook {ns : List String} {vs : List V} (h : m ∉ ns) : (zipN ns vs).lookup (Str.ofString m) = none := by
  induction ns generalizing vs with
  | nil => rfl
  | cons n ns ih =>
    cases vs with
    | nil => rfl
    | cons v vs =>
      have : (Str.ofString m == Str.ofString n) = false := beq_eq_false_iff_ne.mpr fun z => h (by rw [ofS_inj z]; exact List.mem_cons_self ..)
      simp only [zipN, List.map_cons, List.zip_cons_cons, List.lookup, this]
      exact ih fun z => h (List.mem_cons_of_mem _ z)
theorem putN_rep {ns : List String} {xs : List D} {vs : List V} {d : D} {v : V} (hl : ns.length = vs.length) (r : RepL K κ ι F xs vs) (rd : Rep K κ ι F d v) :
    ∃ ws, putF (Str.ofString f) v (zipN ns vs) = zipN (putN f d ns xs).1 ws ∧ (putN f d ns xs).1.length = ws.length ∧ RepL K κ ι F (putN f d ns xs).2 ws := by
  induction ns generalizing xs vs with
  | nil =>
    cases vs with
    | cons _ _ => cases hl
    | nil => cases r; exact ⟨[v], rfl, rfl, .cons rd .nil⟩
  | cons n ns ih =>
    cases r with
    | nil => cases hl
    | @cons x w xs vs a b =>
      by_cases hn : n = f
      · subst hn
        refine ⟨v :: vs, ?_, ?_, ?_⟩
        · simp [zipN, putF, putN]
        · simpa [putN] using hl
        · simp only [putN, if_pos]; exact .cons rd b
      · obtain ⟨ws, h1, h2, h3⟩ := ih (by simpa using hl) b
        refine ⟨w :: ws, ?_, ?_, ?_⟩
        · have hne : ¬ Str.ofString n = Str.ofString f := fun z => hn (ofS_inj z)
          simp only [zipN, List.map_cons, List.zip_cons_cons, putF, if_neg hne, putN, if_neg hn]
          exact congrArg _ h1
        · simp only [putN, if_neg hn, List.length_cons, h2]
        · simp only [putN, if_neg hn]; exact .cons a h3
theorem le_fld {t : TE} {fe : FE} (cl : Cls K (κ c)) (na : NoAttr K (κ c) (Str.ofString f)) (h : LE K κ E t fe) : LE K κ E (tFld K t (Str.ofString f)) (fFld c f fe) := fun σ δ H M ι F Q hs hh p => by
  refine h σ δ H M ι F _ hs hh ((Post.bind (R := Rep K κ) p).mono Ext.refl ?_)
  rintro v H1 ⟨d, M1, ι1, F1, e1, hh1, r1, p1⟩
  split at p1
  · rename_i ns xs ho
    split at p1
    · rename_i x hx
      obtain ⟨a, dx, vs, rfl, h1, h2, h3⟩ := obj_at hh1 r1 ho
      obtain ⟨w, h4, h5⟩ := look_rep h3 hx
      exact ⟨a, _, dx, _, w, rfl, h1, cl, na, h4, p1.here hh1 h5⟩
    · exact p1.elim
  · exact p1.elim
theorem ls_fld {to tv : TE} {fo fv : FE} (cl : Cls K (κ c)) (na : NoAttr K (κ c) (Str.ofString f)) (h : LE K κ E to fo) (h' : LE K κ E tv fv) : LS K κ E (sFld K to tv (Str.ofString f)) (fsFld c f fo fv) := fun σ δ H M ι F T hs hh p => by
  refine h' σ δ H M ι F _ hs hh ((SPost.thenS (R := Rep K κ) hs p).mono Ext.refl ?_)
  rintro v H1 ⟨y, M1, ι1, F1, e1, hh1, r1, p1⟩
  have s1 := hs.ext e1
  refine h σ δ H1 M1 ι1 F1 _ s1 hh1 ((SPost.thenS (R := Rep K κ) s1 p1).mono Ext.refl ?_)
  rintro w H2 ⟨d, M2, ι2, F2, e2, hh2, r2, p2⟩
  split at p2
  · split at p2
    · rename_i c' ns xs hM
      split at p2
      · rename_i hc
        obtain ⟨rfl, hl, hlt⟩ := hc
        obtain ⟨a, u, rfl, ha, hu, ru⟩ := relH_ref hh2 r2 hM
        cases ru with
        | @obj _ _ _ dx vs l ru =>
          obtain ⟨ws, q1, q2, q3⟩ := putN_rep (f := f) l ru (r1.ext e2)
          obtain ⟨e3, hh3⟩ := hh2.put (o := .obj c' (putN f y ns xs).1 (putN f y ns xs).2) (ho := .ins (κ c') dx (zipN (putN f y ns xs).1 ws)) ha hM rfl (.obj q2 q3)
          refine ⟨a, _, dx, _, rfl, hu, cl, na, ?_, ?_⟩
          · rw [List.length_zip, List.length_map, l, Nat.min_self, ← l]; exact hlt
          · rw [q1]
            exact p2 σ _ ι2 F2 e3 hh3 ((s1.ext e2).ext e3)
      · exact p2.elim
    · exact p2.elim
  · exact p2.elim
theorem le_meth {E1 : XK} {g : FD} {to : TE} {ta : TA} {fo : FE} {fa : FA} (h : LE K κ (EK.of E1) to fo) (h' : LA K κ (EK.of E1) ta fa) : LE K κ (EK.of E1) (tMeth (κ c) (Str.ofString m) (conc K κ g) [] E1 to ta) (fMeth c m g fo fa) := fun σ δ H M ι F Q hs hh p => by
  rw [w_Meth]
  refine h σ δ H M ι F _ hs hh ((Post.bind (R := Rep K κ) p).mono Ext.refl ?_)
  rintro v H1 ⟨d, M1, ι1, F1, e1, hh1, r1, p1⟩
  split at p1
  · rename_i ns xs ho
    split at p1
    · exact p1.elim
    · rename_i hm
      obtain ⟨a, dx, vs, ev, h1, h2, h3⟩ := obj_at hh1 r1 ho
      refine ⟨a, dx, _, ev, h1, nolook hm, ?_⟩
      refine h' σ δ H1 M1 ι1 F1 _ (hs.ext e1) hh1 ((Post.bind (R := RepL K κ) p1).mono Ext.refl ?_)
      rintro ws H2 ⟨ds, M2, ι2, F2, e2, hh2, r2, p2⟩
      exact ⟨d :: ds, M2, ι2, F2, hh2, .cons (r1.ext e2) r2, p2⟩
  · exact p1.elim
theorem le_prop {E1 : XK} {g : FD} {to : TE} {fo : FE} (h : LE K κ (EK.of E1) to fo) : LE K κ (EK.of E1) (tProp (κ c) (conc K κ g) [] E1 to) (fProp c g fo) := fun σ δ H M ι F Q hs hh p => by
  rw [w_Prop]
  refine h σ δ H M ι F _ hs hh ((Post.bind (R := Rep K κ) p).mono Ext.refl ?_)
  rintro v H1 ⟨d, M1, ι1, F1, e1, hh1, r1, p1⟩
  split at p1
  · rename_i q ho
    obtain ⟨ns, xs⟩ := q
    obtain ⟨a, dx, vs, rfl, h1, h2, h3⟩ := obj_at hh1 r1 ho
    exact ⟨a, dx, _, rfl, h1, [d], M1, ι1, F1, hh1, .cons r1 .nil, p1⟩
  · exact p1.elim
/-- a new object stands -/
theorem new_obj (hh : RelH K κ ι F H M) {x dx : Addr} (hx : H x = none) (hd : H dx = none) (hne : dx ≠ x) :
    Ext ι F H (ι ++ [x]) F (upd (upd H dx (.own x)) x (.ins (κ c) dx [])) ∧ RelH K κ (ι ++ [x]) F (upd (upd H dx (.own x)) x (.ins (κ c) dx [])) (M ++ [.obj c [] []]) ∧ (ι ++ [x])[M.length]? = some x := by
  have h1 : RelH K κ ι F (upd H dx (.own x)) M := hh.beside (hh.notin hd) (hh.freeF hd) (.inl hd)
  have e1 : Ext ι F H ι F (upd H dx (.own x)) := Ext.refl.beside hd
  have hx1 : upd H dx (.own x) x = none := by rw [upd_ne (Ne.symm hne)]; exact hx
  obtain ⟨e2, h2, h3⟩ := h1.new (o := .obj c [] []) (ho := .ins (κ c) dx []) hx1 (RepO.obj (ns := []) (vs := []) rfl .nil)
  exact ⟨e1.trans e2, h2, h3⟩
theorem le_mkM {E1 : XK} {g : FD} {ds : List D} {dvs : List V} {ta : TA} {fa : FA} (hd : ∀ ι F, RepL K κ ι F ds dvs) (h : LA K κ (EK.of E1) ta fa) : LE K κ (EK.of E1) (tMake (κ c) (conc K κ g) dvs E1 ta) (fMkM c g ds fa) := fun σ δ H M ι F Q hs hh p => by
  rw [w_Make]
  refine h σ δ H M ι F _ hs hh ((Post.bind (R := RepL K κ) p).mono Ext.refl ?_)
  rintro ws H1 ⟨xs, M1, ι1, F1, e1, hh1, r1, p1⟩
  intro x dx hx hdx hne
  obtain ⟨e2, h2, h3⟩ := new_obj (c := c) hh1 hx hdx hne
  refine ⟨.ref M1.length :: (xs ++ ds), M1 ++ [.obj c [] []], ι1 ++ [x], F1, h2, .cons (.ref h3) ((r1.ext e2).append (hd _ _)), ?_⟩
  revert p1
  generalize g (.ref M1.length :: (xs ++ ds)) (M1 ++ [.obj c [] []]) = r
  intro p1
  cases r with
  | ok d M2 =>
    cases d with
    | non =>
      intro v H' ι' F' e3 hh3 r3
      cases r3
      exact ⟨rfl, p1 _ H' ι' F' (e2.trans e3) hh3 (.ref (pre_get e3.pre h3))⟩
    | _ => exact p1.elim
  | exc cc q M2 => cases q with
    | none => exact fun H' ι' F' e3 h => p1 H' ι' F' (e2.trans e3) h
    | some q => exact fun e H' ι' F' vs ne e3 h => p1 e H' ι' F' vs (e2.dom _ ne) (e2.trans e3) h
  | stuck => exact p1.elim
theorem le_mk {E1 : XK} {g : FD} {ds : List D} {dvs : List V} {ta : TA} {fa : FA} (hd : ∀ ι F, RepL K κ ι F ds dvs) (h : LA K κ (EK.of E1) ta fa) : LE K κ (EK.of E1) (tMake (κ c) (conc K κ g) dvs E1 ta) (fMk c g ds fa) := fun σ δ H M ι F Q hs hh p => by
  rw [w_Make]
  refine h σ δ H M ι F _ hs hh ((Post.bind (R := RepL K κ) p).mono Ext.refl ?_)
  rintro ws H1 ⟨xs, M1, ι1, F1, e1, hh1, r1, p1⟩
  intro x dx hx hdx hne
  obtain ⟨e2, h2, h3⟩ := new_obj (c := c) hh1 hx hdx hne
  refine ⟨.ref M1.length :: (xs ++ ds), M1 ++ [.obj c [] []], ι1 ++ [x], F1, h2, .cons (.ref h3) ((r1.ext e2).append (hd _ _)), ?_⟩
  revert p1
  generalize g (.ref M1.length :: (xs ++ ds)) (M1 ++ [.obj c [] []]) = r
  intro p1
  unfold mkFin at p1
  cases r with
  | ok d M2 =>
    cases d with
    | non =>
      have p2 := fin_post hh1 p1
      intro v H' ι' F' e3 hh3 r3
      cases r3
      exact ⟨rfl, p2 _ H' ι' F' (e2.trans e3) hh3 (.ref (pre_get e3.pre h3))⟩
    | _ => exact p1.elim
  | exc cc q M2 =>
    have p2 := fin_post hh1 p1
    cases q with
    | none => exact fun H' ι' F' e3 h => p2 H' ι' F' (e2.trans e3) h
    | some q => exact fun e H' ι' F' vs ne e3 h => p2 e H' ι' F' vs (e2.dom _ ne) (e2.trans e3) h
  | stuck => exact p1.elim
theorem le_cmeth {E1 : XK} {g : FD} {to : TE} {ta : TA} {fo : FE} {fa : FA} (h : LE K κ (EK.of E1) to fo) (h' : LA K κ (EK.of E1) ta fa) : LE K κ (EK.of E1) (ClX.tCMeth (κ c) (conc K κ g) E1 to ta) (fCMeth c g fo fa) := fun σ δ H M ι F Q hs hh p => by
  refine h σ δ H M ι F _ hs hh ((Post.bind (R := Rep K κ) p).mono Ext.refl ?_)
  rintro v H1 ⟨d, M1, ι1, F1, e1, hh1, r1, p1⟩
  split at p1
  · split at p1
    · rename_i hc
      subst hc
      cases r1
      refine ⟨rfl, ?_⟩
      refine h' σ δ H1 M1 ι1 F1 _ (hs.ext e1) hh1 ((Post.bind (R := RepL K κ) p1).mono Ext.refl ?_)
      rintro ws H2 ⟨ds, M2, ι2, F2, e2, hh2, r2, p2⟩
      exact ⟨_, M2, ι2, F2, hh2, .cons (.cls _) r2, p2⟩
    · exact p1.elim
  · exact p1.elim
/-- what is left over of the arguments is a tuple -/
theorem star_conc {n : Nat} {g : FD} {vs : List V} {H : Hp} {Q : VK} {e : XK} (h : conc K κ (fStar n g) vs H Q e) : ∃ ws rest, vs = ws ++ rest ∧ ws.length = n ∧ rest.length ≤ sizeLine ∧ ∀ p, H p = none → conc K κ g (ws ++ [V.ref p]) (upd H p (.tup rest)) Q e := by
  obtain ⟨ds, M, ι, F, hh, r, p⟩ := h
  unfold fStar at p
  split at p
  · rename_i hn
    have hl := r.len
    refine ⟨vs.take n, vs.drop n, (List.take_append_drop ..).symm, by rw [List.length_take]; omega, by rw [List.length_drop]; omega, fun q hq => ?_⟩
    obtain ⟨e2, h2⟩ := hh.newF hq (.tup (vs.drop n))
    exact ⟨ds.take n ++ [.tuq (ds.drop n)], M, ι, _, h2, ((r.takeN n).ext e2).append (.cons (.tuq (.inl (.inl upd_same)) ((r.drop n).ext e2)) .nil), p.mono e2 fun _ _ x => x⟩
  · exact p.elim
/-- operators with a wish for what is raised -/
def LR2X (K : PySem.W.Frag) (κ : Kap) (e : XK) (r : R2) (g : D → D → AH → Res D) : Prop := ∀ H M ι F x y v w Q, RelH K κ ι F H M → Rep K κ ι F x v → Rep K κ ι F y w → Post K κ (Rep K κ) ι F H (g x y M) Q e → r v w H Q
theorem le_opX {E1 : XK} {r : R2} {g : D → D → AH → Res D} {ta tb : TE} {fa fb : FE} (hr : LR2X K κ E1 r g) (ha : LE K κ (EK.of E1) ta fa) (hb : LE K κ (EK.of E1) tb fb) : LE K κ (EK.of E1) (tOp r ta tb) (fOp g fa fb) := fun σ δ H M ι F Q hs hh p => by
  refine ha σ δ H M ι F _ hs hh ((Post.bind (R := Rep K κ) p).mono Ext.refl ?_)
  rintro v H1 ⟨d, M1, ι1, F1, e1, h1, r1, p1⟩
  refine hb σ δ H1 M1 ι1 F1 _ (hs.ext e1) h1 ((Post.bind (R := Rep K κ) p1).mono Ext.refl ?_)
  rintro w H2 ⟨d2, M2, ι2, F2, e2, h2, r2, p2⟩
  exact hr H2 M2 ι2 F2 d d2 v w Q h2 (r1.ext e2) r2 p2
theorem ownK {g : FD} {e : XK} : LR2X K κ e (rOwn (κ c) (conc K κ g) e) (gOwn c g) := fun H M ι F x y v w Q hh rx ry p => by
  unfold gOwn at p
  split at p
  · rename_i q1 q2 h1 h2
    obtain ⟨ns, xs⟩ := q1
    obtain ⟨ns2, xs2⟩ := q2
    obtain ⟨a, dx, vs, rfl, k1, _, _⟩ := obj_at hh rx h1
    obtain ⟨b, dy, ws, rfl, k2, _, _⟩ := obj_at hh ry h2
    exact ⟨a, b, dx, dy, _, _, rfl, rfl, k1, k2, [x, y], M, ι, F, hh, .cons rx (.cons ry .nil), p⟩
  · exact p.elim
theorem ownIK {g : FD} {e : XK} : LR2X K κ e (rOwnI (κ c) (conc K κ g) e) (gOwnI c g) := fun H M ι F x y v w Q hh rx ry p => by
  unfold gOwnI at p
  split at p
  · rename_i q1 i h1
    obtain ⟨ns, xs⟩ := q1
    obtain ⟨a, dx, vs, rfl, k1, _, _⟩ := obj_at hh rx h1
    cases ry
    exact ⟨a, dx, _, i, rfl, rfl, k1, [x, .int i], M, ι, F, hh, .cons rx (.cons (.int i) .nil), p⟩
  · exact p.elim
theorem ownNeK {g : FD} {e : XK} : LR2X K κ e (rOwnNe (κ c) (conc K κ g) e) (gOwnNe c g) := fun H M ι F x y v w Q hh rx ry p => by
  unfold gOwnNe at p
  split at p
  · rename_i q1 q2 h1 h2
    obtain ⟨ns, xs⟩ := q1
    obtain ⟨ns2, xs2⟩ := q2
    obtain ⟨a, dx, vs, rfl, k1, _, _⟩ := obj_at hh rx h1
    obtain ⟨b, dy, ws, rfl, k2, _, _⟩ := obj_at hh ry h2
    refine ⟨a, b, dx, dy, _, _, rfl, rfl, k1, k2, [x, y], M, ι, F, hh, .cons rx (.cons ry .nil), ?_⟩
    refine (Post.bind (R := Rep K κ) p).mono Ext.refl ?_
    rintro u H1 ⟨d, M1, ι1, F1, e1, hh1, r1, p1⟩
    split at p1
    · cases r1
      exact ⟨_, rfl, p1.here hh1 (.bl _)⟩
    · exact p1.elim
  · exact p.elim
def LRNX (K : PySem.W.Frag) (κ : Kap) (e : XK) (r : List V → Hp → VK → Prop) (g : List D → AH → Res D) : Prop := ∀ H M ι F x v Q, RelH K κ ι F H M → RepL K κ ι F x v → Post K κ (Rep K κ) ι F H (g x M) Q e → r v H Q
theorem le_CBX {E1 : XK} {r : List V → Hp → VK → Prop} {g : List D → AH → Res D} {t : TA} {fa : FA} (hr : LRNX K κ E1 r g) (h : LA K κ (EK.of E1) t fa) : LE K κ (EK.of E1) (tCB r t) (fCB g fa) := fun σ δ H M ι F Q hs hh p => by
  refine h σ δ H M ι F _ hs hh ((Post.bind (R := RepL K κ) p).mono Ext.refl ?_)
  rintro vs H1 ⟨ds, M1, ι1, F1, e1, h1, r1, p1⟩
  exact hr H1 M1 ι1 F1 ds vs Q h1 r1 p1
theorem lenOwnK {g : FD} {e : XK} : LRNX K κ e (rLenOwn (κ c) (conc K κ g) e) (gLenOwn c g) := fun H M ι F xs vs Q hh r p => by
  unfold gLenOwn at p
  split at p
  · split at p
    · rename_i q1 h1
      obtain ⟨ns, ys⟩ := q1
      cases r with
      | cons ra rb =>
        cases rb
        obtain ⟨a, dx, ws, rfl, k1, _, _⟩ := obj_at hh ra h1
        refine ⟨a, dx, _, rfl, k1, [_], M, ι, F, hh, .cons ra .nil, ?_⟩
        refine (Post.bind (R := Rep K κ) p).mono Ext.refl ?_
        rintro u H1 ⟨d, M1, ι1, F1, e1, hh1, r1, p1⟩
        split at p1
        · unfold lenChk at p1
          split at p1
          · rename_i hn
            cases r1
            exact ⟨_, rfl, hn.1, by have := hn.1; have := hn.2; omega, p1.here hh1 (.int _)⟩
          · exact p1.elim
        · exact p1.elim
    · exact p.elim
  · exact p.elim
/-- what isinstance asks of a class of one's own -/
structure IsOk (K : PySem.W.Frag) (C : Addr) : Prop where
  cl : Cls K C
  ha : PySem.W.findIn K (.ref C) "__class__" = some (some (.builtin "object.__class__"))
  hn : PySem.W.specialIn K (.builtin "object.__class__") "__get__" = some (some (.builtin "getset_descriptor.__get__"))
  htk : PySem.W.takesIn K (.builtin "object.__class__") = some true
  hm : PySem.W.mroIn K C (.type "object") = some true
  self : PySem.W.kitOne K (.ref C) (.ref C) = some true
theorem isiXK {cs : List String} (h : ∀ c ∈ cs, IsOk K (κ c)) : LRN K κ (rIsiH K) (gIsiX cs) := fun H M ι F xs vs Q e hh r p => by
  unfold gIsiX at p
  split at p
  · rename_i x c
    split at p
    · rename_i q1 h1
      split at p
      · rename_i hc
        obtain ⟨ns, ys⟩ := q1
        have ok := h c hc
        cases r with
        | cons ra rb => cases rb with
          | cons rb rc =>
            cases rc; cases rb
            obtain ⟨a, dx, ws, rfl, k1, _, _⟩ := obj_at hh ra h1
            exact ⟨_, _, .base (.ins k1 ok.cl ok.ha ok.hn ok.htk ok.hm), ok.self, p.here hh (.bl _)⟩
      · exact p.elim
    · exact p.elim
  · exact isiK H M ι F xs vs Q e hh r p
end
end G
namespace G
open PySem PySem.Spec PyProof.Rows L2
/-! ### methods of built-in types, sorted, min, texts in braces; defs -/
def tyM (T : String) (d : D) (M : AH) : Bool := match d with
  | .str _ => T == "str"
  | .ref i => (match M[i]? with | some (.lst _) => T == "list" | some (.dct _ _) => T == "dict" | _ => false)
  | .lst _ => T == "list"
  | .lsk _ => T == "list"
  | _ => false
def fBM (T : String) (g : D → List D → AH → Res D) (o : FE) (a : FA) : FE := fun δ M => (o δ M).bind fun x M1 => if tyM T x M1 then (a δ M1).bind fun xs M2 => g x xs M2 else .stuck
def fM0 (g : D → List D → AH → Res D) (o : FE) : FE := fun δ M => (o δ M).bind fun x M1 => match x with | .str _ => g x [] M1 | _ => .stuck
def fM1 (g : D → List D → AH → Res D) (o a : FE) : FE := fun δ M => (o δ M).bind fun x M1 => match x with | .str _ => (a δ M1).bind fun y M2 => g x [y] M2 | _ => .stuck
def mAppend : D → List D → AH → Res D := fun x xs M => match x, xs with
  | .ref l, [d] => (match M[l]? with
    | some (.lst ys) => if ys.length < sizeLine then .ok .non (M.set l (.lst (ys ++ [d]))) else .stuck
    | _ => .stuck)
  | _, _ => .stuck
def mExtend : D → List D → AH → Res D := fun x xs M => match x, xs with
  | .ref l, [d] => (match M[l]?, d with
    | some (.lst ys), .lsk _ => .stuck
    | some (.lst ys), d => (match listOf d M with
      | some zs => if ys.length + zs.length ≤ sizeLine then .ok .non (M.set l (.lst (ys ++ zs))) else .stuck
      | none => .stuck)
    | _, _ => .stuck)
  | _, _ => .stuck
def mPop : D → List D → AH → Res D := fun x xs M => match x, xs with
  | .ref l, [] => (match M[l]? with
    | some (.lst ys) => (match ys[ys.length - 1]? with | some d => .ok d (M.set l (.lst ys.dropLast)) | none => .stuck)
    | _ => .stuck)
  | _, _ => .stuck
/-- a question to a text -/
def mAsk (q : Str → Bool) : D → List D → AH → Res D := fun x xs M => match x, xs with
  | .str z, [] => .ok (.bl (q z)) M
  | _, _ => .stuck
def mStarts : D → List D → AH → Res D := fun x xs M => match x, xs with
  | .str z, [.str y] => .ok (.bl (Txt.startswith z y)) M
  | _, _ => .stuck
def mSplit : D → List D → AH → Res D := fun x xs M => match x, xs with
  | .str a, [.str b] => if (b.length == 0) = false ∧ a.length + 2 ≤ sizeLine ∧ (Txt.split a b).length ≤ sizeLine then .ok (.ref M.length) (M ++ [.lst ((Txt.split a b).map .str)]) else .stuck
  | _, _ => .stuck
def strsOf : List D → Option (List Str)
  | [] => some []
  | .str z :: r => (strsOf r).map (z :: ·)
  | _ => none
def mJoin : D → List D → AH → Res D := fun x xs M => match x, xs with
  | .str a, [d] => (match (match tupOf d with | some ys => some ys | none => listOf d M) with
    | some ys => (match strsOf ys with
      | some zs => if (zs.map (·.length)).sum + zs.length * a.length ≤ 16777216 then .ok (.str (Txt.join a zs)) M else .stuck
      | none => .stuck)
    | none => .stuck)
  | _, _ => .stuck
def minL : List Int → Int
  | [] => 0
  | [x] => x
  | x :: r => if x ≤ minL r then x else minL r
def maxL : List Int → Int
  | [] => 0
  | [x] => x
  | x :: r => if maxL r ≤ x then x else maxL r
def gMinL : List D → AH → Res D := fun xs M => match xs with
  | [d] => (match listOf d M with
    | some ys => (match intsOf ys with | some ns => if ns.isEmpty then .stuck else .ok (.int (minL ns)) M | none => .stuck)
    | none => .stuck)
  | _ => .stuck
def gMaxL : List D → AH → Res D := fun xs M => match xs with
  | [d] => (match listOf d M with
    | some ys => (match intsOf ys with | some ns => if ns.isEmpty then .stuck else .ok (.int (maxL ns)) M | none => .stuck)
    | none => .stuck)
  | _ => .stuck
def sortI (ns : List Int) : List Int := ns.mergeSort (fun a b => decide (a ≤ b))
def leS (a b : Str) : Bool := !decide (tl b < tl a)
def sortS (ns : List Str) : List Str := ns.mergeSort leS
def keysI : List Key → Option (List Int)
  | [] => some []
  | .inl i :: r => (keysI r).map (i :: ·)
  | _ => none
def keysS : List Key → Option (List Str)
  | [] => some []
  | .inr i :: r => (keysS r).map (i :: ·)
  | _ => none
/-- sorted(..) of a dict with fewer than 64 keys -/
def gSortD : List D → AH → Res D := fun xs M => match xs with
  | [d] => (match dctOf d M with
    | some (ks, _) => if ks.length < 64 then (match keysS ks with
      | some zs => .ok (.ref M.length) (M ++ [.lst ((sortS zs).map .str)])
      | none => .stuck) else .stuck
    | none => .stuck)
  | _ => .stuck
def gSortDI : List D → AH → Res D := fun xs M => match xs with
  | [d] => (match dctOf d M with
    | some (ks, _) => if ks.length < 64 then (match keysI ks with
      | some zs => .ok (.ref M.length) (M ++ [.lst ((sortI zs).map .int)])
      | none => .stuck) else .stuck
    | none => .stuck)
  | _ => .stuck
def gSortL : List D → AH → Res D := fun xs M => match xs with
  | [d] => (match listOf d M with
    | some ys => (match intsOf ys with
      | some ns => .ok (.ref M.length) (M ++ [.lst ((sortI ns).map .int)])
      | none => .stuck)
    | none => .stuck)
  | _ => .stuck
def fFmt (e : FE) : FE := fun δ M => (e δ M).bind fun x M1 => match x with
  | .str y => if y.length ≤ sizeLine then .ok (.str y) M1 else .stuck
  | .int i => if i.natAbs.log2 < 1920 then .ok (.str (Str.ofString (toString i))) M1 else .stuck
  | _ => .stuck
def fJs : List FE → Str → AS → AH → Res Str
  | [], acc, _, M => .ok acc M
  | e :: es, acc, δ, M => (e δ M).bind fun x M1 => match x with
    | .str y => if (acc ++ y).length ≤ sizeLine then fJs es (acc ++ y) δ M1 else .stuck
    | _ => .stuck
def fJoined (es : List FE) : FE := fun δ M => (fJs es Str.empty δ M).bind fun z M1 => .ok (.str z) M1
section
variable {K : PySem.W.Frag} {κ : Kap} {E : EK} {ι ι' : List Addr} {F F' H H' : Hp} {M M' : AH}
theorem tyM_rep {T : String} {d : D} {v : V} (hh : RelH K κ ι F H M) (r : Rep K κ ι F d v) (h : tyM T d M = true) : tyV K T v H := by
  unfold tyM at h
  split at h
  · cases r; exact beq_iff_eq.mp h
  · split at h
    · rename_i q
      obtain ⟨a, u, rfl, h1, h2, h3⟩ := relH_ref hh r q
      cases h3 with | lst h3 => exact .inl ⟨beq_iff_eq.mp h, _, .inl (.inl h2)⟩
    · rename_i q
      obtain ⟨a, u, rfl, h1, h2, h3⟩ := relH_ref hh r q
      cases h3 with | dct l h3 => exact .inr (.inr (.inl ⟨beq_iff_eq.mp h, .inl ⟨_, h2⟩⟩))
    · cases h
  · obtain ⟨a, vs, rfl, hq, _⟩ := list_at (xs := _) hh r rfl
    exact .inl ⟨beq_iff_eq.mp h, _, hq⟩
  · obtain ⟨a, vs, rfl, hq, _⟩ := list_at (xs := _) hh r rfl
    exact .inl ⟨beq_iff_eq.mp h, _, hq⟩
  · cases h
theorem le_bm {T : String} {r : V → List V → Hp → VK → Prop} {g : D → List D → AH → Res D} {to : TE} {ta : TA} {fo : FE} {fa : FA} (hr : LRM K κ r g) (h : LE K κ E to fo) (h' : LA K κ E ta fa) : LE K κ E (tBM K T r to ta) (fBM T g fo fa) := fun σ δ H M ι F Q hs hh p => by
  refine h σ δ H M ι F _ hs hh ((Post.bind (R := Rep K κ) p).mono Ext.refl ?_)
  rintro v H1 ⟨d, M1, ι1, F1, e1, hh1, r1, p1⟩
  split at p1
  · rename_i ht
    refine ⟨tyM_rep hh1 r1 ht, ?_⟩
    refine h' σ δ H1 M1 ι1 F1 _ (hs.ext e1) hh1 ((Post.bind (R := RepL K κ) p1).mono Ext.refl ?_)
    rintro ws H2 ⟨ds, M2, ι2, F2, e2, hh2, r2, p2⟩
    exact hr H2 M2 ι2 F2 d ds v ws Q _ hh2 (r1.ext e2) r2 p2
  · exact p1.elim
theorem le_m0 {r : V → List V → Hp → VK → Prop} {g : D → List D → AH → Res D} {to : TE} {fo : FE} (hr : LRM K κ r g) (h : LE K κ E to fo) : LE K κ E (tM0 r to) (fM0 g fo) := fun σ δ H M ι F Q hs hh p => by
  refine h σ δ H M ι F _ hs hh ((Post.bind (R := Rep K κ) p).mono Ext.refl ?_)
  rintro v H1 ⟨d, M1, ι1, F1, e1, hh1, r1, p1⟩
  split at p1
  · cases r1
    exact ⟨⟨_, rfl⟩, hr H1 M1 ι1 F1 _ _ _ _ Q _ hh1 (.str _) .nil p1⟩
  · exact p1.elim
theorem le_m1 {r : V → List V → Hp → VK → Prop} {g : D → List D → AH → Res D} {to te : TE} {fo fe : FE} (hr : LRM K κ r g) (h : LE K κ E to fo) (h' : LE K κ E te fe) : LE K κ E (tM1 r to te) (fM1 g fo fe) := fun σ δ H M ι F Q hs hh p => by
  rw [w_M1]
  refine h σ δ H M ι F _ hs hh ((Post.bind (R := Rep K κ) p).mono Ext.refl ?_)
  rintro v H1 ⟨d, M1, ι1, F1, e1, hh1, r1, p1⟩
  split at p1
  · cases r1
    refine ⟨⟨_, rfl⟩, ?_⟩
    refine h' σ δ H1 M1 ι1 F1 _ (hs.ext e1) hh1 ((Post.bind (R := Rep K κ) p1).mono Ext.refl ?_)
    rintro w H2 ⟨d2, M2, ι2, F2, e2, hh2, r2, p2⟩
    exact hr H2 M2 ι2 F2 _ _ _ _ Q _ hh2 (.str _) (.cons r2 .nil) p2
  · exact p1.elim
theorem appendK : LRM K κ rAppend mAppend := fun H M ι F x xs v vs Q e hh rx r p => by
  unfold mAppend at p
  split at p
  · split at p
    · rename_i ys q
      split at p
      · rename_i hl
        obtain ⟨a, u, rfl, h1, h2, h3⟩ := relH_ref hh rx q
        cases r with
        | @cons d w _ _ ra rb =>
          cases rb
          cases h3 with
          | @lst _ ws h3 =>
            obtain ⟨e2, hh2⟩ := hh.put (o := .lst (ys ++ [_])) (ho := .lst (ws ++ [w])) h1 q rfl (.lst (h3.append (.cons ra .nil)))
            exact ⟨a, ws, w, rfl, rfl, h2, by rw [← h3.len]; exact hl, p _ _ _ _ e2 hh2 .non⟩
      · exact p.elim
    · exact p.elim
  · exact p.elim
theorem extendK : LRM K κ rExtend mExtend := fun H M ι F x xs v vs Q e hh rx r p => by
  unfold mExtend at p
  split at p
  · split at p
    · exact p.elim
    · rename_i ys q hk
      split at p
      · rename_i zs hz
        split at p
        · rename_i hl
          obtain ⟨a, u, rfl, h1, h2, h3⟩ := relH_ref hh rx q
          cases r with
          | cons ra rb =>
            cases rb
            cases h3 with
            | @lst _ ws h3 =>
              obtain ⟨b, us, rfl, h4, h5⟩ := listT hh ra hz (fun zs e => hk zs e)
              obtain ⟨e2, hh2⟩ := hh.put (o := .lst (ys ++ zs)) (ho := .lst (ws ++ us)) h1 q rfl (.lst (h3.append h5))
              exact ⟨a, b, ws, us, rfl, rfl, h2, h4, by rw [← h3.len, ← h5.len]; exact hl, p _ _ _ _ e2 hh2 .non⟩
        · exact p.elim
      · exact p.elim
    · exact p.elim
  · exact p.elim
theorem popK : LRM K κ rPop mPop := fun H M ι F x xs v vs Q e hh rx r p => by
  unfold mPop at p
  split at p
  · split at p
    · rename_i ys q
      split at p
      · rename_i d hd
        obtain ⟨a, u, rfl, h1, h2, h3⟩ := relH_ref hh rx q
        cases r
        cases h3 with
        | @lst _ ws h3 =>
          have hl := h3.len
          obtain ⟨w, hw, rw_⟩ := h3.get hd
          have hdl : RepL K κ ι F ys.dropLast ws.dropLast := by
            rw [List.dropLast_eq_take, List.dropLast_eq_take, ← hl]
            exact h3.takeN _
          obtain ⟨e2, hh2⟩ := hh.put (o := .lst ys.dropLast) (ho := .lst ws.dropLast) h1 q rfl (.lst hdl)
          exact ⟨a, ws, w, rfl, rfl, h2, by rw [← hl]; exact hw, p _ _ _ _ e2 hh2 (rw_.ext e2)⟩
      · exact p.elim
    · exact p.elim
  · exact p.elim
theorem askK (q : Str → Bool) : LRM K κ (fun x xs H Q => ∃ a, x = .str a ∧ xs = [] ∧ True ∧ Q (.bl (q a)) H) (mAsk q) := fun H M ι F x xs v vs Q e hh rx r p => by
  unfold mAsk at p
  split at p
  · cases rx; cases r
    exact ⟨_, rfl, rfl, trivial, p.here hh (.bl _)⟩
  · exact p.elim
theorem startsK : LRM K κ (fun x xs H Q => ∃ a b, x = .str a ∧ xs = [.str b] ∧ Q (.bl (Txt.startswith a b)) H) mStarts := fun H M ι F x xs v vs Q e hh rx r p => by
  unfold mStarts at p
  split at p
  · cases rx
    cases r with | cons a b => cases a; cases b; exact ⟨_, _, rfl, rfl, p.here hh (.bl _)⟩
  · exact p.elim
theorem strs_rep' : ∀ ys : List Str, RepL K κ ι F (ys.map D.str) (ys.map V.str)
  | [] => .nil
  | y :: ys => .cons (.str y) (strs_rep' ys)
theorem ints_rep' : ∀ ys : List Int, RepL K κ ι F (ys.map D.int) (ys.map V.int)
  | [] => .nil
  | y :: ys => .cons (.int y) (ints_rep' ys)
theorem splitK : LRM K κ (fun x xs H Q => ∃ a b, x = .str a ∧ xs = [.str b] ∧ (b.length == 0) = false ∧ a.length + 2 ≤ sizeLine ∧ rNewStrs (Txt.split a b) H Q) mSplit := fun H M ι F x xs v vs Q e hh rx r p => by
  unfold mSplit at p
  split at p
  · split at p
    · rename_i hc
      cases rx
      cases r with
      | cons a b =>
        cases a; cases b
        refine ⟨_, _, rfl, rfl, hc.1, hc.2.1, fun q hq => ?_⟩
        obtain ⟨e2, hh2, h5⟩ := hh.new hq (.lst (strs_rep' _))
        exact p _ _ _ _ e2 hh2 (.ref h5)
    · exact p.elim
  · exact p.elim
theorem strs_rep : ∀ {ds : List D} {vs : List V} {ns : List Str}, RepL K κ ι F ds vs → strsOf ds = some ns → vs = ns.map V.str
  | [], _, _, r, h => by cases r; simp only [strsOf] at h; cases h; rfl
  | d :: ds, _, _, r, h => by
    cases r with
    | cons a b =>
      cases a <;> simp only [strsOf] at h <;> first
        | (cases h; done)
        | (obtain ⟨x, hx, rfl⟩ := Option.map_eq_some_iff.mp h; rw [strs_rep b hx]; rfl)
theorem joinK : LRM K κ (fun x xs H Q => ∃ a p, ∃ ys : List Str, x = .str a ∧ xs = [.ref p] ∧ (SqL K H p (ys.map V.str) ∨ SqT K H p (ys.map V.str)) ∧ (ys.map (·.length)).sum + ys.length * a.length ≤ 16777216 ∧ Q (.str (Txt.join a ys)) H) mJoin := fun H M ι F x xs v vs Q e hh rx r p => by
  unfold mJoin at p
  split at p
  · rename_i a d
    split at p
    · rename_i ys hy
      split at p
      · rename_i zs hz
        split at p
        · rename_i hl
          cases rx
          cases r with
          | cons ra rb =>
            cases rb
            split at hy
            · rename_i ws hw
              cases hy
              obtain ⟨q, us, rfl, h1, r1⟩ := tup_at hh ra hw
              have := strs_rep r1 hz
              subst this
              exact ⟨a, q, zs, rfl, rfl, .inr h1, hl, p.here hh (.str _)⟩
            · obtain ⟨q, us, rfl, h1, r1⟩ := list_at hh ra hy
              have := strs_rep r1 hz
              subst this
              exact ⟨a, q, zs, rfl, rfl, .inl h1, hl, p.here hh (.str _)⟩
        · exact p.elim
      · exact p.elim
    · exact p.elim
  · exact p.elim
theorem minL_is : ∀ ns : List Int, ns ≠ [] → minL ns ∈ ns ∧ ∀ y ∈ ns, minL ns ≤ y
  | [], h => absurd rfl h
  | [x], _ => ⟨List.mem_cons_self .., fun y h => by have : y = x := by simpa using h
                                                    rw [this]; exact Int.le_refl _⟩
  | x :: z :: r, _ => by
    obtain ⟨h1, h2⟩ := minL_is (z :: r) (by simp)
    unfold minL
    split
    · rename_i hx
      refine ⟨List.mem_cons_self .., fun y hy => ?_⟩
      rcases List.mem_cons.mp hy with e | hy
      · rw [e]; exact Int.le_refl _
      · exact Int.le_trans hx (h2 y hy)
    · rename_i hx
      refine ⟨List.mem_cons_of_mem _ h1, fun y hy => ?_⟩
      rcases List.mem_cons.mp hy with e | hy
      · rw [e]; omega
      · exact h2 y hy
theorem maxL_is : ∀ ns : List Int, ns ≠ [] → maxL ns ∈ ns ∧ ∀ y ∈ ns, y ≤ maxL ns
  | [], h => absurd rfl h
  | [x], _ => ⟨List.mem_cons_self .., fun y h => by have : y = x := by simpa using h
                                                    rw [this]; exact Int.le_refl _⟩
  | x :: z :: r, _ => by
    obtain ⟨h1, h2⟩ := maxL_is (z :: r) (by simp)
    unfold maxL
    split
    · rename_i hx
      refine ⟨List.mem_cons_self .., fun y hy => ?_⟩
      rcases List.mem_cons.mp hy with e | hy
      · rw [e]; exact Int.le_refl _
      · exact Int.le_trans (h2 y hy) hx
    · rename_i hx
      refine ⟨List.mem_cons_of_mem _ h1, fun y hy => ?_⟩
      rcases List.mem_cons.mp hy with e | hy
      · rw [e]; omega
      · exact h2 y hy
theorem minLK : LRN K κ (rMin K) gMinL := fun H M ι F xs vs Q e hh r p => by
  unfold gMinL at p
  split at p
  · cases r with
    | cons a b =>
      cases b
      split at p
      · rename_i hx
        split at p
        · rename_i ns hn
          split at p
          · exact p.elim
          · rename_i he
            obtain ⟨q, ws, rfl, h1, r1⟩ := list_at hh a hx
            have hne : ns ≠ [] := by simpa using he
            obtain ⟨k1, k2⟩ := minL_is ns hne
            refine ⟨q, ns, rfl, by rw [← ints_rep r1 hn]; exact h1, List.length_pos_iff.mpr hne, fun m hm hle => ?_⟩
            have : m = minL ns := Int.le_antisymm (hle _ k1) (k2 _ hm)
            rw [this]
            exact p.here hh (.int _)
        · exact p.elim
      · exact p.elim
  · exact p.elim
theorem maxLK : LRN K κ (rMax K) gMaxL := fun H M ι F xs vs Q e hh r p => by
  unfold gMaxL at p
  split at p
  · cases r with
    | cons a b =>
      cases b
      split at p
      · rename_i hx
        split at p
        · rename_i ns hn
          split at p
          · exact p.elim
          · rename_i he
            obtain ⟨q, ws, rfl, h1, r1⟩ := list_at hh a hx
            have hne : ns ≠ [] := by simpa using he
            obtain ⟨k1, k2⟩ := maxL_is ns hne
            refine ⟨q, ns, rfl, by rw [← ints_rep r1 hn]; exact h1, List.length_pos_iff.mpr hne, fun m hm hle => ?_⟩
            have : m = maxL ns := Int.le_antisymm (k2 _ hm) (hle _ k1)
            rw [this]
            exact p.here hh (.int _)
        · exact p.elim
      · exact p.elim
  · exact p.elim
theorem sortI_eq {ns ys : List Int} (h : ys.Perm ns) (s : ys.Pairwise (· ≤ ·)) : ys = sortI ns := by
  have h2 : (sortI ns).Perm ns := List.mergeSort_perm ..
  have s2 : (sortI ns).Pairwise (· ≤ ·) := by
    have := List.pairwise_mergeSort (le := fun a b : Int => decide (a ≤ b)) (fun a b c h1 h2 => by simp at *; omega) (fun a b => by simp; omega) ns
    exact this.imp fun h => by simpa using h
  exact List.Perm.eq_of_pairwise (le := (· ≤ ·)) (fun a b _ _ h1 h2 => Int.le_antisymm h1 h2) s s2 (h.trans h2.symm)
theorem ltCps_iff : ∀ a b : List Nat, ltCps a b = decide (a < b)
  | [], [] => by simp [ltCps]
  | [], _ :: _ => by simp [ltCps]
  | _ :: _, [] => by simp [ltCps]
  | a :: r, b :: t => by
    simp only [ltCps, ltCps_iff r t, List.cons_lt_cons_iff]
    by_cases h1 : a < b <;> by_cases h2 : a = b <;> by_cases h3 : r < t <;> simp [h1, h2, h3]
theorem risS_pw : ∀ (p : Str) (l : List Str), risingS p l = true → (p :: l).Pairwise (fun a b => leS a b = true)
  | p, [], _ => by simp
  | p, x :: r, h => by
    simp only [risingS, Bool.and_eq_true] at h
    have ih := risS_pw x r h.2
    have hx : leS p x = true := by
      have h1 := h.1
      rw [ltCps_iff] at h1
      exact h1
    refine List.pairwise_cons.mpr ⟨fun b hb => ?_, ih⟩
    rcases List.mem_cons.mp hb with e | hb
    · rw [e]; exact hx
    · have h2 := (List.pairwise_cons.mp ih).1 b hb
      unfold leS at hx h2 ⊢
      simp only [Bool.not_eq_true', decide_eq_false_iff_not, List.not_lt] at hx h2 ⊢
      exact List.le_trans hx h2
theorem sortS_eq {ns ys : List Str} (h : ys.Perm ns) (s : sortedS ys = true) : ys = sortS ns := by
  have h2 : (sortS ns).Perm ns := List.mergeSort_perm ..
  have s1 : ys.Pairwise (fun a b => leS a b = true) := by
    cases ys with
    | nil => exact .nil
    | cons p l => exact risS_pw p l s
  have s2 : (sortS ns).Pairwise (fun a b => leS a b = true) := List.pairwise_mergeSort (le := leS) (fun a b c h1 h2 => by
    unfold leS at *
    simp only [Bool.not_eq_true', decide_eq_false_iff_not, List.not_lt] at *
    exact List.le_trans h1 h2) (fun a b => by
    unfold leS
    simp only [Bool.or_eq_true, Bool.not_eq_true', decide_eq_false_iff_not, List.not_lt]
    exact List.le_total _ _) ns
  refine List.Perm.eq_of_pairwise (le := fun a b => leS a b = true) (fun a b _ _ h1 h2 => ?_) s1 s2 (h.trans h2.symm)
  unfold leS at h1 h2
  simp only [Bool.not_eq_true', decide_eq_false_iff_not, List.not_lt] at h1 h2
  exact str_eta (List.le_antisymm h1 h2)
theorem keysS_map : ∀ {ks : List Key} {zs : List Str}, keysS ks = some zs → ks = zs.map Sum.inr
  | [], _, h => by simp only [keysS] at h; cases h; rfl
  | .inl i :: r, _, h => by simp [keysS] at h
  | .inr z :: r, _, h => by
    simp only [keysS] at h
    obtain ⟨x, hx, rfl⟩ := Option.map_eq_some_iff.mp h
    rw [keysS_map hx]; rfl
theorem keysI_map : ∀ {ks : List Key} {zs : List Int}, keysI ks = some zs → ks = zs.map Sum.inl
  | [], _, h => by simp only [keysI] at h; cases h; rfl
  | .inr i :: r, _, h => by simp [keysI] at h
  | .inl z :: r, _, h => by
    simp only [keysI] at h
    obtain ⟨x, hx, rfl⟩ := Option.map_eq_some_iff.mp h
    rw [keysI_map hx]; rfl
theorem fst_zip {ks : List Key} {vs : List V} (h : ks.length = vs.length) : (ks.zip vs).map (·.1) = ks := List.map_fst_zip (Nat.le_of_eq h)
theorem sortDK : LRN K κ (fun xs H Q => ∃ (a : Addr) (kvs : List (Key × V)) (ks : List Str), xs = [.ref a] ∧ Rd H a (.dK kvs) ∧ kvs.map (·.1) = ks.map Sum.inr ∧ ks.length < 64 ∧
    ∀ ys p, ys.Perm ks → sortedS ys = true → H p = none → Q (.ref p) (upd H p (.lst (ys.map V.str)))) gSortD := fun H M ι F xs vs Q e hh r p => by
  unfold gSortD at p
  split at p
  · cases r with
    | cons a b =>
      cases b
      split at p
      · rename_i hx
        split at p
        · rename_i hl
          split at p
          · rename_i zs hz
            obtain ⟨q, ws, rfl, h1, h2, h3⟩ := dct_at hh a hx
            refine ⟨q, _, zs, rfl, h1, by rw [fst_zip h2]; exact keysS_map hz, by rw [keysS_map hz, List.length_map] at hl; exact hl, fun ys l hp hs hn => ?_⟩
            rw [sortS_eq hp hs]
            obtain ⟨e2, hh2, h5⟩ := hh.new hn (.lst (strs_rep' _))
            exact p _ _ _ _ e2 hh2 (.ref h5)
          · exact p.elim
        · exact p.elim
      · exact p.elim
  · exact p.elim
theorem sortDIK : LRN K κ (fun xs H Q => ∃ (a : Addr) (kvs : List (Key × V)) (ks : List Int), xs = [.ref a] ∧ Rd H a (.dK kvs) ∧ kvs.map (·.1) = ks.map Sum.inl ∧ ks.length < 64 ∧
    ∀ (ys : List Int) (p : Addr), ys.Perm ks → ys.Pairwise (· ≤ ·) → H p = none → Q (.ref p) (upd H p (.lst (ys.map V.int)))) gSortDI := fun H M ι F xs vs Q e hh r p => by
  unfold gSortDI at p
  split at p
  · cases r with
    | cons a b =>
      cases b
      split at p
      · rename_i hx
        split at p
        · rename_i hl
          split at p
          · rename_i zs hz
            obtain ⟨q, ws, rfl, h1, h2, h3⟩ := dct_at hh a hx
            refine ⟨q, _, zs, rfl, h1, by rw [fst_zip h2]; exact keysI_map hz, by rw [keysI_map hz, List.length_map] at hl; exact hl, fun ys l hp hs hn => ?_⟩
            rw [sortI_eq hp hs]
            obtain ⟨e2, hh2, h5⟩ := hh.new hn (.lst (ints_rep' _))
            exact p _ _ _ _ e2 hh2 (.ref h5)
          · exact p.elim
        · exact p.elim
      · exact p.elim
  · exact p.elim
theorem sortLK : LRN K κ (rSortedI K) gSortL := fun H M ι F xs vs Q e hh r p => by
  unfold gSortL at p
  split at p
  · cases r with
    | cons a b =>
      cases b
      split at p
      · rename_i hx
        split at p
        · rename_i ns hn
          obtain ⟨q, ws, rfl, h1, r1⟩ := list_at hh a hx
          refine ⟨q, ns, rfl, by rw [← ints_rep r1 hn]; exact h1, fun ys l hp hs hnn => ?_⟩
          rw [sortI_eq hp hs]
          obtain ⟨e2, hh2, h5⟩ := hh.new hnn (.lst (ints_rep' _))
          exact p _ _ _ _ e2 hh2 (.ref h5)
        · exact p.elim
      · exact p.elim
  · exact p.elim
theorem le_fmt {t : TE} {f : FE} (h : LE K κ E t f) : LE K κ E (tFmtG t) (fFmt f) := fun σ δ H M ι F Q hs hh p => by
  rw [w_FmtG]
  refine h σ δ H M ι F _ hs hh ((Post.bind (R := Rep K κ) p).mono Ext.refl ?_)
  rintro v H1 ⟨d, M1, ι1, F1, e1, hh1, r1, p1⟩
  split at p1
  · cases r1
    split at p1
    · rename_i hl; exact ⟨hl, p1.here hh1 (.str _)⟩
    · exact p1.elim
  · cases r1
    split at p1
    · rename_i hl; exact ⟨hl, p1.here hh1 (.str _)⟩
    · exact p1.elim
  · exact p1.elim
inductive LJ (K : PySem.W.Frag) (κ : Kap) (E : EK) : List TE → List FE → Prop
  | nil : LJ K κ E [] []
  | cons {t : TE} {f : FE} {ts : List TE} {fs : List FE} : LE K κ E t f → LJ K κ E ts fs → LJ K κ E (t :: ts) (f :: fs)
theorem lj_run {ts : List TE} {fs : List FE} (h : LJ K κ E ts fs) : ∀ (acc : Str) σ δ H M ι F (Q : Str → Hp → Prop), RelS K κ E ι F H δ σ → RelH K κ ι F H M → Post K κ REq ι F H (fJs fs acc δ M) Q (E.E σ) → tJs ts acc σ H Q := by
  induction h with
  | nil => exact fun acc σ δ H M ι F Q hs hh p => p.here hh rfl
  | cons h t ih =>
    intro acc σ δ H M ι F Q hs hh p
    refine h σ δ H M ι F _ hs hh ((Post.bind (R := Rep K κ) p).mono Ext.refl ?_)
    rintro v H1 ⟨d, M1, ι1, F1, e1, hh1, r1, p1⟩
    split at p1
    · split at p1
      · rename_i hl
        cases r1
        exact ⟨_, rfl, hl, ih _ σ δ H1 M1 ι1 F1 Q (hs.ext e1) hh1 p1⟩
      · exact p1.elim
    · exact p1.elim
theorem le_joined {ts : List TE} {fs : List FE} (h : LJ K κ E ts fs) : LE K κ E (fun σ H Q => tJs ts Str.empty σ H fun out H1 => Q (.str out) H1) (fJoined fs) := fun σ δ H M ι F Q hs hh p => by
  refine lj_run h Str.empty σ δ H M ι F _ hs hh ((Post.bind (R := REq) p).mono Ext.refl ?_)
  rintro v H1 ⟨d, M1, ι1, F1, e1, hh1, r1, p1⟩
  cases (show d = v from r1)
  exact p1.here hh1 (.str _)
end
end G
namespace G
open PySem PySem.Spec PyProof.Rows L2
/-! ### defs by their bodies, told of data -/
/-- nothing is let go -/
def fnK (n p : Nat) (fs : AS → AH → SRes) : FD := fun ds M => if ds.length = p then outS (fs (ds.map some ++ List.replicate (n - ds.length) none) M) else .stuck
def gNeg : D → AH → Res D := fun x M => match x with | .int i => .ok (.int (-i)) M | _ => .stuck
def gBool : List D → AH → Res D := fun xs M => match xs with
  | [x] => (truD x M).bind fun b M1 => .ok (.bl b) M1
  | _ => .stuck
def gBoolOwn (c : String) (f : FD) : List D → AH → Res D := fun xs M => match xs with
  | [x] => (match objOf c x M with
    | some _ => (f [x] M).bind fun d M1 => match d with | .bl b => .ok (.bl b) M1 | _ => .stuck
    | none => .stuck)
  | _ => .stuck
/-- a class in a local name is called -/
def fMkV (c : String) (i : Nat) (f : FD) (ds : List D) (a : FA) : FE := fun δ M => match δ[i]? with
  | some (some (.cls c')) => if c' = c then fMk c f ds a δ M else .stuck
  | _ => .stuck
section
variable {P : Program} {w : World} {K : PySem.W.Frag} {mg : Str → Option Value} {base : Heap} {κ : Kap} {E : EK} {ι ι' : List Addr} {F F' H H' : Hp} {M M' : AH}
theorem negK : LR1 K κ (rU fun i => .int (-i)) gNeg := fun H M ι F x v Q e hh r p => by
  unfold gNeg at p
  split at p
  · cases r; exact ⟨_, rfl, p.here hh (.int _)⟩
  · exact p.elim
theorem conc_lenK {N ps : List Str} {fs : AS → AH → SRes} (vs : List V) (H : Hp) (Q : VK) (E : XK) (h : conc K κ (fnK N.length ps.length fs) vs H Q E) : vs.length = ps.length := by
  obtain ⟨ds, M, ι, F, rh, rd, p⟩ := h
  unfold fnK at p
  split at p
  · rename_i hl
    rw [← rd.len, hl]
  · exact p.elim
theorem body_ofK {N ps : List Str} {fs : AS → AH → SRes} {t : TS} {vs : List V} {Q : VK} {E : XK} (L : LS K κ (EK.of E) t fs) (h : conc K κ (fnK N.length ps.length fs) vs H Q E) : t { nx := fun _ H' => Q .non H', rt := Q } (L2.start N vs) H := by
  obtain ⟨ds, M, ι, F, rh, rd, p⟩ := h
  unfold fnK at p
  split at p
  · refine L _ _ H M ι F _ (relS_start rd) rh ?_
    revert p
    generalize fs _ M = r
    intro p
    cases r with
    | nx δ M' => exact fun σ' H' ι' F' e h' _ => p .non H' ι' F' e h' .non
    | rt d M' => exact p
    | exc c q δ M' =>
      cases q with
      | none => exact fun σ' H' ι' F' e h' _ => p H' ι' F' e h'
      | some q => exact fun σ' x H' ι' F' vs nx e h' _ hl rd hx => p x H' ι' F' vs nx e h' hl rd hx
    | bk δ M' => exact p.elim
    | ct δ M' => exact p.elim
    | stuck => exact p.elim
  · exact p.elim
/-- a def's body, lifted -/
def BodyOk (P : Program) (w : World) (K : PySem.W.Frag) (mg : Str → Option Value) (base : Heap) (κ : Kap) (k : Nat) (N : List Str) (qual : Str) (st : Stmt) (f : Addr) (fs : AS → AH → SRes) : Prop :=
  ∀ (cdv : Value) (A : Around) (outer : List Env) (s : Shared) (H : Hp) (E : XK), Room k (A.deeper (envOfC qual (defScope st) s.heap.objs.size f cdv)) →
    ∃ t, PSs (cxOf (L2.CX P w) P w K mg base N qual (defScope st) f cdv A outer s H E) (defBody st) t ∧ LS K κ (EK.of E) t fs
theorem fnD {x qual : Str} {st : Stmt} {f : Addr} {fd : FuncData} {N ps : List Str} {k : Nat} {fs : AS → AH → SRes} (F : Fun K x qual st f fd) (S : FnScope N ps (defScope st)) (b : BodyOk P w K mg base κ k N qual st f fs) :
    FnOk P w K mg base (L2.CX P w) (k + 1) f fd ps (conc K κ (fnF N.length ps.length fs)) :=
  F.okX S conc_len fun cdv A outer s H vs Q E hr h => by
    obtain ⟨t, d, l⟩ := b cdv A outer s H E hr
    exact ⟨t, d, body_of l h⟩
theorem fnDK {x qual : Str} {st : Stmt} {f : Addr} {fd : FuncData} {N ps : List Str} {k : Nat} {fs : AS → AH → SRes} {dvs : List V} {kws : List (Str × V)} (F : FunD K x qual (defArgs st) (defBody st) (defScope st) dvs kws f fd) (S : FnScope N ps (defScope st)) (b : BodyOk P w K mg base κ k N qual st f fs) :
    FnOk P w K mg base (L2.CX P w) (k + 1) f fd ps (conc K κ (fnK N.length ps.length fs)) :=
  F.ok S conc_lenK fun cdv A outer s H vs Q E hr h => by
    obtain ⟨t, d, l⟩ := b cdv A outer s H E hr
    exact ⟨t, d, body_ofK l h⟩
/-! bool(..) -/
theorem bool_run {prog : Program} {x : Value} {A : Around} {E : Value → Shared → Prop} {s : Shared} {Q : Value → Shared → Prop} (h : wpAny (model prog w) A.in1.in1 (truthy x) (fun b s' => Q (.bool b) s') E s) : wpAny (model prog w) A (call (.type "bool") [x]) Q E s := by
  have ft := F.called_bool
  obtain ⟨c, tl, hmro⟩ := ft.mro
  have hmade := ft.made
  have hsub := ft.sub
  have hcn := F.newCall_bool_1 x
  have hct := F.typeCall_bool_1 x
  have hli := ft.init.lookup
  have f1 := F.conv_sub_bool
  refine wpAny_call (codeAny_of_tree ?_)
  show wpAny _ _ (callAny (.type "bool") _) _ _ _
  refine wpAny_pure ⟨Code.quiet_builtin _ (by decide +kernel), codeAny_builtin PySem.F.entry_type_call ?_⟩
  rw [Around.under_plain (weight_type_call_type "bool" [x] []) (units_type_call_type "bool" [x] [])]
  have h1 := ft.notType
  have h2 := ft.canCreate
  repeat (any_goals (first | assumption | wp_step))
  have new : wpAny (model prog w) A.in1.in1 (Builtin.«bool.__new__» ⟨[.type "bool", x], []⟩) (fun fin s' => ∃ b, fin = .done (.ret (.bool b)) ∧ Q (.bool b) s') E s := by
    obtain ⟨hp, g, d, tk, os⟩ := s
    repeat (any_goals (first | assumption | (with_reducible refine wpAny_mono h (fun b s' q => ?_) fun _ _ e => e) | wp_step))
    all_goals first | exact ⟨_, rfl, q⟩ | skip
  refine codeAny_mono (codeAny_call_builtin (R := fun r s' => match r with | .ok (.ret v) => ∃ b, v = Value.bool b ∧ Q v s' | .ok _ => False | .error e => E e s') ft.plain F.entry_bool_new
    (wpAny_of_eq hcn (wpAny_mono new (fun fin s' q => ?_) fun e s' q => q))) fun r s1 hr => ?_
  · obtain ⟨b, rfl, q⟩ := q
    exact ⟨b, rfl, q⟩
  · cases r with
    | error e => exact hr
    | ok fl =>
      cases fl with
      | ret v =>
        obtain ⟨b, rfl, q⟩ := hr
        have hT : s1.TypeIs (Value.bool b) "bool" := rfl
        have hbi := ft.init.bind (Value.bool b)
        repeat (any_goals (first | assumption | wp_step))
        have oi := (object_init_meets (self := Value.bool b) (rest := [x]) ft.init.lookup ft.made F.newNe_bool) prog w A.in1 (fun r s' => match r with | .ok (.ret v) => v = Value.none ∧ Q (.bool b) s' | .ok _ => False | .error e => E e s') s1 ⟨hT, ⟨rfl, q⟩⟩
        refine codeAny_mono (codeAny_call_builtin (R := fun r s' => match r with | .ok (.ret v) => v = Value.none ∧ Q (.bool b) s' | .ok _ => False | .error e => E e s') ft.init.plain PySem.F.entry_object_init
          (ft.init.check _ _ _ _ _ _ _ _ hT (F.args_object_init_2 _ x) oi)) fun r2 s2 hr2 => ?_
        cases r2 with
        | error e => exact hr2
        | ok f2 =>
          cases f2 with
          | ret v =>
            obtain ⟨rfl, q2⟩ := hr2
            repeat (any_goals (first | assumption | wp_step))
          | _ => exact hr2.elim
      | _ => exact hr.elim
theorem inv_in {X : Cx} {pins : List (Addr × Obj)} {σ : L2.St} {H : Hp} {s : Shared} (I : Inv X pins σ H s) : Inv { X with A := X.A.in1.in1 } pins σ H s :=
  ⟨⟨I.ok.mod, I.ok.kind, I.ok.glob, I.ok.blt, I.ok.above, I.ok.inj, I.ok.has, I.ok.cab, I.ok.hd, I.ok.frames, I.ok.stk, I.ok.exf, I.ok.bs, I.ok.bsz, I.ok.noex, I.ok.exfs, I.ok.funs, I.ok.frf⟩,
    I.os, I.bare, I.base, I.loc, I.cell, I.free, I.freeC, I.pin, I.hok, I.len⟩
theorem inv_out {X : Cx} {pins : List (Addr × Obj)} {σ : L2.St} {H : Hp} {s : Shared} (I : Inv { X with A := X.A.in1.in1 } pins σ H s) : Inv X pins σ H s :=
  ⟨⟨I.ok.mod, I.ok.kind, I.ok.glob, I.ok.blt, I.ok.above, I.ok.inj, I.ok.has, I.ok.cab, I.ok.hd, I.ok.frames, I.ok.stk, I.ok.exf, I.ok.bs, I.ok.bsz, I.ok.noex, I.ok.exfs, I.ok.funs, I.ok.frf⟩,
    I.os, I.bare, I.base, I.loc, I.cell, I.free, I.freeC, I.pin, I.hok, I.len⟩
def rBoolG (K : PySem.W.Frag) : List V → Hp → VK → Prop := fun xs H Q => ∃ x, xs = [x] ∧ ∃ k, TruX K x H k ∧ Q (.bl k) H
theorem call_boolG {X : Cx} : CallR X (.type "bool") (rBoolG X.K) := by
  intro pins s σ H xs us Q I r h
  obtain ⟨x, rfl, h⟩ := h
  obtain ⟨u, rfl, rx⟩ := vals1 r
  refine bool_run ?_
  have h2 := h
  refine wpAny_mono (trux_ok (X := { X with A := X.A.in1.in1 }) pins s σ H x u (fun b H' => Q (.bl b) H') (inv_in I) rx h2) (fun b s' q => ?_) fun _ _ e => e
  obtain ⟨H', I', q⟩ := q
  exact ⟨.bl b, H', inv_out I', rfl, q⟩
theorem Room.in2 {k : Nat} {A : Around} (r : Room (k + 1) A) : Room k A.in1.in1 :=
  ⟨r.hd, by have := r.dp; show A.depth + 3 * k + 5 < _; omega, by have := r.un; show A.units + 1 + 1 + 16 * k + 200 < _; omega⟩
/-- bool(o), o of a class with an own truth -/
def rBoolOwn (C : Addr) (sp : Sp) (E : XK) : List V → Hp → VK → Prop := fun vs H Q => ∃ a dx fs, vs = [.ref a] ∧ H a = some (.ins C dx fs) ∧ sp [.ref a] H (fun v H' => ∃ b, v = .bl b ∧ Q (.bl b) H') E
theorem conc_mono {g : FD} {vs : List V} {H : Hp} {Q Q' : VK} {e : XK} (h : conc K κ g vs H Q e) (hq : ∀ v H', Q v H' → Q' v H') : conc K κ g vs H Q' e := by
  obtain ⟨ds, M, ι, F, hh, r, p⟩ := h
  exact ⟨ds, M, ι, F, hh, r, p.mono Ext.refl hq⟩
theorem call_boolOwn {X : Cx} {C : Addr} {k : Nat} {ps : List Str} {g : FD} {E : XK} (M : MetOk X.prog X.w X.K X.mg X.base C "__bool__" k ps (conc X.K κ g)) (hr : Room (k + 1) X.A) (hx : Passes (L2.CX X.prog X.w) X E) : CallR X (.type "bool") (rBoolOwn C (conc X.K κ g) E) := by
  intro pins s σ H xs us Q I r h
  obtain ⟨a, dx, fs, rfl, ha, q⟩ := h
  obtain ⟨u, rfl, ru⟩ := vals1 r
  cases ru
  refine bool_run ?_
  have hx2 : Passes (L2.CX X.prog X.w) { X with A := X.A.in1.in1 } E := fun pins σ H s e s' I c => hx pins σ H s e s' (inv_out I) c
  refine tru_own (X := { X with A := X.A.in1.in1 }) M (Room.in2 hr) hx2 (inv_in I) ha (conc_mono q fun v H' h => ?_)
  obtain ⟨b, rfl, h⟩ := h
  exact ⟨b, rfl, fun s' I' => ⟨.bl b, H', inv_out I', rfl, h⟩⟩
theorem boolK : LRN K κ (rBoolG K) gBool := fun H M ι F xs vs Q e hh r p => by
  unfold gBool at p
  split at p
  · rename_i x
    cases r with
    | cons a b =>
      cases b
      refine ⟨_, rfl, truD_at (Q := fun b H' => Q (.bl b) H') (e := e) hh a ?_⟩
      refine (Post.bind (R := REq) p).mono Ext.refl ?_
      rintro b H1 ⟨d, M1, ι1, F1, e1, h1, r1, p1⟩
      cases (show d = b from r1)
      exact p1.here h1 (.bl _)
  · exact p.elim
theorem boolOwnK {c : String} {g : FD} {e : XK} : LRNX K κ e (rBoolOwn (κ c) (conc K κ g) e) (gBoolOwn c g) := fun H M ι F xs vs Q hh r p => by
  unfold gBoolOwn at p
  split at p
  · split at p
    · rename_i q1 h1
      obtain ⟨ns, ys⟩ := q1
      cases r with
      | cons ra rb =>
        cases rb
        obtain ⟨a, dx, ws, rfl, k1, _, _⟩ := obj_at hh ra h1
        refine ⟨a, dx, _, rfl, k1, [_], M, ι, F, hh, .cons ra .nil, ?_⟩
        refine (Post.bind (R := Rep K κ) p).mono Ext.refl ?_
        rintro u H1 ⟨d, M1, ι1, F1, e1, hh1, r1, p1⟩
        split at p1
        · cases r1
          exact ⟨_, rfl, p1.here hh1 (.bl _)⟩
        · exact p1.elim
    · exact p.elim
  · exact p.elim
/-! a class in a local name, called -/
def tMakeV (i : Nat) (C : Addr) (sp : Sp) (dvs : List V) (E : XK) (t : TA) : TE := fun σ H Q => σ[i]? = some (some (.ref C)) ∧ tMake C sp dvs E t σ H Q
theorem pe_mkV {X : Cx} {i k : Nat} {C : Addr} {ps : List Str} {sp : Sp} {E : XK} {x y : Str} {p pos : Pos} {e : Expr} {es : List Expr} {t : TA} {ds : List Value} {dvs : List V} (M : MkOk X.prog X.w X.K X.mg X.base y C k ps ds dvs sp) (hr : Room (k + 1) X.A) (hx : Passes (L2.CX X.prog X.w) X E)
    (hN : X.N[i]? = some x) (hv : Vis X.env.scope x) (ha : PA X (e :: es) t) (hd : (x == ("__debug__" : Str)) = false := by decide) (hcd : (x == ("__classdict__" : Str)) = false := by decide)
    (he : starEach (e :: es) X.env = (false, eval e X.env) :: starEach es X.env := by rfl) (hpl : (backTo pos (starEach es X.env)).any (·.1) = false := by rfl) :
    PE X (.Call (.Name x p) (e :: es) [] pos) (tMakeV i C sp dvs E t) := by
  obtain ⟨f, fd, hm, mk, hb, hdv, F⟩ := M.ex
  refine ⟨fun pins s σ H Q I h => ?_⟩
  obtain ⟨h1, h2⟩ := h
  refine wpAny_Call_Name_kw (thn ((pe_var (pos := p) hN hv hd hcd).run pins s σ H (fun v H1 => v = .ref C ∧ H1 = H) I ⟨.ref C, h1, rfl, rfl⟩) fun u s1 ⟨v, H1, I1, r1, q1⟩ => ?_)
  obtain ⟨rfl, rfl⟩ := q1
  cases r1
  exact PySem.W.callWith_K (h₀ := X.base) I.ok.mod.kin mk.kp (thn (ha.run pos pins s1 σ _ _ I1 h2) fun us s2 ⟨vs, H2, I2, r, q⟩ => ⟨I2.kIn, run_make mk F hr hb hdv hx I2 r q⟩) he hpl
theorem le_mkV {c : String} {i : Nat} {E1 : XK} {g : FD} {ds : List D} {dvs : List V} {ta : TA} {fa : FA} (hd : ∀ ι F, RepL K κ ι F ds dvs) (h : LA K κ (EK.of E1) ta fa) : LE K κ (EK.of E1) (tMakeV i (κ c) (conc K κ g) dvs E1 ta) (fMkV c i g ds fa) := fun σ δ H M ι F Q hs hh p => by
  unfold fMkV at p
  split at p
  · rename_i c' hc
    split at p
    · rename_i e
      subst e
      obtain ⟨v, h1, h2⟩ := hs.pl i _ hc
      cases h2
      exact ⟨h1, le_mk hd h σ δ H M ι F Q hs hh p⟩
    · exact p.elim
  · exact p.elim
/-! a def with what is left over -/
theorem fnStar {x qual : Str} {st : Stmt} {f : Addr} {N ps : List Str} {k : Nat} {pv : Str} {fs : AS → AH → SRes} {oc kV doc pm cdv ct : Value} {od an : Option Addr} {osl : Array (Option Value)}
    (lk : K.lookup f = some ⟨oc, od, .func (PySem.W.fnOf x qual (defArgs st) (defBody st) (defScope st) .none kV doc pm an cdv ct), osl⟩) (hcd : PySem.W.codeIn K cdv qual = true) (S : FnScope N (ps ++ [pv]) (defScope st))
    (hb : ∀ us rest : List Value, us.length = ps.length → bindArgs (PySem.W.fnOf x qual (defArgs st) (defBody st) (defScope st) .none kV doc pm an cdv ct) ⟨us ++ rest, []⟩ = (newTuple rest >>= fun t => pure (ps.zip us ++ [(pv, t)])))
    (b : BodyOk P w K mg base κ k N qual st f fs) : FnR P w K mg base (L2.CX P w) (k + 1) f (conc K κ (fStar ps.length (fnF N.length (ps ++ [pv]).length fs))) := by
  have h := StX.fn_star (sp := conc K κ (fnF N.length (ps ++ [pv]).length fs)) (N := N) (ps := ps) (mg := mg) (base := base) (P := P) (w := w) (k := k) (CX := L2.CX P w) lk hcd S StX.cxUp hb fun A outer s H vs Q E hr h => by
    obtain ⟨t, d, l⟩ := b cdv A outer s H E hr
    exact ⟨t, d, body_of l h⟩
  intro A outer s H us vs Q E hr e0 r hsp
  exact h A outer s H us vs Q E hr e0 r (star_conc hsp)
end
end G
namespace G
open PySem PySem.Spec PyProof.Rows L2
def tNotX (K : PySem.W.Frag) (ta : TE) : TE := fun σ H Q => ta σ H fun x H1 => ∃ k, TruX K x H1 k ∧ Q (.bl (!k)) H1
section
variable {X : Cx} (K : PySem.W.Frag)
theorem call_isiN (h : X.K = K := by rfl) : CallR X (.builtin "isinstance") (rIsiH K) := by subst h; exact call_isiH
theorem call_tupleN (h : X.K = K := by rfl) : CallR X (.type "tuple") (rTupleG K) := by subst h; exact call_tupleG
theorem call_listN (h : X.K = K := by rfl) : CallR X (.type "list") (rListG K) := by subst h; exact call_listG
theorem call_dictN (hc : X.calm = true) (h : X.K = K := by rfl) : CallR X (.type "dict") (rDictG K) := by subst h; exact call_dictG hc
theorem call_boolN (h : X.K = K := by rfl) : CallR X (.type "bool") (rBoolG K) := by subst h; exact call_boolG
theorem cr_sumN (hc : X.calm = true) (h : X.K = K := by rfl) : CallR X (.builtin "sum") (rSum K) := by subst h; exact cr_sum hc
theorem cr_allN (hc : X.calm = true) (h : X.K = K := by rfl) : CallR X (.builtin "all") (rAll K) := by subst h; exact cr_all hc
theorem cr_anyN (hc : X.calm = true) (h : X.K = K := by rfl) : CallR X (.builtin "any") (rAny K) := by subst h; exact cr_any hc
theorem cr_minN (hc : X.calm = true) (h : X.K = K := by rfl) : CallR X (.builtin "min") (rMin K) := by subst h; exact cr_min hc
theorem cr_maxN (hc : X.calm = true) (h : X.K = K := by rfl) : CallR X (.builtin "max") (rMax K) := by subst h; exact cr_max hc
theorem cr_sortedN (h : X.K = K := by rfl) : CallR X (.builtin "sorted") (rSortedI K) := by subst h; exact cr_sortedI
theorem pe_notW {a : Expr} {ta : TE} {pos : Pos} (ha : PE X a ta) (h : X.K = K := by rfl) : PE X (.UnaryOp .Not a pos) (tNotX K ta) := by
  subst h
  refine ⟨fun pins s σ H Q I h => ?_⟩
  refine UnaryOp_ (thn (ha.run pins s σ H _ I h) fun v s1 ⟨x, H1, I1, r1, q1⟩ => ?_)
  obtain ⟨k, e, q1⟩ := q1
  exact not_of (thn (trux_ok pins s1 σ H1 x v (fun c H2 => Q (.bl (!c)) H2) I1 r1 ⟨k, e, q1⟩) fun c s2 ⟨H2, I2, q2⟩ => ⟨.bl (!c), H2, I2, rfl, q2⟩)
end
theorem units1 {k : Nat} {A : Around} (r : Room k A) : A.units + 1 < cLine := by have := r.un; omega
/-- not x, as a value -/
def fNotW (e : FE) : FE := fun δ M => (e δ M).bind fun x M1 => (truD x M1).bind fun b M2 => .ok (.bl (!b)) M2
structure ClmOk (P : Program) (w : World) (K : PySem.W.Frag) (mg : Str → Option Value) (base : Heap) (C : Addr) (nm : Str) (k : Nat) (sp : Sp) : Prop where
  ex : ∃ (mc : Value) (p g : Addr), ClX.CRead K C mc ∧ ClX.CMet K C mc nm p g ∧ FnR P w K mg base (L2.CX P w) k g sp
section
variable {X : Cx} {C : Addr} {k : Nat} {ps : List Str} {sp : Sp} {E : XK} {x m : Str} {p apos pos : Pos} {o e : Expr} {es : List Expr} {to : TE} {t : TA}
theorem pe_cc0 (M : CallOk X.prog X.w X.K X.mg X.base x k ps sp) (hx : Passes (L2.CX X.prog X.w) X E) (hr : Room k X.A) (hg : Gl X x := by rfl) (hdb : (x == ("__debug__" : Str)) = false := by decide) : PE X (.Call (.Name x p) [] [] pos) (tCall sp [] E tNil) := by
  obtain ⟨f, fd, hm, hk, hb, F⟩ := M.ex
  exact pe_call0 F hr hg hm hk hb .nil hx hdb
theorem pe_cmC {pl : Sem Bool} (M : ClmOk X.prog X.w X.K X.mg X.base C m k sp) (hr : Room k X.A) (hx : Passes (L2.CX X.prog X.w) X E) (ho : PE X o to) (ha : PA X (e :: es) t)
    (hst : starEach (e :: es) X.env = (false, eval e X.env) :: starEach es X.env := by rfl) (hpl : (backTo pos (starEach es X.env)).any (·.1) = false := by rfl)
    (ht : eval (.Call (.Attribute o m apos) (e :: es) [] pos) X.env = (do
      let ov ← eval o X.env
      standAt apos.atName
      let (f, first) ← holding [ov] (getMethod ov m pl)
      callWith pos f first (backTo pos (starEach (e :: es) X.env)) (backToKw pos (keywordEach [] X.env))) := by rfl) :
    PE X (.Call (.Attribute o m apos) (e :: es) [] pos) (ClX.tCMeth C sp E to t) := by
  obtain ⟨mc, p, g, h1, h2, F⟩ := M.ex
  exact ClX.pe_cmeth (pl := pl) ho h1 h2 F hr hx ha hst hpl ht
theorem pe_cmC0 {pl : Sem Bool} (M : ClmOk X.prog X.w X.K X.mg X.base C m k sp) (hr : Room k X.A) (hx : Passes (L2.CX X.prog X.w) X E) (ho : PE X o to)
    (ht : eval (.Call (.Attribute o m apos) [] [] pos) X.env = (do
      let ov ← eval o X.env
      standAt apos.atName
      let (f, first) ← holding [ov] (getMethod ov m pl)
      callWith pos f first (backTo pos (starEach [] X.env)) (backToKw pos (keywordEach [] X.env))) := by rfl) :
    PE X (.Call (.Attribute o m apos) [] [] pos) (ClX.tCMeth C sp E to tNil) := by
  obtain ⟨mc, pc, g, h1, h2, F⟩ := M.ex
  refine ⟨fun pins s σ H Q I h => ?_⟩
  refine PySem.W.methodCall_KW (pl := pl) (thn (ho.run pins s σ H _ I h) fun u s1 ⟨x, H1, I1, rx, ex, q⟩ => ?_) ht
  subst ex
  obtain rfl : u = Value.ref C := rx
  refine ClX.getmethcm_ok I1 h1 h2 fun s2 I2 => ?_
  exact PySem.W.callWith_M0 (K := X.K) (first := []) ⟨ClX.pin_at I2, I2.kIn⟩ h2.fi (ClX.run_cm (us := []) (vs := []) F hr hx I2 .nil q)
/-- e.f, a property that raises nothing -/
theorem pe_propN (c : Cls X.K C) (M : PropOk X.prog X.w X.K X.mg X.base C m k ps sp) (hr : Room (k + 1) X.A) (he : PE X o to) (hab : attributeBase o m X.env (eval o X.env) = eval o X.env := by rfl) :
    PE X (.Attribute o m pos) (tProp C sp [] E0 to) := pe_propC c M hr passL he hab
end
def fPropN (c : String) (f : FD) (o : FE) : FE := fun δ M => (o δ M).bind fun x M1 => match objOf c x M1 with
  | some _ => (match f [x] M1 with | .ok d M2 => .ok d M2 | _ => .stuck)
  | none => .stuck
section
variable {K : PySem.W.Frag} {κ : Kap} {E : EK} {ι ι' : List Addr} {F F' H H' : Hp} {M M' : AH} {c : String}
theorem le_notW {t : TE} {f : FE} (h : LE K κ E t f) : LE K κ E (tNotX K t) (fNotW f) := fun σ δ H M ι F Q hs hh p => by
  refine h σ δ H M ι F _ hs hh ((Post.bind (R := Rep K κ) p).mono Ext.refl ?_)
  rintro v H1 ⟨d, M1, ι1, F1, e1, hh1, r1, p1⟩
  obtain ⟨k, h1, d2, M2, ι2, F2, e2, h2, r2, p2⟩ := truD_at hh1 r1 (Post.bind (R := REq) p1)
  cases (show d2 = k from r2)
  exact ⟨k, h1, p2.here h2 (.bl _)⟩
theorem le_propN {g : FD} {to : TE} {fo : FE} (h : LE K κ E to fo) : LE K κ E (tProp (κ c) (conc K κ g) [] E0 to) (fPropN c g fo) := fun σ δ H M ι F Q hs hh p => by
  rw [w_Prop]
  refine h σ δ H M ι F _ hs hh ((Post.bind (R := Rep K κ) p).mono Ext.refl ?_)
  rintro v H1 ⟨d, M1, ι1, F1, e1, hh1, r1, p1⟩
  split at p1
  · rename_i q ho
    obtain ⟨ns, xs⟩ := q
    obtain ⟨a, dx, vs, rfl, h1, h2, h3⟩ := obj_at hh1 r1 ho
    refine ⟨a, dx, _, rfl, h1, [d], M1, ι1, F1, hh1, .cons r1 .nil, ?_⟩
    split at p1
    · rename_i e
      rw [e]
      exact p1
    · exact p1.elim
  · exact p1.elim
end
end G
namespace G
open PySem PySem.Spec PyProof.Rows L2
section
variable {P : Program} {w : World} {K : PySem.W.Frag} {mg : Str → Option Value} {base : Heap} {κ : Kap}
theorem fnD2 {x qual : Str} {st : Stmt} {f : Addr} {fd : FuncData} {N ps : List Str} {k : Nat} {fs : AS → AH → SRes} (F : Fun K x qual st f fd) (S : FnScope N ps (defScope st)) (b : BodyOk P w K mg base κ k N qual st f fs) :
    FnOk P w K mg base (L2.CX P w) (k + 1) f fd ps (conc K κ (fnK N.length ps.length fs)) :=
  F.okX S conc_lenK fun cdv A outer s H vs Q E hr h => by
    obtain ⟨t, d, l⟩ := b cdv A outer s H E hr
    exact ⟨t, d, body_ofK l h⟩
end
end G
namespace G
open PySem L2
/-! ### reckoning with the functions on data -/
theorem okOld_app (M xs : AH) : okOld M (M ++ xs) = true := by
  unfold okOld
  rw [List.all_eq_true]
  intro i hi
  have hi := List.mem_range.mp hi
  rw [List.getElem?_append_left hi, List.getElem?_eq_getElem hi]
  simp [AO.beq_refl]
theorem okOld_refl (M : AH) : okOld M M = true := by
  have := okOld_app M []
  rwa [List.append_nil] at this
theorem okOld_set {M : AH} {i : Nat} {o : AO} (hi : i < M.length) (h : AO.clo M.length o = true) : okOld M (M.set i o) = true := by
  unfold okOld
  rw [List.all_eq_true]
  intro j hj
  have hj := List.mem_range.mp hj
  rw [List.getElem?_eq_getElem hj]
  by_cases e : i = j
  · subst e
    rw [List.getElem?_set_self hi]
    simp [h]
  · rw [List.getElem?_set_ne e, List.getElem?_eq_getElem hj]
    simp [AO.beq_refl]
theorem frz_clo {M : AH} {n k : Nat} {d : D} (h : D.clo n d = true) : frz M n k d = some d := by
  unfold frz
  rw [if_pos h]
theorem frzL_clo {M : AH} {n k : Nat} : ∀ {ds : List D}, D.cloL n ds = true → frzL M n k ds = some ds
  | [], _ => by simp [frzL]
  | d :: ds, h => by
    simp only [D.cloL, Bool.and_eq_true] at h
    simp [frzL, frz_clo h.1, frzL_clo h.2]
theorem fin_same {M : AH} {d : D} (h : D.clo M.length d = true) : fin M (.ok d M) = .ok d M := by
  simp only [fin, okOld_refl, if_true, frz_clo h, List.take_length]
theorem fin_app {M xs : AH} {d : D} (h : D.clo M.length d = true) : fin M (.ok d (M ++ xs)) = .ok d M := by
  simp only [fin, okOld_app, if_true, frz_clo h, List.take_left]
theorem fin_set {M : AH} {d : D} {i : Nat} {o : AO} (hi : i < M.length) (ho : AO.clo M.length o = true) (h : D.clo M.length d = true) : fin M (.ok d (M.set i o)) = .ok d (M.set i o) := by
  have e : (M.set i o).take M.length = M.set i o := List.take_of_length_le (by simp)
  simp only [fin, okOld_set hi ho, if_true, frz_clo h, e]
/-- a new list is the answer -/
theorem fin_lst {M : AH} {xs : List D} (h : D.cloL M.length xs = true) : fin M (.ok (.ref M.length) (M ++ [.lst xs])) = .ok (.lst xs) M := by
  have : frz (M ++ [.lst xs]) M.length frzN (.ref M.length) = some (.lst xs) := by
    unfold frzN frz
    rw [if_neg (by simp [D.clo])]
    simp [frzL_clo h]
  simp only [fin, okOld_app, if_true, this, List.take_left]
@[simp] theorem clo_bl {n : Nat} {b : Bool} : D.clo n (.bl b) = true := by simp [D.clo]
@[simp] theorem clo_int {n : Nat} {b : Int} : D.clo n (.int b) = true := by simp [D.clo]
@[simp] theorem clo_str {n : Nat} {b : Str} : D.clo n (.str b) = true := by simp [D.clo]
@[simp] theorem clo_non {n : Nat} : D.clo n .non = true := by simp [D.clo]
@[simp] theorem clo_tup {n : Nat} {xs : List D} : D.clo n (.tup xs) = D.cloL n xs := by simp [D.clo]
@[simp] theorem clo_tuq {n : Nat} {xs : List D} : D.clo n (.tuq xs) = D.cloL n xs := by simp [D.clo]
@[simp] theorem clo_lst {n : Nat} {xs : List D} : D.clo n (.lst xs) = D.cloL n xs := by simp [D.clo]
@[simp] theorem clo_obj {n : Nat} {c : String} {ns : List String} {xs : List D} : D.clo n (.obj c ns xs) = D.cloL n xs := by simp [D.clo]
@[simp] theorem clo_dct {n : Nat} {ks : List Key} {xs : List D} : D.clo n (.dct ks xs) = D.cloL n xs := by simp [D.clo]
@[simp] theorem cloL_nil {n : Nat} : D.cloL n [] = true := by simp [D.cloL]
@[simp] theorem cloL_cons {n : Nat} {d : D} {ds : List D} : D.cloL n (d :: ds) = (D.clo n d && D.cloL n ds) := by simp [D.cloL]
theorem cloL_all {n : Nat} : ∀ {ds : List D}, (∀ d ∈ ds, D.clo n d = true) → D.cloL n ds = true
  | [], _ => by simp
  | d :: ds, h => by
    simp only [cloL_cons, Bool.and_eq_true]
    exact ⟨h d (List.mem_cons_self ..), cloL_all fun e he => h e (List.mem_cons_of_mem _ he)⟩
theorem bind_ok {α β : Type} {a : α} {M : AH} {k : α → AH → Res β} : (Res.ok a M).bind k = k a M := rfl
theorem thenS_ok {α : Type} {a : α} {M : AH} {δ : AS} {k : α → AH → SRes} : (Res.ok a M).thenS δ k = k a M := rfl
theorem asB_bl {b : Bool} {M : AH} : asB (.bl b) M = .ok b M := rfl
theorem truD_bl {b : Bool} {M : AH} : truD (.bl b) M = .ok b M := rfl
theorem truD_tup {xs : List D} {M : AH} : truD (.tup xs) M = .ok (!xs.isEmpty) M := rfl
theorem j_ii {i : Int} {M : AH} : gIsi [.int i, .ty "int"] M = .ok (.bl true) M := rfl
theorem j_ib {i : Int} {M : AH} : gIsi [.int i, .ty "bool"] M = .ok (.bl false) M := rfl
theorem j_ss {i : Str} {M : AH} : gIsi [.str i, .ty "str"] M = .ok (.bl true) M := rfl
theorem j_tt {i : List D} {M : AH} : gIsi [.tup i, .ty "tuple"] M = .ok (.bl true) M := rfl
/-- a comprehension that changes nothing -/
theorem lc_fm {chk : AH → Bool} {g : FG} {t : FT} {e : FE} {δ : AS} {M : AH} (y : D → Option D) (hc : chk M = true) : ∀ (xs acc : List D), acc.length + xs.length ≤ sizeLine →
    (∀ d ∈ xs, ∃ δ1, g d δ M = .nx δ1 M ∧ (match y d with | some v => t δ1 M = .ok true M ∧ e δ1 M = .ok v M | none => t δ1 M = .ok false M)) → fLcL chk g t e δ xs acc M = .ok (acc ++ xs.filterMap y) M
  | [], acc, _, _ => by simp [fLcL, hc]
  | d :: ds, acc, hl, h => by
    obtain ⟨δ1, h1, h2⟩ := h d (List.mem_cons_self ..)
    have hl' : acc.length < sizeLine := by simp only [List.length_cons] at hl; omega
    simp only [fLcL, hc, if_true, h1]
    cases hy : y d with
    | none =>
      rw [hy] at h2
      simp only at h2
      simp only [h2]
      rw [lc_fm y hc ds acc (by simp only [List.length_cons] at hl; omega) fun d hd => h d (List.mem_cons_of_mem _ hd), List.filterMap_cons, hy]
    | some v =>
      rw [hy] at h2
      simp only at h2
      simp only [h2.1, h2.2, hl', if_true]
      rw [lc_fm y hc ds (acc ++ [v]) (by simp only [List.length_cons, List.length_append, List.length_nil] at hl ⊢; omega) fun d hd => h d (List.mem_cons_of_mem _ hd), List.filterMap_cons, hy, List.append_assoc]
      rfl
theorem lc_map {chk : AH → Bool} {g : FG} {t : FT} {e : FE} {δ : AS} {M : AH} (y : D → D) (hc : chk M = true) (xs : List D) (hl : xs.length ≤ sizeLine)
    (h : ∀ d ∈ xs, ∃ δ1, g d δ M = .nx δ1 M ∧ t δ1 M = .ok true M ∧ e δ1 M = .ok (y d) M) : fLcL chk g t e δ xs [] M = .ok (xs.map y) M := by
  rw [lc_fm (fun d => some (y d)) hc xs [] (by simpa using hl) fun d hd => h d hd]
  have : List.filterMap (fun d => some (y d)) xs = xs.map y := by
    induction xs with
    | nil => rfl
    | cons a r ih => simp
  rw [this]
  rfl
/-- a loop, by what holds ahead of the rest -/
theorem for_ex {α : Type} {chk : AH → Bool} {g : FG} {b : FS} (f : α → D) (I : List α → AS → AH → Prop) (hc : ∀ r δ M, I r δ M → chk M = true)
    (hs : ∀ a r δ M, I (a :: r) δ M → ∃ δ1 M1 δ2 M2, g (f a) δ M = .nx δ1 M1 ∧ (b δ1 M1 = .nx δ2 M2 ∨ b δ1 M1 = .ct δ2 M2) ∧ I r δ2 M2) :
    ∀ (xs : List α) (δ : AS) (M : AH), I xs δ M → ∃ δ' M', fForL chk g b (xs.map f) δ M = .nx δ' M' ∧ I [] δ' M'
  | [], δ, M, h => ⟨δ, M, by simp [fForL, hc _ _ _ h], h⟩
  | a :: r, δ, M, h => by
    obtain ⟨δ1, M1, δ2, M2, h1, h2, h3⟩ := hs a r δ M h
    obtain ⟨δ', M', h4, h5⟩ := for_ex f I hc hs r δ2 M2 h3
    refine ⟨δ', M', ?_, h5⟩
    simp only [List.map_cons, fForL, hc _ _ _ h, if_true, h1, thenG]
    rcases h2 with h2 | h2
    · rw [h2]; exact h4
    · rw [h2]; exact h4
/-- .. which may be left by a return -/
theorem for_rt {α : Type} {chk : AH → Bool} {g : FG} {b : FS} (f : α → D) (I : List α → AS → AH → Prop) (R : D → AH → Prop) (hc : ∀ r δ M, I r δ M → chk M = true)
    (hs : ∀ a r δ M, I (a :: r) δ M → ∃ δ1 M1, g (f a) δ M = .nx δ1 M1 ∧ ((∃ δ2 M2, (b δ1 M1 = .nx δ2 M2 ∨ b δ1 M1 = .ct δ2 M2) ∧ I r δ2 M2) ∨ ∃ d M2, b δ1 M1 = .rt d M2 ∧ R d M2)) :
    ∀ (xs : List α) (δ : AS) (M : AH), I xs δ M → (∃ δ' M', fForL chk g b (xs.map f) δ M = .nx δ' M' ∧ I [] δ' M') ∨ ∃ d M', fForL chk g b (xs.map f) δ M = .rt d M' ∧ R d M'
  | [], δ, M, h => .inl ⟨δ, M, by simp [fForL, hc _ _ _ h], h⟩
  | a :: r, δ, M, h => by
    obtain ⟨δ1, M1, h1, h2⟩ := hs a r δ M h
    simp only [List.map_cons, fForL, hc _ _ _ h, if_true, h1, thenG]
    rcases h2 with ⟨δ2, M2, h2, h3⟩ | ⟨d, M2, h2, h3⟩
    · have := for_rt f I R hc hs r δ2 M2 h3
      rcases h2 with h2 | h2
      · rw [h2]; exact this
      · rw [h2]; exact this
    · rw [h2]
      exact .inr ⟨d, M2, rfl, h3⟩
theorem size600 {n : Nat} (h : n ≤ 600) : n ≤ sizeLine := Nat.le_trans h (by decide)
end G
namespace G
open PySem PySem.Spec PyProof.Rows L2
/-! ### try with any clauses: names, tuples of names, as or not -/
structure Hd where
  cs : List Value
  nm : Option Nat
  ts : Addr → Value → Option Addr → TS
def Hd.out (h : Hd) (D : Ends) : Ends := match h.nm with
  | none => D
  | some i => { nx := fun σ' H' => D.nx (σ'.set i none) H', rt := D.rt, bk := fun σ' H' => D.bk (σ'.set i none) H', ct := fun σ' H' => D.ct (σ'.set i none) H' }
def Hd.inn (h : Hd) (a : Addr) (σ : L2.St) : L2.St := match h.nm with
  | none => σ
  | some i => σ.set i (some (.ref a))
def wTry (K : PySem.W.Frag) (Wout : WX) (D : Ends) : List Hd → WX
  | [] => Wout
  | h :: r => fun cls d σ H => ∃ b, PySem.W.exmAny K cls h.cs = some b ∧ (b = true → ∀ a, H a = none → h.ts a cls d (h.out D) (h.inn a σ) H) ∧ (b = false → wTry K Wout D r cls d σ H)
inductive TestOk (X : Cx) : Expr → List Value → Prop
  | one {x : Str} {c : Value} {p : Pos} : Names X x c → TestOk X (.Name x p) [c]
  | two {x y : Str} {c e : Value} {p q tp : Pos} {kk : Nat} : Names X x c → Names X y e → TestOk X (.Tuple [.Name x p, .Name y q] kk tp) [c, e]
inductive HdsG (X : Cx) : List ExceptHandler → List Hd → Prop
  | nil : HdsG X [] []
  | no {t : Expr} {cs : List Value} {ts : Addr → Value → Option Addr → TS} {b₀ : Stmt} {suite : List Stmt} {pos' : Pos} {hds : List ExceptHandler} {l : List Hd} (ht : TestOk X t cs)
      (hsu : ∀ (a : Addr) (oe : Obj) (cls : Value) (d : Option Addr) (pn : List (Addr × Obj)), Zc cls d oe → (∃ vs, oe.data = .fields vs) → PSs (X.suite a ((a, oe) :: pn)) (b₀ :: suite) (ts a cls d)) (r : HdsG X hds l) :
      HdsG X (.ExceptHandler (some t) none (b₀ :: suite) pos' :: hds) (⟨cs, none, ts⟩ :: l)
  | as_ {t : Expr} {cs : List Value} {ts : Addr → Value → Option Addr → TS} {b₀ : Stmt} {suite : List Stmt} {pos' : Pos} {hds : List ExceptHandler} {l : List Hd} {n : Str} {i : Nat} (ht : TestOk X t cs) (hi : X.N[i]? = some n) (hln : X.env.kindOf n = some .local)
      (hsu : ∀ (a : Addr) (oe : Obj) (cls : Value) (d : Option Addr) (pn : List (Addr × Obj)), Zc cls d oe → (∃ vs, oe.data = .fields vs) → PSs (X.suite a ((a, oe) :: pn)) (b₀ :: suite) (ts a cls d)) (r : HdsG X hds l) :
      HdsG X (.ExceptHandler (some t) (some n) (b₀ :: suite) pos' :: hds) (⟨cs, some i, ts⟩ :: l)
theorem flying_push {base h : Heap} {l : List Env} {e : Addr} {Z : Obj → Prop} (f : HandSPX.FlyingZ base l e Z h) (o : Obj) : HandSPX.FlyingZ base l e Z (h.push o) := by
  obtain ⟨f1, f2, f3, oe, vs, T, oT, ts, h1, h2, g3, g4, h5, h6, h7, h8, h9⟩ := f
  have k : ∀ b u, h.get? b = some u → (h.push o).get? b = some u := fun b u q => Heap.get?_push_of_some _ q
  exact ⟨fun b u q => k b u (f1 b u q), f2, f3.of_keeps fun b u q _ => ⟨u, k b u q, rfl⟩, oe, vs, T, oT, ts, k _ _ h1, h2, g3, g4, h5, h6, k _ _ h7, h8, h9⟩
section
variable {X : Cx} {body : List Stmt} {h₀ : ExceptHandler} {hds : List ExceptHandler} {l : List Hd} {pos : Pos} {tb : WX → TS} {Wout : WX}
theorem test_ok {t : Expr} {cs : List Value} (ht : TestOk X t cs) {B : Heap} {a : Addr} {cls : Value} {d : Option Addr} {σ : L2.St} {H : Hp} {s : Shared} {pn : List (Addr × Obj)} {b : Bool} {E : Value → Shared → Prop} {Q : Bool → Shared → Prop} (hb : PySem.W.exmAny X.K cls cs = some b)
    (S : Inv (X.suite a pn) [] σ H s) (fl : HandSPX.FlyingZ B (X.env :: X.outer) a (Zc cls d) s.heap) (q : ∀ h', HandSPX.FlyingZ B (X.env :: X.outer) a (Zc cls d) h' → s.heap.UpToSlots h' → Q b { s with heap := h' }) :
    wpAny (model X.prog X.w) (X.A.mark (some (.ref a))) (eval t X.env) (fun c s1 => wpAny (model X.prog X.w) (X.A.mark (some (.ref a))) (excMatches (.ref a) c) Q E s1) E s := by
  have test : ∀ {x : Str} {c : Value} {np : Pos} {Q : Value → Shared → Prop} {E : Value → Shared → Prop}, Names X x c → Q c s → wpAny (model X.prog X.w) (X.A.mark (some (.ref a))) (eval (.Name x np) X.env) Q E s := fun {x c np Q E} hc q => by
    obtain ⟨hg, hdbg, hm | ⟨hm, hv, hnn⟩⟩ := hc
    · exact ld_glob (X := X.suite a pn) S hg hm q hdbg
    · exact ld_blt (X := X.suite a pn) S hg hm hv q hnn hdbg
  obtain ⟨oe, vs, hE, hZ, hD⟩ : ∃ oe vs, s.heap.get? a = some oe ∧ Zc cls d oe ∧ oe.data = .fields vs := by
    obtain ⟨_, _, _, oe, vs, _, _, _, h1, h2, g3, _⟩ := fl
    exact ⟨oe, vs, h1, h2, g3⟩
  have LT : PySem.W.Looks (model X.prog X.w) s.heap (typeOf (.ref a)) cls := fun A Q E s k q => wpAny_typeOf_ref (k _ _ hE) (by rw [hZ.1]; exact q)
  cases ht with
  | @one x c p hc =>
    have h1 : ∃ b1, PySem.W.exmOne X.K cls c = some b1 ∧ b = b1 := by
      obtain ⟨b1, d1, e1, e2, e3⟩ := PySem.W.exmAny_cons hb
      cases (show some false = some d1 from e2)
      exact ⟨b1, e1, by rw [e3, Bool.or_false]⟩
    obtain ⟨b1, h1, rfl⟩ := h1
    refine test hc ((PySem.W.exm_one (M := model X.prog X.w) S.kIn LT h1).here ?_)
    exact q s.heap fl (Heap.UpToSlots.refl _)
  | @two x y c e p q2 tp kk hc he2 =>
    refine wpAny_Tuple ?_
    refine wpAny_items_cons (test hc ?_)
    refine wpAny_items_cons (test he2 ?_)
    refine wpAny_items_nil ⟨by size_fits, ?_⟩
    have kp : ∀ q o, s.heap.get? q = some o → (s.heap.push { cls := .type "tuple", data := .seq [c, e].toArray }).get? q = some o := fun _ _ z => Heap.get?_push_of_some _ z
    refine (PySem.W.exm_tup2 (S.kIn.keeps kp) (LT.keeps kp) (Heap.get?_push_size s.heap rfl) hb).here ?_
    exact q _ (flying_push fl _) (Heap.UpToSlots.of_keeps kp)
theorem ps_tryG (hs : X.stack = X.env :: X.outer) (hf : X.env.frame = some X.env.locals) (hN : X.N.Nodup) (tk : Takes X Wout)
    (hb : ∀ (W : WX) (pn : List (Addr × Obj)) (xe : Value → Shared → Prop), Takes (X.tr pn xe) W → PassesOwn (model X.prog X.w) X.A X.env xe → PSs (X.tr pn xe) body (tb W))
    (hh : HdsG X (h₀ :: hds) l) : PS X (.Try body (h₀ :: hds) [] [] pos) (fun D σ H => tb (wTry X.K Wout D l) D σ H) := by
  refine ⟨fun pins s σ H D I h => ?_⟩
  have ok := I.ok
  have hfr : X.A.frames = some (X.env :: X.outer) := by rw [ok.frames, hs]
  refine wpAny_Try_except ?_
  refine wpAny_mono ((hb (wTry X.K Wout D l) (X.pn ++ pins) (fun e s₁ => wpAny (model X.prog X.w) X.A (noteFrame e X.env) (fun _ s₂ => wpAny (model X.prog X.w) X.A (setFlight e none) (fun _ s₃ =>
    wpAny (model X.prog X.w) X.A (handleBy e X.env (h₀ :: hds)) (SP X pins D) X.xe s₃) X.xe s₂) X.xe s₁) (fun u s' flight => ?_) PassesOwn.looking).run [] s σ H D (I.toTry _) h) (fun f s1 fin6 => ?_) (fun e s1 hE => hE)
  · -- the catch
    obtain ⟨a, B, sI, pinsE, σ', H', cls, d, rfl, J', nobase, up, flew, na, os, ag, w⟩ := flight
    have J : Inv X pins σ' H' sI := J'.ofTry ok
    have sky' : Sky B (X.env :: X.outer) a (Zc cls d) X.env.locals s'.heap := by rw [← hs]; exact flew
    show wpAny (model X.prog X.w) X.A (noteFrame (.ref a) X.env) _ _ _
    refine Sky.land Zc.steady hfr hf sky' fun g3 fly3 upg => ?_
    have offStack : ∀ {h : Heap} {o : Obj} {vs : Array Value}, h.FunFrames B (X.env :: X.outer) → h.get? a = some o → o.data = .fields vs → a ∉ frs (X.env :: X.outer) := fun {h o vs} ff e dd hm => by
      obtain ⟨_, o', e', hnf⟩ := ff.mem hm
      rw [e] at e'; cases e'
      exact hnf _ dd
    -- at each heap on the ground
    have at_ : ∀ {h : Heap}, HandSPX.FlyingZ B (X.env :: X.outer) a (Zc cls d) h → sI.heap.UpToSlots h → ∃ oe, Zc cls d oe ∧ (∃ vs, oe.data = .fields vs) ∧ Inv (X.suite a ((a, oe) :: (X.pn ++ pins))) [] σ' H' { s' with heap := h } := fun {h} fl u => by
      have Jg : Inv X pins σ' H' { s' with heap := h } := J.landed nobase fl.1 u os ag
      obtain ⟨_, _, ff, oe, vs, _, _, _, h1, h2, hD, _⟩ := fl
      have offS := offStack ff h1 hD
      have offL : a ≠ X.env.locals := fun z => offS (List.mem_filterMap.mpr ⟨X.env, List.mem_cons_self, by rw [hf, z]⟩)
      have offF : a ∉ X.fs := fun hm => by
        obtain ⟨e, hE, q⟩ := List.mem_filterMap.mp hm
        exact offS (List.mem_filterMap.mpr ⟨e, List.mem_cons_of_mem _ hE, q⟩)
      exact ⟨oe, h2, ⟨vs, hD⟩, Jg.suite h1 hD na offL offF⟩
    have go : ∀ {hds' : List ExceptHandler} {l' : List Hd}, HdsG X hds' l' → ∀ (h : Heap), HandSPX.FlyingZ B (X.env :: X.outer) a (Zc cls d) h → sI.heap.UpToSlots h → wTry X.K Wout D l' cls d σ' H' →
        wpAny (model X.prog X.w) X.A (handleBy (.ref a) X.env hds') (SP X pins D) X.xe { s' with heap := h } := by
      intro hds' l' hk
      induction hk with
      | nil =>
        intro h fl u w
        refine wpAny_handleBy_nil ?_
        obtain ⟨k1, k2, k3, oe, vs, T, oT, ts', hE, hZ, hD, h1, hr⟩ := id fl
        unfold PySem.passOn
        refine wpAny_bind (wpAny_field hE hD h1 ?_)
        rw [if_neg (show ¬ ((Value.ref T == Value.none) = true) from by simp)]
        have goesOn : wpAny (model X.prog X.w) X.A (setFlight (.ref a) X.env.frame) (fun _ s4 => wpAny (model X.prog X.w) X.A (throw (.ref a) : Sem Flow) (SP X pins D) X.xe s4) X.xe { s' with heap := h } := by
          rw [hf]
          refine HandSPX.setFlight_upZ fl fun g4 fly5 uph => wpAny_throw (tk _ _ ?_)
          exact ⟨a, B, sI, pins, σ', H', cls, d, rfl, J, nobase, u.trans uph, .inr (.inr (by rw [hs]; exact fly5)), na, os, ag, w⟩
        first
          | exact wpAny_bind (wpAny_pure (wpAny_bind goesOn))
          | exact wpAny_bind goesOn
      | @no t cs ts b₀ suite pos' hds2 l2 ht hsu r ih =>
        intro h fl u w
        obtain ⟨b, hit, yes, no⟩ := w
        obtain ⟨oe, _, _, Sg⟩ := at_ fl u
        refine wpAny_handleBy_cons (codeAny_handlers_test ?_) (by intro q; cases q)
        refine test_ok ht hit Sg fl fun h' fl' up' => ?_
        have u' := u.trans up'
        cases b with
        | true =>
          refine codeAny_handlers_suite ?_
          refine HandSPX.lands_againZ fl' fun g4 fly4 uph => ?_
          obtain ⟨oh, zh, dh, Sh⟩ := at_ fly4 (u'.trans uph)
          refine wpAny_mono ((hsu a oh cls d (X.pn ++ pins) zh dh).run [] _ _ H' _ Sh (yes rfl a na)) (fun f tJ fin6 => ?_) (fun _ _ z => False.elim z)
          cases f with
          | next =>
            obtain ⟨σj, Hj, Sj, wj⟩ := fin6
            exact ⟨_, _, Sj.unsuite ok, wj⟩
          | brk =>
            obtain ⟨σj, Hj, Sj, wj⟩ := fin6
            exact ⟨_, _, Sj.unsuite ok, wj⟩
          | cont =>
            obtain ⟨σj, Hj, Sj, wj⟩ := fin6
            exact ⟨_, _, Sj.unsuite ok, wj⟩
          | ret u =>
            obtain ⟨vj, σj, Hj, Sj, rj, wj⟩ := fin6
            exact ⟨_, _, _, Sj.unsuite ok, rj, wj⟩
        | false =>
          show wpAny _ X.A (handleBy (.ref a) X.env hds2) _ _ _
          exact ih h' fl' u' (no rfl)
      | @as_ t cs ts b₀ suite pos' hds2 l2 n i ht hi hln hsu r ih =>
        intro h fl u w
        obtain ⟨b, hit, yes, no⟩ := w
        obtain ⟨oe, _, _, Sg⟩ := at_ fl u
        refine wpAny_handleBy_cons (codeAny_handlers_test ?_) (by intro q; cases q)
        refine test_ok ht hit Sg fl fun h' fl' up' => ?_
        have u' := u.trans up'
        cases b with
        | true =>
          refine codeAny_handlers_suite_as ?_
          refine HandSPX.lands_againZ fl' fun g4 fly4 uph => ?_
          obtain ⟨oh, zh, dh, Sh⟩ := at_ fly4 (u'.trans uph)
          refine store_ok (X := X.suite a ((a, oh) :: (X.pn ++ pins))) (v := .ref a) Sh hN hi (.inl hln) rfl (fun tI Si => ?_) (.inr hln)
          refine wpAny_mono ((hsu a oh cls d (X.pn ++ pins) zh dh).run [] tI _ H' _ Si (yes rfl a na)) (fun f tJ fin6 => ?_) (fun _ _ z => False.elim z)
          have left_ : ∀ {σj : L2.St} {Hj : Hp} {Q : Shared → Prop}, Inv (X.suite a ((a, oh) :: (X.pn ++ pins))) [] σj Hj tJ → (∀ tK, Inv X pins (σj.set i none) Hj tK → Q tK) →
              wpAny (model X.prog X.w) X.A (do bindName X.env n .none; unbindBehindTheSuite X.env n pos') (fun _ tK => Q tK) X.xe tJ := fun {σj Hj Q} Sj hq => gone_ok (Sj.unsuite ok) hN hi hln hq
          cases f with
          | next =>
            obtain ⟨σj, Hj, Sj, wj⟩ := fin6
            exact left_ Sj fun tK Jk => ⟨_, _, Jk, wj⟩
          | brk =>
            obtain ⟨σj, Hj, Sj, wj⟩ := fin6
            exact left_ Sj fun tK Jk => ⟨_, _, Jk, wj⟩
          | cont =>
            obtain ⟨σj, Hj, Sj, wj⟩ := fin6
            exact left_ Sj fun tK Jk => ⟨_, _, Jk, wj⟩
          | ret u =>
            obtain ⟨vj, σj, Hj, Sj, rj, wj⟩ := fin6
            exact left_ Sj fun tK Jk => ⟨_, _, _, Jk, rj, wj⟩
        | false =>
          show wpAny _ X.A (handleBy (.ref a) X.env hds2) _ _ _
          exact ih h' fl' u' (no rfl)
    exact go hh g3 fly3 (up.trans upg) w
  · cases f with
    | next =>
      obtain ⟨σ', H', J', q⟩ := fin6
      exact wpAny_execs_nil ⟨σ', H', J'.ofTry ok, q⟩
    | brk =>
      obtain ⟨σ', H', J', q⟩ := fin6
      exact ⟨σ', H', J'.ofTry ok, q⟩
    | cont =>
      obtain ⟨σ', H', J', q⟩ := fin6
      exact ⟨σ', H', J'.ofTry ok, q⟩
    | ret u =>
      obtain ⟨v, σ', H', J', r, q⟩ := fin6
      exact ⟨v, σ', H', J'.ofTry ok, r, q⟩
end
end G
namespace G
open PySem PySem.Spec PyProof.Rows L2
/-! ### try, told of data -/
abbrev Pay := Option (List String × List D)
structure HF where
  tk : String → Option Bool
  nm : Option Nat
  fs : String → Pay → FS
def clr (i : Nat) : SRes → SRes
  | .nx δ M => .nx (δ.set i none) M
  | .bk δ M => .bk (δ.set i none) M
  | .ct δ M => .ct (δ.set i none) M
  | .rt d M => .rt d M
  | _ => .stuck
def noExc : SRes → SRes
  | .exc _ _ _ _ => .stuck
  | r => r
def runHd : List HF → String → Pay → AS → AH → SRes
  | [], c, p, δ, M => .exc c p δ M
  | h :: r, c, p, δ, M => match h.tk c with
    | some true => (match h.nm with
      | none => noExc (h.fs c p δ M)
      | some i => if i < δ.length then clr i (h.fs c p (δ.set i none) M) else .stuck)
    | some false => runHd r c p δ M
    | none => .stuck
def fTry (b : FS) (l : List HF) : FS := fun δ M => match b δ M with
  | .exc c p δ' M' => runHd l c p δ' M'
  | r => r
/-- a field of the exception in hand, of the class c0 -/
def fXf (c0 f c : String) (p : Pay) : FE := fun _ M => if c = c0 then (match p with
  | some (ns, ds) => (match look f ns ds with | some d => .ok d M | none => .stuck)
  | none => .stuck) else .stuck
/-- an error without fields is raised -/
def fRaiseN (c : String) : FS := fun δ M => .exc c none δ M
section
variable (K : PySem.W.Frag) (κ : Kap)
def PX (ι : List Addr) (F H : Hp) (d : Option Addr) : Pay → Prop
  | none => True
  | some (ns, ds) => ∃ dd vs, d = some dd ∧ ns.length = vs.length ∧ RepL K κ ι F ds vs ∧ H dd = some (.xd ((ns.map Str.ofString).zip vs)) ∧ dd ∉ ι
end
section
variable {K : PySem.W.Frag} {κ : Kap} {ι ι' : List Addr} {F F' H H' : Hp} {M M' : AH}
/-- what is neither ours to change nor to lock stays -/
theorem Ext.stays (e : Ext ι F H ι' F' H') {a : Addr} {o : HO} (h : H a = some o) (n : a ∉ ι) (l : ¬ Lk o) (t : ∀ ps, o ≠ .tbl ps) : H' a = some o ∧ a ∉ ι' :=
  ⟨(e.frame a o h (.inl n) t).elim id fun q => (l q.1).elim, fun z => (e.nι a z).elim n fun q => q.no h t⟩
theorem PX.mono {d : Option Addr} {p : Pay} (e : Ext ι F H ι' F' H') (h : PX K κ ι F H d p) : PX K κ ι' F' H' d p := by
  cases p with
  | none => trivial
  | some p =>
    obtain ⟨dd, vs, q, hl, r, hH, hn⟩ := h
    obtain ⟨h1, h2⟩ := e.stays hH hn (fun z => z) (fun _ z => by cases z)
    exact ⟨dd, vs, q, hl, r.ext e, h1, h2⟩
/-- what else is known of the names -/
structure Ch where
  χ : List Addr → L2.St → Hp → Hp → Prop
  mono : ∀ ι ι' σ F F' H H', Ext ι F H ι' F' H' → χ ι σ F H → χ ι' σ F' H'
def Ch.t : Ch := ⟨fun _ _ _ _ => True, fun _ _ _ _ _ _ _ _ _ => trivial⟩
def Ch.FreeAt (c : Ch) (j : Nat) : Prop := ∀ ι σ F H v, c.χ ι σ F H → c.χ ι (σ.set j v) F H
theorem Ch.t_free {j : Nat} : Ch.t.FreeAt j := fun _ _ _ _ _ _ => trivial
def EK.c (E : L2.St → XK) (c : Ch) : EK := ⟨E, c.χ, c.mono⟩
/-- within a suite: the exception a stands in the slot, its dict is known -/
def EK.xc (K : PySem.W.Frag) (κ : Kap) (c0 : Ch) (nm : Option Nat) (a : Addr) (cls : Value) (d : Option Addr) (c : String) (p : Pay) : EK :=
  ⟨fun _ _ _ _ => False, fun ι σ F H => c0.χ ι σ F H ∧ (∀ i, nm = some i → σ[i]? = some (some (.ref a))) ∧ cls = .ref (κ c) ∧ PX K κ ι F H d p, fun ι ι' σ F F' H H' e h => ⟨c0.mono _ _ _ _ _ _ _ e h.1, h.2.1, h.2.2.1, h.2.2.2.mono e⟩⟩
def EK.wx (W : WX) (c0 : Ch) : EK := EK.c (fun σ cls d H => W cls d σ H) c0
def EK.FreeAt (E : EK) (j : Nat) : Prop := ∀ ι σ F H v, E.χ ι σ F H → E.χ ι (σ.set j v) F H
theorem RelS.setAt {E : EK} {δ : AS} {σ : L2.St} (h : RelS K κ E ι F H δ σ) {i : Nat} (hf : E.FreeAt i) {d : D} {v : V} (r : Rep K κ ι F d v) : RelS K κ E ι F H (δ.set i (some d)) (σ.set i (some v)) := by
  have h0 : RelS K κ (EK.of fun _ _ _ => False) ι F H δ σ := ⟨h.len, h.pl, trivial⟩
  have h1 := h0.set free_of r i
  exact ⟨h1.len, h1.pl, hf _ _ _ _ _ h.chi⟩
theorem lg_nameAt {E : EK} {i : Nat} (hE : E.FreeAt i) : LG K κ E (gName i) (fgName i) := fun v d σ δ H M ι F T hs hh r p => p _ _ _ _ Ext.refl hh (hs.setAt hE r)
theorem xc_free {nm : Option Nat} {a : Addr} {cls : Value} {d : Option Addr} {c : String} {p : Pay} {j : Nat} {c0 : Ch} (h0 : c0.FreeAt j) (h : nm ≠ some j) : (EK.xc K κ c0 nm a cls d c p).FreeAt j := fun ι σ F H v x => ⟨h0 _ _ _ _ _ x.1, fun i hi => by
  rw [List.getElem?_set_ne (fun z => h (by rw [hi, z]))]; exact x.2.1 i hi, x.2.2⟩
theorem le_xf {c0x : Ch} {a : Addr} {cls : Value} {d : Option Addr} {c0 f c : String} {p : Pay} {i : Nat} {te : TE} (ht : te = tVar i) : LE K κ (EK.xc K κ c0x (some i) a cls d c p) (tXf a cls d (κ c0) (Str.ofString f) te) (fXf c0 f c p) := fun σ δ H M ι F Q hs hh q => by
  subst ht
  obtain ⟨_, h1, h2, h3⟩ := hs.chi
  unfold fXf at q
  split at q
  · rename_i hc
    subst hc
    refine ⟨_, h1 i rfl, rfl, h2, ?_⟩
    split at q
    · rename_i ns ds
      obtain ⟨dd, vs, e, hl, r, hF, _⟩ := h3
      split at q
      · rename_i x hx
        obtain ⟨v, hv, rv⟩ := look_rep r hx
        exact ⟨dd, _, v, e, hF, hv, q.here hh rv⟩
      · exact q.elim
    · exact q.elim
  · exact q.elim
/-- a clause's suite, lifted -/
structure HdLift (K : PySem.W.Frag) (κ : Kap) (c0 : Ch) (h : Hd) (f : HF) : Prop where
  nm : h.nm = f.nm
  tk : ∀ c b, f.tk c = some b → PySem.W.exmAny K (.ref (κ c)) h.cs = some b
  fr : ∀ i, h.nm = some i → c0.FreeAt i
  su : ∀ a cls d c p, LS K κ (EK.xc K κ c0 h.nm a cls d c p) (h.ts a cls d) (f.fs c p)
inductive HdsLift (K : PySem.W.Frag) (κ : Kap) (c0 : Ch) : List Hd → List HF → Prop
  | nil : HdsLift K κ c0 [] []
  | cons {h : Hd} {f : HF} {hs : List Hd} {fs : List HF} : HdLift K κ c0 h f → HdsLift K κ c0 hs fs → HdsLift K κ c0 (h :: hs) (f :: fs)
theorem clr_post {r : SRes} {T : Ends} {E : XK} {c0 : Ch} {h : Hd} {i : Nat} {a : Addr} {cls : Value} {d : Option Addr} {c : String} {p : Pay} (hi : h.nm = some i) (fr : c0.FreeAt i) (q : SPost K κ ι F H (clr i r) T (EK.c (fun _ => E) c0)) : SPost K κ ι F H r (h.out T) (EK.xc K κ c0 h.nm a cls d c p) := by
  have rel : ∀ {ι : List Addr} {F H : Hp} {δ : AS} {σ : L2.St}, RelS K κ (EK.xc K κ c0 h.nm a cls d c p) ι F H δ σ → RelS K κ (EK.c (fun _ => E) c0) ι F H (δ.set i none) (σ.set i none) := fun {ι F H δ σ} s => by
    refine ⟨by simp [s.len], fun j x z => ?_, fr _ _ _ _ _ s.chi.1⟩
    by_cases hj : i = j
    · subst hj
      rw [List.getElem?_set_self'] at z
      cases q : δ[i]? with
      | none => rw [q] at z; cases z
      | some _ => rw [q] at z; cases z
    · rw [List.getElem?_set_ne hj] at z ⊢
      exact s.pl j x z
  have ho : h.out T = { nx := fun σ' H' => T.nx (σ'.set i none) H', rt := T.rt, bk := fun σ' H' => T.bk (σ'.set i none) H', ct := fun σ' H' => T.ct (σ'.set i none) H' } := by
    unfold Hd.out
    rw [hi]
  rw [ho]
  cases r with
  | nx δ M1 => exact fun σ' H' ι' F' e h s => q _ H' ι' F' e h (rel s)
  | bk δ M1 => exact fun σ' H' ι' F' e h s => q _ H' ι' F' e h (rel s)
  | ct δ M1 => exact fun σ' H' ι' F' e h s => q _ H' ι' F' e h (rel s)
  | rt x M1 => exact fun v H' ι' F' e h s => q v H' ι' F' e h s
  | exc c q2 δ M1 => exact q.elim
  | stuck => exact q.elim
theorem noExc_post {r : SRes} {T : Ends} {E : XK} {c0 : Ch} {h : Hd} {a : Addr} {cls : Value} {d : Option Addr} {c : String} {p : Pay} (hi : h.nm = none) (q : SPost K κ ι F H (noExc r) T (EK.c (fun _ => E) c0)) : SPost K κ ι F H r (h.out T) (EK.xc K κ c0 h.nm a cls d c p) := by
  have rel : ∀ {ι : List Addr} {F H : Hp} {δ : AS} {σ : L2.St}, RelS K κ (EK.xc K κ c0 h.nm a cls d c p) ι F H δ σ → RelS K κ (EK.c (fun _ => E) c0) ι F H δ σ := fun s => ⟨s.len, s.pl, s.chi.1⟩
  have ho : h.out T = T := by
    unfold Hd.out
    rw [hi]
  rw [ho]
  cases r with
  | nx δ M1 => exact fun σ' H' ι' F' e h s => q _ H' ι' F' e h (rel s)
  | bk δ M1 => exact fun σ' H' ι' F' e h s => q _ H' ι' F' e h (rel s)
  | ct δ M1 => exact fun σ' H' ι' F' e h s => q _ H' ι' F' e h (rel s)
  | rt x M1 => exact fun v H' ι' F' e h s => q v H' ι' F' e h s
  | exc c q2 δ M1 => exact q.elim
  | stuck => exact q.elim
theorem ls_tryC {E1 : XK} {c0 : Ch} {tb : WX → TS} {fb : FS} {l : List Hd} {lf : List HF} (hb : ∀ W : WX, LS K κ (EK.wx W c0) (tb W) fb) (hl : HdsLift K κ c0 l lf) :
    LS K κ (EK.c (fun _ => E1) c0) (fun D σ H => tb (wTry K (fun cls d _ H => E1 cls d H) D l) D σ H) (fTry fb lf) := fun σ δ H M ι F T hs hh p => by
  refine hb _ σ δ H M ι F T ⟨hs.len, hs.pl, hs.chi⟩ hh ?_
  unfold fTry at p
  have wk : ∀ {W : WX} {ι : List Addr} {F H : Hp} {δ : AS} {σ : L2.St}, RelS K κ (EK.wx W c0) ι F H δ σ → RelS K κ (EK.c (fun _ => E1) c0) ι F H δ σ := fun s => ⟨s.len, s.pl, s.chi⟩
  -- an exception with its payload
  have main : ∀ {l : List Hd} {lf : List HF}, HdsLift K κ c0 l lf → ∀ {c : String} {q : Pay} {δ' : AS} {M' : AH} {σ' : L2.St} {H' : Hp} {ι' : List Addr} {F' : Hp} (dd : Option Addr), Ext ι F H ι' F' H' → RelS K κ (EK.c (fun _ => E1) c0) ι' F' H' δ' σ' → RelH K κ ι' F' H' M' →
      PX K κ ι' F' H' dd q → SPost K κ ι F H (runHd lf c q δ' M') T (EK.c (fun _ => E1) c0) → (SPost K κ ι F H (.exc c q δ' M') T (EK.c (fun _ => E1) c0) → E1 (.ref (κ c)) dd H') → wTry K (fun cls d _ H => E1 cls d H) T l (.ref (κ c)) dd σ' H' := by
    intro l lf hl
    induction hl with
    | nil => exact fun dd _ hs hh px p k => k p
    | @cons h f hs' fs' hL _ ih =>
      intro c q δ' M' σ' H' ι' F' dd ee hs hh px p k
      simp only [runHd] at p
      cases ht : f.tk c with
      | none => rw [ht] at p; exact p.elim
      | some b =>
        rw [ht] at p
        refine ⟨b, hL.tk c b ht, fun hb a ha => ?_, fun hb => ?_⟩
        · subst hb
          simp only at p
          cases hn : f.nm with
          | none =>
            rw [hn] at p
            simp only at p
            have hn' : h.nm = none := hL.nm.trans hn
            have hi : h.inn a σ' = σ' := by unfold Hd.inn; rw [hn']
            rw [hi]
            refine hL.su a _ dd c q σ' δ' H' M' ι' F' (h.out T) ⟨hs.len, hs.pl, ⟨hs.chi, (fun i z => by rw [hn'] at z; cases z), rfl, px⟩⟩ hh ?_
            exact noExc_post hn' (SPost.mono ee p)
          | some i =>
            rw [hn] at p
            simp only at p
            have hn' : h.nm = some i := hL.nm.trans hn
            have hi : h.inn a σ' = σ'.set i (some (.ref a)) := by unfold Hd.inn; rw [hn']
            rw [hi]
            split at p
            · rename_i hlt
              rw [hs.len] at hlt
              refine hL.su a _ dd c q (σ'.set i (some (.ref a))) (δ'.set i none) H' M' ι' F' (h.out T) ⟨by simp [hs.len], (fun j x z => ?_), ⟨hL.fr i hn' _ _ _ _ _ hs.chi, (fun j z => ?_), rfl, px⟩⟩ hh ?_
              · by_cases hj : i = j
                · subst hj
                  rw [List.getElem?_set_self'] at z
                  cases q : δ'[i]? with
                  | none => rw [q] at z; cases z
                  | some _ => rw [q] at z; cases z
                · rw [List.getElem?_set_ne hj] at z ⊢
                  exact hs.pl j x z
              · rw [hn'] at z
                cases z
                rw [List.getElem?_set_self hlt]
              · exact clr_post hn' (hL.fr i hn') (SPost.mono ee p)
            · exact p.elim
        · subst hb
          simp only at p
          exact ih dd ee hs hh px p k
  revert p
  generalize fb δ M = r
  intro p
  cases r with
  | nx δ M1 => exact fun σ' H' ι' F' e h s => p _ H' ι' F' e h (wk s)
  | bk δ M1 => exact fun σ' H' ι' F' e h s => p _ H' ι' F' e h (wk s)
  | ct δ M1 => exact fun σ' H' ι' F' e h s => p _ H' ι' F' e h (wk s)
  | rt x M1 => exact fun v H' ι' F' e h s => p v H' ι' F' e h s
  | exc c q2 δ M1 =>
    cases q2 with
    | none => exact fun σ' H' ι' F' e h s => main hl (q := none) none e (wk s) h (show PX K κ ι' F' H' none none from trivial) p fun z => z σ' H' ι' F' e h (wk s)
    | some q2 =>
      obtain ⟨ns, ds⟩ := q2
      intro σ' x H' ι' F' vs nx e h s hlen rl hx
      have hn : x ∉ ι' := fun z => by
        obtain ⟨_, _, _, _, _, q, r⟩ := h.taken z
        rw [hx] at q
        cases q
        cases r
      exact main hl (q := some (ns, ds)) (some x) e (wk s) h ⟨x, vs, rfl, hlen, rl, hx, hn⟩ p fun z => z σ' x H' ι' F' vs nx e h (wk s) hlen rl hx
  | stuck => exact p.elim
theorem ls_try {E1 : XK} {tb : WX → TS} {fb : FS} {l : List Hd} {lf : List HF} (hb : ∀ W : WX, LS K κ (EK.wx W Ch.t) (tb W) fb) (hl : HdsLift K κ Ch.t l lf) :
    LS K κ (EK.of E1) (fun D σ H => tb (wTry K (fun cls d _ H => E1 cls d H) D l) D σ H) (fTry fb lf) := ls_tryC hb hl
/-! errors without fields -/
structure BareOk (K : PySem.W.Frag) (mg : Str → Option Value) (x : Str) (C : Addr) : Prop where
  gC : mg x = some (.ref C)
  kC : PySem.W.keepIn K (.ref C) = true
  bP : PySem.W.subIn K (.ref C) (.type "BaseException") = some true
  tP : PySem.W.typeIn K (.ref C) = some (.type "type")
  q : PySem.W.excIn K C [.type "ValueError", .type "Exception", .type "BaseException", .type "object"] "ValueError.__new__" = true
def tRaiseN (C : Addr) (W : WX) : TS := fun _ σ H => W (.ref C) none σ H
theorem ps_raiseN {X : Cx} {x m : Str} {C : Addr} {W : WX} {j : Nat} {p p2 pos pos2 : Pos} (R : BareOk X.K X.mg x C) (tk : Takes X W) (hc : X.calm = true := by rfl) (hg : Gl X x := by rfl) (hdb : (x == ("__debug__" : Str)) = false := by decide) :
    PS X (.Raise (some (.Call (.Name x p) [.Constant (.str m) j p2] [] pos)) none pos2) (tRaiseN C W) :=
  ps_raise hc tk (pmk_own PySem.F.excBase_ValueError R.q R.gC R.kC (raises_own R.bP R.tP) hg hdb)
theorem ls_raiseN {E : EK} {c : String} {W : WX} (hW : ∀ σ cls d H, E.E σ cls d H → W cls d σ H) : LS K κ E (tRaiseN (κ c) W) (fRaiseN c) := fun σ δ H M ι F T hs hh p => hW _ _ _ _ (p σ H ι F Ext.refl hh hs)
/-! calls in a try's body: the wish hangs on the names -/
theorem le_callW {W : WX} {c0 : Ch} {f : FD} {t : TA} {fa : FA} (h : LA K κ (EK.wx W c0) t fa) : LE K κ (EK.wx W c0) (tCallS (conc K κ f) (fun σ cls d H => W cls d σ H) t) (fCall f fa) := le_callS (E := EK.wx W c0) h
end
end G
namespace G
open PySem PySem.Spec PyProof.Rows L2 LamX
/-! ### a lambda handed to a def: what it raises is wished for at the slots of the def -/
def tAct (f c' : Addr) (q : Str) (tl : XK → Hp → VK → Prop) (W : WX) : TE := fun σZ HZ Q => σZ[0]? = some (some (.ref f)) ∧ HZ c' = some (CodeO c' q) ∧ tl (fun cls d H' => W cls d σZ H') HZ Q
abbrev gCx (X : Cx) (Ng : List Str) (x : Str) (sg : Scope) (g : Addr) (cdg : Value) (s : Shared) (H : Hp) : Cx := cxOf (L2.CX X.prog X.w) X.prog X.w X.K X.mg X.base Ng x sg g cdg X.A X.stack s H (fun _ _ _ => False)
section
variable {X : Cx} {pins : List (Addr × Obj)} {σ : L2.St} {H : Hp} {s : Shared}
theorem pe_actS {Ng : List Str} {x : Str} {sg : Scope} {g f c' : Addr} {cdg pm ctv : Value} {params : Arguments} {body : Expr} {scope : Scope} {k : Nat} {a : Str} {pn : List (Addr × Obj)} {xe : Value → Shared → Prop} {W : WX} {t : XK → TE} {p1 p2 : Pos}
    (I : Inv X pins σ H s) (L : LamS X.env.scope scope) (of : s.heap.get? f = some (PySem.W.kla_obj "<lambda>" (X.env.qual ++ "<lambda>") params body scope (cloFrom X.env.cells scope.names []) pm c' ctv)) (nf : H f = none) (nfr : f ∉ frs X.stack)
    (hbind : bindArgs (PySem.W.kla_fn "<lambda>" (X.env.qual ++ "<lambda>") params body scope (cloFrom X.env.cells scope.names []) pm (.ref c') ctv) ⟨[], []⟩ = pure [])
    (tk : Takes ((gCx X Ng x sg g cdg s H).tr pn xe) W) (hr : Room (k + 1) (X.A.deeper (envOfC x sg s.heap.objs.size g cdg)))
    (hbody : ∀ (A : Around) (outer : List Env) (s : Shared) (H : Hp) (E : XK), Room k (A.deeper (lamEnv X scope s.heap.objs.size f c')) → PE (lamCx X A outer s H E scope f c') body (t E))
    (hN : Ng[0]? = some a) (hv : Vis sg a) (hd : (a == ("__debug__" : Str)) = false := by decide) (hcd : (a == ("__classdict__" : Str)) = false := by decide) :
    PE ((gCx X Ng x sg g cdg s H).tr pn xe) (.Call (.Name a p1) [] [] p2) (tAct f c' (X.env.qual ++ "<lambda>") (fun E H' Q' => t E σ H' Q') W) := by
  refine ⟨fun pinsZ sZ σZ HZ Q IZ hw => ?_⟩
  obtain ⟨h1, h2, h3⟩ := hw
  refine wpAny_Call_Name_kw (thn ((pe_var (pos := p1) (i := 0) hN hv hd hcd).run pinsZ sZ σZ HZ (fun v H1 => v = .ref f ∧ H1 = HZ) IZ ⟨.ref f, h1, rfl, rfl⟩) fun u s1 ⟨v, H1, I1, ru, e1, e2⟩ => ?_)
  subst e1 e2
  cases ru
  have keepF := I1.base.keep f _ of nf nfr (fun z => nomatch (show f ∈ ([] : List Addr) from z))
  refine PySem.W.callWith_F0 ⟨_, _, _, _, keepF⟩ ?_
  obtain ⟨⟨oc, vs, tq, k1, k2, k3⟩, _, _⟩ := I1.hok c' _ h2
  let Eσ : XK := fun cls d H' => W cls d σZ H'
  have ran : codeAny (model X.prog X.w) (X.A.deeper (envOfC x sg s.heap.objs.size g cdg)) (.call (.ref f) ⟨[], []⟩) (CR (L2.CX X.prog X.w) (envOfC x sg s.heap.objs.size g cdg :: X.stack) X.prog X.w H1 s1 Q Eσ) s1 := by
    refine PySem.W.kla_callFunE hr.depth keepF rfl L.co L.gen rfl ⟨c', oc, vs, tq, rfl, k1, k2, k3⟩ ?_
    rw [hbind]
    refine wpAny_pure (wpAny_newFunctionEnv (fun y hy => (L.own y hy).2) (fun y hy => absurd hy (by simp)) (fun hA ns sb => ⟨I1.nolimit.fresh _ sb, ?_⟩) L.kind)
    show codeAny _ _ (.expr body (lamEnv X scope s1.heap.objs.size f c')) _ _
    have J : Inv (lamCx X (X.A.deeper (envOfC x sg s.heap.objs.size g cdg)) (envOfC x sg s.heap.objs.size g cdg :: X.stack) s1 H1 Eσ scope f c') [] σ H1 { s1 with heap := hA, toks := s1.toks + ([] : List (Str × Value)).length } :=
      lam_start2 I L I1.env0 hr.hd I1.base ns fun b o e => sb.extBut b o (Nat.ne_of_lt (Heap.lt_size e)) (Heap.get?_push_of_some _ e)
    refine PySem.W.kla_codeExpr (wpAny_mono ((hbody _ _ s1 H1 Eσ (hr.deeper _)).run [] _ _ H1 Q J h3) (fun v s2 ⟨y, H2, J2, ry, q2⟩ => ?_) fun e s2 q => q)
    exact ⟨y, H2, J2.os, J2.bare, J2.base, J2.hok, ry, q2⟩
  refine wpAny_call (codeAny_mono ran fun r s2 hq => ?_)
  cases r with
  | error e => exact passAt tk σZ pinsZ H1 s1 e s2 I1 hq
  | ok fl =>
    cases fl with
    | ret u => exact I1.after hq
    | next => exact False.elim hq
    | brk => exact False.elim hq
    | cont => exact False.elim hq
end
/-- the def that calls what it got -/
def GivesS (X : Cx) (Ng : List Str) (x : Str) (sg : Scope) (g : Addr) (cdg : Value) (bg : List Stmt) (a q : Str) (kg : Nat) (TT : (XK → Hp → VK → Prop) → Hp → VK → Prop) : Prop :=
  ∀ (f c' : Addr) (s : Shared) (H : Hp) (Q : VK) (tl : XK → Hp → VK → Prop), Room kg (X.A.deeper (envOfC x sg s.heap.objs.size g cdg)) →
    (∀ (W : WX) (pn : List (Addr × Obj)) (xe : Value → Shared → Prop) (p1 p2 : Pos), Takes ((gCx X Ng x sg g cdg s H).tr pn xe) W → PE ((gCx X Ng x sg g cdg s H).tr pn xe) (.Call (.Name a p1) [] [] p2) (tAct f c' q tl W)) →
    H c' = some (CodeO c' q) → TT tl H Q → ∃ t, PSs (gCx X Ng x sg g cdg s H) bg t ∧ t { nx := fun _ H' => Q .non H', rt := Q } (L2.start Ng [.ref f]) H
section
variable {X : Cx}
theorem pe_lamS {T : List (Addr × Str)} {TT : (XK → Hp → VK → Prop) → Hp → VK → Prop} {x a : Str} {g c P : Addr} {k : Nat} {pg : Arguments} {bg : List Stmt} {sg : Scope} {dV kV doc pm cdv ct oc : Value} {an od : Option Addr} {osl : Array (Option Value)} {Ng : List Str}
    {params : Arguments} {body : Expr} {scope : Scope} {t : XK → TE} {p lpos pos : Pos} (hm : X.mg x = some (.ref g)) (hk : PySem.W.keepIn X.K (.ref g) = true)
    (lk : X.K.lookup g = some ⟨oc, od, .func (PySem.W.fnOf x x pg bg sg dV kV doc pm an cdv ct), osl⟩) (hcg : PySem.W.codeIn X.K cdv x = true) (hb : L2.Binds X.K (PySem.W.fnOf x x pg bg sg dV kV doc pm an cdv ct) [a] []) (Sg : FnScope Ng [a] sg) (hNg : Ng[0]? = some a) (hva : Vis sg a)
    (hG : GivesS X Ng x sg g cdv bg a (X.env.qual ++ "<lambda>") (k + 1) TT)
    (TB : TabB X.base X.mg c P) (hcode : X.env.code = .ref c) (hmT : (P, X.env.qual ++ "<lambda>") ∈ T) (hu : ∀ p ∈ T, p.1 = P → p.2 = X.env.qual ++ "<lambda>") (hr : Room (k + 2) X.A) (L : LamS X.env.scope scope) 
    (hbind : ∀ (q : Str) (cl : List (Str × Addr)) (pm cv ctv : Value), bindArgs (PySem.W.kla_fn "<lambda>" q params body scope cl pm cv ctv) ⟨[], []⟩ = pure [])
    (hbody : ∀ (A : Around) (outer : List Env) (s : Shared) (H : Hp) (E : XK) (f c' : Addr), Room k (A.deeper (lamEnv X scope s.heap.objs.size f c')) → PE (lamCx X A outer s H E scope f c') body (t E))
    (hg : Gl X x := by rfl) (hdef : defaultsOf params X.env = ([], []) := by rfl) (hdb : (x == ("__debug__" : Str)) = false := by decide) (hd : (a == ("__debug__" : Str)) = false := by decide) (hcd : (a == ("__classdict__" : Str)) = false := by decide) :
    PE X (.Call (.Name x p) [.Lambda params body scope lpos] [] pos) (tLam T TT t) := by
  refine ⟨fun pins s σ H Q I ⟨hT, hw⟩ => ?_⟩
  refine wpAny_Call_Name_kw (ld_glob I hg hm ?_ hdb)
  refine PySem.W.callWith_K (h₀ := X.base) I.ok.mod.kin hk ?_ (by rfl) (by rfl)
  show wpAny _ _ (spliced ((false, eval (.Lambda params body scope lpos) X.env) :: backTo pos (starEach [] X.env))) _ _ s
  refine Calls.spliced_cons (lam_make2 I TB hcode hmT hu hT hdef (L.has I.ok) fun f c' pm' ctv H1 s1 I1 grown T1 o1 n1 n2 co => ?_)
  refine Calls.spliced_nil ⟨I1.kIn, ?_⟩
  have ran : codeAny (model X.prog X.w) X.A (.call (.ref g) ⟨[.ref f], []⟩) (CR (L2.CX X.prog X.w) X.stack X.prog X.w H1 s1 Q (fun _ _ _ => False)) s1 := by
    refine run_ofS (N := Ng) (ps := [a]) (us := [.ref f]) (vs := [.ref f]) lk hcg Sg hr I1.env0 (hb s1 [.ref f] I1.kIn rfl) (.cons rfl .nil) rfl fun hr' => ?_
    exact hG f c' s1 H1 Q (fun E H' Q' => t E σ H' Q') hr' (fun W pn xe p1 p2 tk => pe_actS I1 L o1 n1 n2 (hbind _ _ _ _ _) tk hr' (fun A outer s H E hr2 => hbody A outer s H E f c' hr2) hNg hva hd hcd) co (hw H1 grown T1)
  refine wpAny_call (codeAny_mono ran fun r s2 hq => ?_)
  cases r with
  | error e => exact passL pins σ H1 s1 e s2 I1 hq
  | ok fl =>
    cases fl with
    | ret u => exact I1.after hq
    | next => exact False.elim hq
    | brk => exact False.elim hq
    | cont => exact False.elim hq
end
end G
namespace G
open PySem PySem.Spec PyProof.Rows L2 LamX
/-! ### lambdas, told of data -/
abbrev LamD := AH → Res D
def fAct (lam : LamD) : FE := fun _ M => lam M
def fnL (n : Nat) (fs : LamD → FS) : LamD → LamD := fun lam M => fin M (outS (fs lam (List.replicate n none) M))
def fLam (Fg : LamD → LamD) (b : FE) : FE := fun δ M => match Fg (b δ) M with
  | .ok d M' => .ok d M'
  | _ => .stuck
section
variable {K : PySem.W.Frag} {κ : Kap} {ι ι' : List Addr} {F F' H H' : Hp} {M M' : AH}
/-- a lambda's reading from its function on data, from ι0, F0, H0 on -/
def LamLift (K : PySem.W.Frag) (κ : Kap) (lam : LamD) (tl : XK → Hp → VK → Prop) (ι0 : List Addr) (F0 H0 : Hp) : Prop := ∀ ι F H M E Q, Ext ι0 F0 H0 ι F H → RelH K κ ι F H M → Post K κ (Rep K κ) ι F H (lam M) Q E → tl E H Q
def TTd (K : PySem.W.Frag) (κ : Kap) (Fg : LamD → LamD) : (XK → Hp → VK → Prop) → Hp → VK → Prop := fun tl H Q => ∃ lam ι F M, RelH K κ ι F H M ∧ LamLift K κ lam tl ι F H ∧ Post K κ (Rep K κ) ι F H (Fg lam M) Q (fun _ _ _ => False)
/-- in the def that got it: the lambda at f stands in the first slot -/
def Ch.lam (f c' : Addr) (q : Str) (ι0 : List Addr) (F0 H0 : Hp) : Ch :=
  ⟨fun ι σ F H => σ[0]? = some (some (.ref f)) ∧ Ext ι0 F0 H0 ι F H ∧ H c' = some (CodeO c' q) ∧ c' ∉ ι, fun ι ι' σ F F' H H' e h => by
    obtain ⟨h1, h2, h3, h4⟩ := h
    obtain ⟨h5, h6⟩ := e.stays h3 h4 (fun z => by unfold CodeO at z; exact z) codeO_ne
    exact ⟨h1, h2.trans e, h5, h6⟩⟩
theorem Ch.lam_free {f c' : Addr} {q : Str} {ι0 : List Addr} {F0 H0 : Hp} {j : Nat} (h : j ≠ 0) : (Ch.lam f c' q ι0 F0 H0).FreeAt j := fun ι σ F H v x => ⟨by rw [List.getElem?_set_ne h]; exact x.1, x.2⟩
theorem le_act {f c' : Addr} {q : Str} {ι0 : List Addr} {F0 H0 : Hp} {lam : LamD} {tl : XK → Hp → VK → Prop} {W : WX} (hl : LamLift K κ lam tl ι0 F0 H0) : LE K κ (EK.wx W (Ch.lam f c' q ι0 F0 H0)) (tAct f c' q tl W) (fAct lam) := fun σ δ H M ι F Q hs hh p => by
  obtain ⟨h1, h2, h3, _⟩ := hs.chi
  exact ⟨h1, h3, hl ι F H M _ Q h2 hh p⟩
theorem relH_grown (hh : RelH K κ ι F H M) {H1 : Hp} (g : ExtN H H1) (t : Tabs κ.T H1) : RelH K κ ι F H1 M ∧ Ext ι F H ι F H1 := by
  have st : ∀ {a o}, H a = some o → (∀ ps, o ≠ .tbl ps) → H1 a = some o := fun h n => g _ _ h n
  have nn : ∀ a, Nn H1 a → Nn H a := fun a n => by
    cases q : H a with
    | none => exact .inl q
    | some o =>
      by_cases ht : ∃ ps, o = .tbl ps
      · obtain ⟨ps, rfl⟩ := ht
        exact .inr ⟨ps, q⟩
      · have nt : ∀ ps, o ≠ .tbl ps := fun ps z => ht ⟨ps, z⟩
        exact (n.no (st q nt) nt).elim
  refine ⟨⟨fun a o h => ?_, t, hh.nt, hh.len, hh.nd, hh.dis, fun i o h => ?_⟩, ⟨List.prefix_rfl, Same.refl _, fun a o h n t => .inl (st h t), nn, fun a h => .inl h, fun a o h => .inl h⟩⟩
  · rcases hh.le a o h with q | ⟨l, od, q⟩
    · exact .inl (st q fun ps z => hh.nt a ps (z ▸ h))
    · exact .inr ⟨l, od, st q fun ps z => by cases z⟩
  · obtain ⟨a, u, h1, h2, h3⟩ := hh.pl i o h
    exact ⟨a, u, h1, st h2 h3.noTbl.1, h3⟩
theorem le_lam {E0 : EK} {t : XK → TE} {fb : FE} {Fg : LamD → LamD} (hb : ∀ E, LE K κ (EK.of E) (t E) fb) : LE K κ E0 (tLam κ.T (TTd K κ Fg) t) (fLam Fg fb) := fun σ δ H M ι F Q hs hh p => by
  refine ⟨hh.tb, fun H1 g t1 => ?_⟩
  obtain ⟨h1, e1⟩ := relH_grown hh g t1
  refine ⟨fb δ, ι, F, M, h1, fun ι2 F2 H2 M2 E Q2 e2 h2 p2 => ?_, ?_⟩
  · have s0 : RelS K κ (EK.of E) ι F H δ σ := ⟨hs.len, hs.pl, trivial⟩
    exact hb E σ δ H2 M2 ι2 F2 Q2 (s0.ext (e1.trans e2)) h2 p2
  · unfold fLam at p
    revert p
    generalize Fg (fb δ) M = r
    intro p
    cases r with
    | ok d M' => exact Post.mono e1 p fun _ _ x => x
    | exc c q M' => exact p.elim
    | stuck => exact p.elim
theorem gives_of {X : Cx} {Ng : List Str} {x : Str} {sg : Scope} {g : Addr} {cdg : Value} {bg : List Stmt} {a q : Str} {kg : Nat} {fs : LamD → FS} (n0 : 0 < Ng.length)
    (h : ∀ (f c' : Addr) (s : Shared) (H : Hp) (tl : XK → Hp → VK → Prop), Room kg (X.A.deeper (envOfC x sg s.heap.objs.size g cdg)) →
      (∀ (W : WX) (pn : List (Addr × Obj)) (xe : Value → Shared → Prop) (p1 p2 : Pos), Takes ((gCx X Ng x sg g cdg s H).tr pn xe) W → PE ((gCx X Ng x sg g cdg s H).tr pn xe) (.Call (.Name a p1) [] [] p2) (tAct f c' q tl W)) →
      ∃ t, PSs (gCx X Ng x sg g cdg s H) bg t ∧ ∀ ι0 F0 H0 lam, LamLift X.K κ lam tl ι0 F0 H0 → LS X.K κ (EK.c (fun _ _ _ _ => False) (Ch.lam f c' q ι0 F0 H0)) t (fs lam)) :
    GivesS X Ng x sg g cdg bg a q kg (TTd X.K κ (fnL Ng.length fs)) := by
  intro f c' s H Q tl hr act hc hw
  obtain ⟨t, d, l⟩ := h f c' s H tl hr act
  obtain ⟨lam, ι, F, M, rh, hl, p⟩ := hw
  refine ⟨t, d, ?_⟩
  have nc : c' ∉ ι := fun z => by
    obtain ⟨_, _, _, _, _, e, r⟩ := rh.taken z
    rw [hc] at e
    cases e
    exact r.noTbl.2 _ rfl
  have p := fin_post rh p
  refine l ι F H lam hl _ (List.replicate Ng.length none) H M ι F _ ⟨?_, fun i d z => ?_, ⟨?_, Ext.refl, hc, nc⟩⟩ rh ?_
  · unfold L2.start
    simp
    omega
  · rw [List.getElem?_replicate] at z
    split at z <;> cases z
  · rfl
  revert p
  generalize fs lam (List.replicate Ng.length none) M = r
  intro p
  cases r with
  | nx δ M' => exact fun σ' H' ι' F' e h' _ => p .non H' ι' F' e h' .non
  | rt d M' => exact p
  | exc c q δ M' =>
    cases q with
    | none => exact fun σ' H' ι' F' e h' _ => p H' ι' F' e h'
    | some q => exact fun σ' x H' ι' F' vs nx e h' _ hl rd hx => p x H' ι' F' vs nx e h' hl rd hx
  | bk δ M' => exact p.elim
  | ct δ M' => exact p.elim
  | stuck => exact p.elim
end
end G
namespace G
open PySem PySem.Spec PyProof.Rows L2
/-! ### is; repr; more by numbers -/
def gIsN (neg : Bool) : D → D → AH → Res D := fun x y M => match y with
  | .non => (match x with
    | .non => .ok (.bl (!neg)) M
    | .ref _ => .ok (.bl neg) M
    | _ => .ok (.bl neg) M)
  | _ => .stuck
def gIsB (neg : Bool) : D → D → AH → Res D := fun x y M => match x, y with
  | .bl a, .bl b => .ok (.bl (neg != decide (a = b))) M
  | _, _ => .stuck
def gRepr : List D → AH → Res D := fun xs M => match xs with
  | [.int i] => if i.natAbs.log2 < 1920 then .ok (.str (Str.ofString (toString i))) M else .stuck
  | [.bl b] => .ok (.str (if b then Str.ofString "True" else Str.ofString "False")) M
  | [.non] => .ok (.str (Str.ofString "None")) M
  | [.str z] => if (reprText z).length ≤ sizeLine then .ok (.str (reprText z)) M else .stuck
  | _ => .stuck
def gMulT : D → D → AH → Res D := fun x y M => match x, y with
  | .int i, .int j => gMul (.int i) (.int j) M
  | x, .int k => (match tupOf x with
    | some xs => if xs ≠ [] ∧ 2 ≤ k ∧ k ≤ 1000 ∧ xs.length ≤ 1000 then .ok (.tuq (List.replicate k.toNat xs).flatten) M else .stuck
    | none => .stuck)
  | _, _ => .stuck
section
variable {K : PySem.W.Frag} {κ : Kap} {E : EK} {ι ι' : List Addr} {F F' H H' : Hp} {M M' : AH}
def rIsNG (neg : Bool) : R2 := fun x y H Q => y = .non ∧ Q (.bl (neg != decide (x = .non))) H
theorem op_isNG {X : Cx} : OpR X (compareOp .Is) (rIsNG false) := by
  intro pins s σ H x y v u Q I rx ry h
  exact op_isN pins s σ H x y v u Q I rx ry ⟨h.1, by have := h.2; simpa using this⟩
theorem op_notNG {X : Cx} : OpR X (compareOp .IsNot) (rIsNG true) := by
  intro pins s σ H x y v u Q I rx ry h
  exact op_notN pins s σ H x y v u Q I rx ry ⟨h.1, by have := h.2; simpa using this⟩
def rIsBG (neg : Bool) : R2 := fun x y H Q => ∃ a b : Bool, x = .bl a ∧ y = .bl b ∧ Q (.bl (neg != decide (a = b))) H
theorem op_isBG {X : Cx} : OpR X (compareOp .Is) (rIsBG false) := by
  intro pins s σ H x y v u Q I rx ry h
  obtain ⟨a, b, h1, h2, h3⟩ := h
  exact op_isBl pins s σ H x y v u Q I rx ry ⟨a, b, h1, h2, by simpa using h3⟩
theorem op_notBG {X : Cx} : OpR X (compareOp .IsNot) (rIsBG true) := by
  intro pins s σ H x y v u Q I rx ry h
  obtain ⟨a, b, h1, h2, h3⟩ := h
  exact op_notBl pins s σ H x y v u Q I rx ry ⟨a, b, h1, h2, by simpa using h3⟩
theorem isNK (neg : Bool) : LR2 K κ (rIsNG neg) (gIsN neg) := fun H M ι F x y v w Q e hh rx ry p => by
  unfold gIsN at p
  cases ry with
  | non =>
    refine ⟨rfl, ?_⟩
    cases rx <;> first
      | (have q := p.here hh (.bl _); cases neg <;> simpa using q)
      | skip
  | _ => exact p.elim
theorem isBK (neg : Bool) : LR2 K κ (rIsBG neg) (gIsB neg) := fun H M ι F x y v w Q e hh rx ry p => by
  unfold gIsB at p
  split at p
  · cases rx; cases ry
    exact ⟨_, _, rfl, rfl, p.here hh (.bl _)⟩
  · exact p.elim
def rReprG : List V → Hp → VK → Prop := fun xs H Q => match xs with
  | [.int i] => i.natAbs.log2 < 1920 ∧ Q (.str (Str.ofString (toString i))) H
  | [.bl b] => Q (.str (if b then Str.ofString "True" else Str.ofString "False")) H
  | [.non] => Q (.str (Str.ofString "None")) H
  | [.str z] => (reprText z).length ≤ sizeLine ∧ Q (.str (reprText z)) H
  | _ => False
theorem call_reprG {X : Cx} : CallR X (.builtin "repr") rReprG := by
  intro pins s σ H xs us Q I r h
  unfold rReprG at h
  split at h
  · obtain ⟨u, rfl, t, rfl⟩ := vals1 r
    exact PySem.P.repr_of_int h.1 ⟨.str _, H, I.tok _, ⟨_, rfl⟩, h.2⟩
  · rename_i b
    obtain ⟨u, rfl, ru⟩ := vals1 r
    cases ru
    refine PySem.P.repr_of_bool ⟨.str _, H, I.tok _, ⟨_, rfl⟩, ?_⟩
    cases b <;> exact h
  · obtain ⟨u, rfl, ru⟩ := vals1 r
    cases ru
    exact PySem.P.repr_of_none ⟨.str _, H, I.tok _, ⟨_, rfl⟩, h⟩
  · obtain ⟨u, rfl, t, rfl⟩ := vals1 r
    exact PySem.P.repr_of_str ⟨.str _, H, I.tok _, ⟨_, rfl⟩, h.2⟩ h.1
  · exact h.elim
theorem reprK : LRN K κ rReprG gRepr := fun H M ι F xs vs Q e hh r p => by
  unfold gRepr at p
  split at p
  · split at p
    · rename_i hl
      cases r with | cons a b => cases a; cases b; exact ⟨hl, p.here hh (.str _)⟩
    · exact p.elim
  · cases r with | cons a b => cases a; cases b; exact p.here hh (.str _)
  · cases r with | cons a b => cases a; cases b; exact p.here hh (.str _)
  · split at p
    · rename_i hl
      cases r with | cons a b => cases a; cases b; exact ⟨hl, p.here hh (.str _)⟩
    · exact p.elim
  · exact p.elim
theorem rep_rep {ds : List D} {vs : List V} (h : RepL K κ ι F ds vs) : ∀ n, RepL K κ ι F (List.replicate n ds).flatten (List.replicate n vs).flatten
  | 0 => .nil
  | n + 1 => by
    rw [List.replicate_succ, List.replicate_succ, List.flatten_cons, List.flatten_cons]
    exact h.append (rep_rep h n)
def rMulTG (K : PySem.W.Frag) : R2 := fun x y H Q => rMulG x y H Q ∨ rRepT K x y H Q
theorem op_mulTG {X : Cx} (K : PySem.W.Frag) (h : X.K = K := by rfl) : OpR X (binaryOp .Mult) (rMulTG K) := by
  subst h
  intro pins s σ H x y v u Q I rx ry h
  rcases h with h | h
  · exact op_mulG pins s σ H x y v u Q I rx ry h
  · exact op_repT pins s σ H x y v u Q I rx ry h
theorem mulTK : LR2 K κ (rMulTG K) gMulT := fun H M ι F x y v w Q e hh rx ry p => by
  unfold gMulT at p
  split at p
  · exact .inl (rmulK H M ι F _ _ v w Q e hh rx ry p)
  · split at p
    · rename_i hx
      split at p
      · rename_i hc
        obtain ⟨a, vs, rfl, h1, r1⟩ := tup_at hh rx hx
        cases ry
        refine .inr ⟨a, _, vs, rfl, rfl, h1, fun z => hc.1 ((nE r1.len).mpr z), hc.2.1, hc.2.2.1, by rw [← r1.len]; exact hc.2.2.2, fun q hq => ?_⟩
        obtain ⟨e2, h3⟩ := hh.newF hq (.tup (List.replicate _ vs).flatten)
        exact p _ _ _ _ e2 h3 (.tuq (.inl (.inl upd_same)) ((rep_rep r1 _).ext e2))
      · exact p.elim
    · exact p.elim
  · exact p.elim
/-! ### dicts of the module -/
theorem lookup_rep {ks : List Str} {ds : List D} {vs : List V} (r : RepL K κ ι F ds vs) (z : Str) : (ks.length = vs.length) → ((ks.zip ds).lookup z = none ∧ (ks.zip vs).lookup z = none) ∨ ∃ d v, (ks.zip ds).lookup z = some d ∧ (ks.zip vs).lookup z = some v ∧ Rep K κ ι F d v := by
  induction ks generalizing ds vs with
  | nil => exact fun _ => .inl ⟨rfl, rfl⟩
  | cons k ks ih =>
    intro hl
    cases r with
    | nil => cases hl
    | @cons d v ds vs a b =>
      by_cases h : z = k
      · subst h
        exact .inr ⟨d, v, by simp [List.lookup], by simp [List.lookup], a⟩
      · have : (z == k) = false := beq_eq_false_iff_ne.mpr h
        rcases ih b (by simpa using hl) with ⟨h1, h2⟩ | ⟨x, y, h1, h2, h3⟩
        · exact .inl ⟨by simp [List.lookup, this, h1], by simp [List.lookup, this, h2]⟩
        · exact .inr ⟨x, y, by simp [List.lookup, this, h1], by simp [List.lookup, this, h2], h3⟩
def gKIx : D → D → AH → Res D := fun x y M => match x, y with
  | .dck ks xs, .str z => (match (ks.zip xs).lookup z with | some d => .ok d M | none => .stuck)
  | _, _ => .stuck
def fKGet (d y z : FE) : FE := fun δ M => (d δ M).bind fun a M1 => match a with
  | .dck ks xs => (y δ M1).bind fun k M2 => (z δ M2).bind fun e M3 => (match k with
    | .str k => .ok (((ks.zip xs).lookup k).getD e) M3
    | _ => .stuck)
  | _ => .stuck
def rKIx (K : PySem.W.Frag) (w : World) : R2 := fun x y H Q => ∃ p ks vs z v, x = .ref p ∧ y = .str z ∧ KDk K w p ks vs ∧ (ks.zip vs).lookup z = some v ∧ Q v H
theorem kdk_in {w : World} {p : Addr} {ks : List Str} {vs : List V} (h : KDk K w p ks vs) {z : Str} {v : V} (e : (ks.zip vs).lookup z = some v) : ∃ u, PySem.W.nsIn K p z = some (some u) ∧ RelV v u := by
  obtain ⟨_, _, h⟩ := h
  obtain ⟨r, h1, h2⟩ := h z
  rw [e] at h2
  cases r with
  | none => exact h2.elim
  | some u => exact ⟨u, h1, h2⟩
theorem ix_kdk {X : Cx} (K : PySem.W.Frag) (w : World) (h : X.K = K := by rfl) (hw : X.w = w := by rfl) : IxR X (rKIx K w) := by
  subst h hw
  intro value slice pins s σ H x y v u Q I rx ry h hs
  obtain ⟨p, ks, vs, z, v0, rfl, rfl, hk, e, q⟩ := h
  obtain rfl : v = Value.ref p := rx
  obtain ⟨t, rfl⟩ := ry
  obtain ⟨u0, h1, h2⟩ := kdk_in hk e
  obtain ⟨_, ⟨es, n, D⟩, _⟩ := hk
  have hm := PySem.W.mapOf_K (prog := X.prog) I.kIn D.at_ D.lit
  exact tail_any hm.typeIs slot_dict_getitem.lookup (wpAny_getItem_of (strKind_is X.prog X.w z t) hm (PySem.W.find_K D.at_ h1) ⟨v0, H, I.tok _, h2, q⟩) hs
theorem kixK : LR2 K κ (rKIx K κ.w) gKIx := fun H M ι F x y v w Q e hh rx ry p => by
  unfold gKIx at p
  split at p
  · rename_i ks xs z
    cases ry
    cases rx with
    | @dck _ _ a vs hk r =>
      split at p
      · rename_i d hd
        rcases lookup_rep r z hk.1 with ⟨h1, _⟩ | ⟨d', v', h1, h2, h3⟩
        · rw [hd] at h1; cases h1
        · rw [hd] at h1
          cases h1
          exact ⟨a, ks, vs, z, v', rfl, rfl, hk, h2, p.here hh h3⟩
      · exact p.elim
  · exact p.elim
def tKGet (K : PySem.W.Frag) (w : World) (td ty tx : TE) : TE := fun σ H Q => td σ H fun x H1 => ∃ a ks vs, x = .ref a ∧ KDk K w a ks vs ∧ ty σ H1 fun y H2 => tx σ H2 fun z H3 => ∃ k, y = .str k ∧ Q (((ks.zip vs).lookup k).getD z) H3
theorem pe_kget {X : Cx} {o e f : Expr} {td ty tx : TE} {apos cpos : Pos} (K : PySem.W.Frag) (w : World) (ho : PE X o td) (he : PE X e ty) (hf : PE X f tx) (m : M2 X o "get" apos e f cpos) (h : X.K = K := by rfl) (hw : X.w = w := by rfl) : PE X (.Call (.Attribute o "get" apos) [e, f] [] cpos) (tKGet K w td ty tx) := by
  subst h hw
  refine ⟨fun pins s σ H Q I h => ?_⟩
  refine wpAny_Call_method m.base m.few m.line PySem.F.plainAttrs_dict PySem.F.slot_dict_get PySem.F.type_dict_get (thn (ho.run pins s σ H _ I h) fun u s1 ⟨x, H1, I1, rx, a, ks, vs, ex, hk, q1⟩ => ?_)
  subst ex
  obtain rfl : u = Value.ref a := rx
  obtain ⟨hl, ⟨es, n, D⟩, hz⟩ := hk
  have hm := fun (s : Shared) (hK : X.K.In s.heap) => PySem.W.mapOf_K (prog := X.prog) (w := X.w) hK D.at_ D.lit
  refine ⟨(hm s1 I1.kIn).typeIs, fun b z => ?_, ?_⟩
  · cases z
    exact ⟨_, I1.kIn _ _ D.at_, rfl⟩
  rw [m.trees]
  refine Calls.callWith_builtin rfl (Calls.evalArgs_plain (Calls.spliced_cons (thn (he.run pins s1 σ H1 _ I1 q1) fun iv s2 ⟨y, H2, I2, ry, q2⟩ =>
    Calls.spliced_cons (thn (hf.run pins s2 σ H2 _ I2 q2) fun fv s3 ⟨z, H3, I3, rz, k, ek, q3⟩ => Calls.spliced_nil ?_))))
  subst ek
  obtain ⟨t, rfl⟩ := ry
  obtain ⟨r, h1, h2⟩ := hz k
  have hm3 := hm s3 I3.kIn
  refine call_meetsIn PySem.F.slot_dict_get hm3.typeIs PySem.F.entry_dict_get (PySem.F.args_dict_get_3 _ _ _) (meets_dict_get_default (strKind X.prog X.w) a (strKind_is X.prog X.w k t) D.low fv) ⟨_, hm3, ?_⟩
  rw [PySem.W.find_K D.at_ h1]
  refine ⟨_, H3, I3.tok _, ?_, q3⟩
  exact L2.RelO.getD h2 rz
theorem le_kget {td ty tx : TE} {fd fy fx : FE} (h1 : LE K κ E td fd) (h2 : LE K κ E ty fy) (h3 : LE K κ E tx fx) : LE K κ E (tKGet K κ.w td ty tx) (fKGet fd fy fx) := fun σ δ H M ι F Q hs hh p => by
  refine h1 σ δ H M ι F _ hs hh ((Post.bind (R := Rep K κ) p).mono Ext.refl ?_)
  rintro v H1 ⟨d, M1, ι1, F1, e1, hh1, r1, p1⟩
  split at p1
  · rename_i ks xs
    cases r1 with
    | @dck _ _ a vs hk r =>
      have s1 := hs.ext e1
      refine ⟨a, ks, vs, rfl, hk, ?_⟩
      refine h2 σ δ H1 M1 ι1 F1 _ s1 hh1 ((Post.bind (R := Rep K κ) p1).mono Ext.refl ?_)
      rintro w H2 ⟨d2, M2, ι2, F2, e2, hh2, r2, p2⟩
      refine h3 σ δ H2 M2 ι2 F2 _ (s1.ext e2) hh2 ((Post.bind (R := Rep K κ) p2).mono Ext.refl ?_)
      rintro z H3 ⟨d3, M3, ι3, F3, e3, hh3, r3, p3⟩
      split at p3
      · rename_i k
        cases r2
        rcases lookup_rep ((r.ext e2).ext e3) k hk.1 with ⟨q1, q2⟩ | ⟨x, u, q1, q2, q3⟩
        · rw [q1] at p3
          exact ⟨k, rfl, by rw [q2]; exact p3.here hh3 r3⟩
        · rw [q1] at p3
          exact ⟨k, rfl, by rw [q2]; exact p3.here hh3 q3⟩
      · exact p3.elim
  · exact p1.elim
/-! ### d.setdefault(k, x); dicts that are written -/
def fDSetd (d y z : FE) : FE := fun δ M => (d δ M).bind fun a M1 => if (dctOf a M1).isSome then (y δ M1).bind fun k M2 => (z δ M2).bind fun e M3 => (match a, keyD k with
  | .ref i, some k => (match M3[i]? with
    | some (.dct ks xs) => if ks.length < sizeLine then (match valD ks xs k with
      | some x => .ok x M3
      | none => .ok e (M3.set i (.dct (putD ks xs k e).1 (putD ks xs k e).2))) else .stuck
    | _ => .stuck)
  | _, _ => .stuck) else .stuck
theorem le_dsetd {td ty tx : TE} {fd fy fx : FE} (h1 : LE K κ E td fd) (h2 : LE K κ E ty fy) (h3 : LE K κ E tx fx) : LE K κ E (tDSetd td ty tx) (fDSetd fd fy fx) := fun σ δ H M ι F Q hs hh p => by
  refine h1 σ δ H M ι F _ hs hh ((Post.bind (R := Rep K κ) p).mono Ext.refl ?_)
  rintro v H1 ⟨d, M1, ι1, F1, e1, hh1, r1, p1⟩
  split at p1
  · rename_i hd0
    have s1 := hs.ext e1
    obtain ⟨⟨ks0, xs0⟩, hd0⟩ := Option.isSome_iff_exists.mp hd0
    obtain ⟨a, vs0, ea, hq0, _, _⟩ := dct_at hh1 r1 hd0
    refine ⟨a, ea, .inl ⟨_, hq0⟩, ?_⟩
    refine h2 σ δ H1 M1 ι1 F1 _ s1 hh1 ((Post.bind (R := Rep K κ) p1).mono Ext.refl ?_)
    rintro w H2 ⟨d2, M2, ι2, F2, e2, hh2, r2, p2⟩
    refine h3 σ δ H2 M2 ι2 F2 _ (s1.ext e2) hh2 ((Post.bind (R := Rep K κ) p2).mono Ext.refl ?_)
    rintro z H3 ⟨d3, M3, ι3, F3, e3, hh3, r3, p3⟩
    split at p3
    · rename_i i k hk _
      split at p3
      · rename_i ks xs hM
        split at p3
        · rename_i hlen
          obtain ⟨b, u, eb, hb, hu, ru⟩ := relH_ref hh3 ((r1.ext e2).ext e3) hM
          have hab : a = b := by rw [ea] at eb; exact V.ref.inj eb
          subst hab
          have hw := keyD_rep (r2.ext e3) hk
          subst hw
          cases ru with
          | @dct _ _ vs hl ru =>
            refine ⟨_, k, hu, rfl, by rw [List.length_zip, hl, Nat.min_self, ← hl]; exact hlen, fun v hv => ?_, fun hv => ?_⟩
            · rcases val_rep hl ru k with ⟨q1, q2⟩ | ⟨x, y, q1, q2, q3⟩
              · rw [q2] at hv; cases hv
              · rw [q2] at hv
                cases hv
                rw [q1] at p3
                exact p3.here hh3 q3
            · rcases val_rep hl ru k with ⟨q1, q2⟩ | ⟨x, y, q1, q2, q3⟩
              · rw [q1] at p3
                obtain ⟨ws, z1, z2, z3⟩ := put_rep (k := k) hl ru r3
                obtain ⟨e4, hh4⟩ := hh3.put (o := .dct (putD ks xs k d3).1 (putD ks xs k d3).2) (ho := .dK ((putD ks xs k d3).1.zip ws)) hb hM rfl (.dct z2 z3)
                rw [z1]
                exact p3 _ _ ι3 F3 e4 hh4 (r3.ext e4)
              · rw [q2] at hv; cases hv
        · exact p3.elim
      · exact p3.elim
    · exact p3.elim
  · exact p1.elim
def fPairs : List (FE × FE) → AS → AH → Res (List (D × D))
  | [], _, M => .ok [] M
  | (k, v) :: r, δ, M => (k δ M).bind fun x M1 => (v δ M1).bind fun y M2 => (fPairs r δ M2).bind fun ps M3 => .ok ((x, y) :: ps) M3
def keysP : List (D × D) → Option (List (Key × D))
  | [] => some []
  | (k, v) :: r => match keyD k, keysP r with
    | some k, some ps => some ((k, v) :: ps)
    | _, _ => none
/-- {k: v, ..}: the place stands ahead of the pairs, empty -/
def fDisp (ps : List (FE × FE)) : FE := fun δ M => (fPairs ps δ (M ++ [.dct [] []])).bind fun qs M2 => match keysP qs, M2[M.length]? with
  | some kvs, some (.dct [] []) => if kvs.length ≤ 15 then .ok (.ref M.length) (M2.set M.length (.dct (mergeD ([], []) kvs).1 (mergeD ([], []) kvs).2)) else .stuck
  | _, _ => .stuck
inductive LPs (K : PySem.W.Frag) (κ : Kap) (E : EK) : List (TE × TE) → List (FE × FE) → Prop
  | nil : LPs K κ E [] []
  | cons {tk tv : TE} {fk fv : FE} {ts : List (TE × TE)} {fs : List (FE × FE)} : LE K κ E tk fk → LE K κ E tv fv → LPs K κ E ts fs → LPs K κ E ((tk, tv) :: ts) ((fk, fv) :: fs)
def RepP (K : PySem.W.Frag) (κ : Kap) (ι : List Addr) (F : Hp) : List (D × D) → List (V × V) → Prop := Paired fun p q => Rep K κ ι F p.1 q.1 ∧ Rep K κ ι F p.2 q.2
theorem RepP.ext {a : List (D × D)} {b : List (V × V)} (e : Ext ι F H ι' F' H') (h : RepP K κ ι F a b) : RepP K κ ι' F' a b := paired_mono (fun _ _ q => ⟨q.1.ext e, q.2.ext e⟩) h
theorem lps_run {ts : List (TE × TE)} {fs : List (FE × FE)} (h : LPs K κ E ts fs) : ∀ σ δ H M ι F (Q : List (V × V) → Hp → Prop), RelS K κ E ι F H δ σ → RelH K κ ι F H M → Post K κ (RepP K κ) ι F H (fPairs fs δ M) Q (E.E σ) → tPairs ts σ H Q := by
  induction h with
  | nil => exact fun σ δ H M ι F Q hs hh p => p.here hh .nil
  | cons hk hv _ ih =>
    intro σ δ H M ι F Q hs hh p
    refine hk σ δ H M ι F _ hs hh ((Post.bind (R := Rep K κ) p).mono Ext.refl ?_)
    rintro x H1 ⟨d1, M1, ι1, F1, e1, hh1, r1, p1⟩
    refine hv σ δ H1 M1 ι1 F1 _ (hs.ext e1) hh1 ((Post.bind (R := Rep K κ) p1).mono Ext.refl ?_)
    rintro y H2 ⟨d2, M2, ι2, F2, e2, hh2, r2, p2⟩
    refine ih σ δ H2 M2 ι2 F2 _ ((hs.ext e1).ext e2) hh2 ((Post.bind (R := RepP K κ) p2).mono Ext.refl ?_)
    rintro ps H3 ⟨d3, M3, ι3, F3, e3, hh3, r3, p3⟩
    exact p3.here hh3 (.cons ⟨(r1.ext e2).ext e3, r2.ext e3⟩ r3)
theorem keysP_rep : ∀ {qs : List (D × D)} {ps : List (V × V)} {kvs : List (Key × D)}, RepP K κ ι F qs ps → keysP qs = some kvs → ∃ kws : List (Key × V), ps = kws.map (fun kv => (kV kv.1, kv.2)) ∧ Paired (fun (p : Key × D) (q : Key × V) => p.1 = q.1 ∧ Rep K κ ι F p.2 q.2) kvs kws
  | [], _, _, .nil, h => by simp only [keysP] at h; cases h; exact ⟨[], rfl, .nil⟩
  | (k, v) :: r, _, _, .cons a b, h => by
    simp only [keysP] at h
    split at h
    · rename_i k2 ps2 h1 h2
      cases h
      obtain ⟨kws, e, q⟩ := keysP_rep b h2
      have := keyD_rep a.1 h1
      refine ⟨(k2, _) :: kws, ?_, .cons ⟨rfl, a.2⟩ q⟩
      rw [e, List.map_cons, ← this]
    · cases h
theorem le_disp {ts : List (TE × TE)} {fs : List (FE × FE)} (h : LPs K κ E ts fs) : LE K κ E (tDisp ts) (fDisp fs) := fun σ δ H M ι F Q hs hh p => fun q hq => by
  obtain ⟨e1, hh1, h1⟩ := hh.new (o := .dct [] []) (ho := .dK []) hq (RepO.dct (ks := []) (vs := []) rfl .nil)
  refine lps_run h σ δ _ _ _ _ _ (hs.ext e1) hh1 ((Post.bind (R := RepP K κ) (Post.mono e1 p fun _ _ x => x)).mono Ext.refl ?_)
  rintro ps H2 ⟨qs, M2, ι2, F2, e2, hh2, r2, p2⟩
  split at p2
  · rename_i kvs hk hM
    split at p2
    · rename_i hl
      obtain ⟨kws, rfl, pr⟩ := keysP_rep r2 hk
      have ha := pre_get e2.pre h1
      obtain ⟨u, hu, ru⟩ := hh2.at_ ha hM
      have hu0 : u = .dK [] := by
        cases ru with
        | @dct _ _ vs hl ru => rfl
      subst hu0
      obtain ⟨ws, m1, m2, m3⟩ := merge_rep (ks := []) (vs := []) pr rfl .nil
      refine ⟨hu, kws, rfl, ?_, ?_⟩
      · have := Paired.length pr
        omega
      · have em : mergeK [] kws = (mergeD ([], []) kvs).1.zip ws := m1
        rw [em]
        obtain ⟨e3, hh3⟩ := hh2.put (o := .dct (mergeD ([], []) kvs).1 (mergeD ([], []) kvs).2) (ho := .dK ((mergeD ([], []) kvs).1.zip ws)) ha hM rfl (.dct m2 m3)
        exact p2 _ _ _ _ e3 hh3 (.ref ha)
    · exact p2.elim
  · exact p2.elim
end
end G
namespace G
open PySem PySem.Spec PyProof.Rows L2 LamX
def fBM0 (T : String) (g : D → List D → AH → Res D) (o : FE) : FE := fun δ M => (o δ M).bind fun x M1 => if tyM T x M1 then g x [] M1 else .stuck
section
variable {K : PySem.W.Frag} {κ : Kap} {E : EK} {ι ι' : List Addr} {F F' H H' : Hp} {M M' : AH}
theorem le_bm0 {T : String} {r : V → List V → Hp → VK → Prop} {g : D → List D → AH → Res D} {to : TE} {fo : FE} (hr : LRM K κ r g) (h : LE K κ E to fo) : LE K κ E (tBM0 K T r to) (fBM0 T g fo) := fun σ δ H M ι F Q hs hh p => by
  refine h σ δ H M ι F _ hs hh ((Post.bind (R := Rep K κ) p).mono Ext.refl ?_)
  rintro v H1 ⟨d, M1, ι1, F1, e1, hh1, r1, p1⟩
  split at p1
  · rename_i ht
    exact ⟨tyM_rep hh1 r1 ht, hr H1 M1 ι1 F1 d [] v [] Q _ hh1 r1 .nil p1⟩
  · exact p1.elim
theorem pe_ccS {X : Cx} {W : WX} {k : Nat} {ps : List Str} {sp : Sp} {x : Str} {e : Expr} {es : List Expr} {t : TA} {p pos : Pos} (C : CallOk X.prog X.w X.K X.mg X.base x k ps sp) (tk : Takes X W) (hr : Room k X.A) (ha : PA X (e :: es) t) (hg : Gl X x := by rfl)
    (hdb : (x == ("__debug__" : Str)) = false := by decide) (he : starEach (e :: es) X.env = (false, eval e X.env) :: starEach es X.env := by rfl) (hpl : (backTo pos (starEach es X.env)).any (·.1) = false := by rfl) :
    PE X (.Call (.Name x p) (e :: es) [] pos) (tCallS sp (fun σ cls d H => W cls d σ H) t) := by
  obtain ⟨f, fd, hm, hk, hb, F⟩ := C.ex
  exact pe_callS F hr hg hm hk hb (fun σ => passAt tk σ) ha hdb he hpl
end
/-! ### defs that make lambdas: their code objects are known -/
section
variable {P : Program} {w : World} {K : PySem.W.Frag} {mg : Str → Option Value} {base : Heap} {κ : Kap}
def BodyC (P : Program) (w : World) (K : PySem.W.Frag) (mg : Str → Option Value) (base : Heap) (κ : Kap) (k : Nat) (N : List Str) (qual : Str) (st : Stmt) (f c : Addr) (fs : AS → AH → SRes) : Prop :=
  ∀ (A : Around) (outer : List Env) (s : Shared) (H : Hp) (E : XK), Room k (A.deeper (envOfC qual (defScope st) s.heap.objs.size f (.ref c))) →
    ∃ t, PSs (cxOf (L2.CX P w) P w K mg base N qual (defScope st) f (.ref c) A outer s H E) (defBody st) t ∧ LS K κ (EK.of E) t fs
theorem fnDC {x qual : Str} {st : Stmt} {f c : Addr} {N ps : List Str} {k : Nat} {fs : AS → AH → SRes} {dV kV doc pm ct oc : Value} {an od : Option Addr} {osl : Array (Option Value)}
    (lk : K.lookup f = some ⟨oc, od, .func (PySem.W.fnOf x qual (defArgs st) (defBody st) (defScope st) dV kV doc pm an (.ref c) ct), osl⟩) (hcd : PySem.W.codeIn K (.ref c) qual = true) (S : FnScope N ps (defScope st)) (b : BodyC P w K mg base κ k N qual st f c fs) :
    FnOk P w K mg base (L2.CX P w) (k + 1) f (PySem.W.fnOf x qual (defArgs st) (defBody st) (defScope st) dV kV doc pm an (.ref c) ct) ps (conc K κ (fnF N.length ps.length fs)) :=
  fn_of lk hcd S conc_len fun A outer s H vs Q E hr h => by
    obtain ⟨t, d, l⟩ := b A outer s H E hr
    exact ⟨t, d, body_of l h⟩
theorem fnDC2 {x qual : Str} {st : Stmt} {f c : Addr} {N ps : List Str} {k : Nat} {fs : AS → AH → SRes} {dV kV doc pm ct oc : Value} {an od : Option Addr} {osl : Array (Option Value)}
    (lk : K.lookup f = some ⟨oc, od, .func (PySem.W.fnOf x qual (defArgs st) (defBody st) (defScope st) dV kV doc pm an (.ref c) ct), osl⟩) (hcd : PySem.W.codeIn K (.ref c) qual = true) (S : FnScope N ps (defScope st)) (b : BodyC P w K mg base κ k N qual st f c fs) :
    FnOk P w K mg base (L2.CX P w) (k + 1) f (PySem.W.fnOf x qual (defArgs st) (defBody st) (defScope st) dV kV doc pm an (.ref c) ct) ps (conc K κ (fnK N.length ps.length fs)) :=
  fn_of lk hcd S conc_lenK fun A outer s H vs Q E hr h => by
    obtain ⟨t, d, l⟩ := b A outer s H E hr
    exact ⟨t, d, body_ofK l h⟩
/-- no depth is left -/
def fStuck : FD := fun _ _ => .stuck
theorem fn_stuck {f : Addr} {fd : FuncData} {ps : List Str} {k : Nat} : FnOk P w K mg base (L2.CX P w) k f fd ps (conc K κ fStuck) where
  len := fun vs H Q E ⟨_, _, _, _, _, _, p⟩ => p.elim
  run := fun A outer s H args us vs Q E _ _ _ _ ⟨_, _, _, _, _, _, p⟩ => p.elim
/-- what is known of a def that is handed a lambda -/
structure GivOk (K : PySem.W.Frag) (mg : Str → Option Value) (x : Str) (st : Stmt) (a : Str) : Prop where
  ex : ∃ (g : Addr) (oc : Value) (od : Option Addr) (osl : Array (Option Value)) (dV kV doc pm : Value) (an : Option Addr) (cdv ct : Value), mg x = some (.ref g) ∧ PySem.W.keepIn K (.ref g) = true ∧
    K.lookup g = some ⟨oc, od, .func (PySem.W.fnOf x x (defArgs st) (defBody st) (defScope st) dV kV doc pm an cdv ct), osl⟩ ∧ PySem.W.codeIn K cdv x = true ∧ L2.Binds K (PySem.W.fnOf x x (defArgs st) (defBody st) (defScope st) dV kV doc pm an cdv ct) [a] []
/-- x(lambda: body) -/
theorem pe_lamG {X : Cx} {T : List (Addr × Str)} {TT : (XK → Hp → VK → Prop) → Hp → VK → Prop} {x a : Str} {c P : Addr} {k : Nat} {st : Stmt} {Ng : List Str} {params : Arguments} {body : Expr} {scope : Scope} {t : XK → TE} {p lpos pos : Pos} (Gv : GivOk X.K X.mg x st a)
    (Sg : FnScope Ng [a] (defScope st)) (hNg : Ng[0]? = some a) (hva : Vis (defScope st) a) (hG : ∀ g cdg, GivesS X Ng x (defScope st) g cdg (defBody st) a (X.env.qual ++ "<lambda>") (k + 1) TT)
    (TB : TabB X.base X.mg c P) (hcode : X.env.code = .ref c) (hmT : (P, X.env.qual ++ "<lambda>") ∈ T) (hu : ∀ p ∈ T, p.1 = P → p.2 = X.env.qual ++ "<lambda>") (hr : Room (k + 2) X.A) (L : LamS X.env.scope scope)
    (hbind : ∀ (q : Str) (cl : List (Str × Addr)) (pm cv ctv : Value), bindArgs (PySem.W.kla_fn "<lambda>" q params body scope cl pm cv ctv) ⟨[], []⟩ = pure [])
    (hbody : ∀ (A : Around) (outer : List Env) (s : Shared) (H : Hp) (E : XK) (f c' : Addr), Room k (A.deeper (lamEnv X scope s.heap.objs.size f c')) → PE (lamCx X A outer s H E scope f c') body (t E))
    (hg : Gl X x := by rfl) (hdef : defaultsOf params X.env = ([], []) := by rfl) (hdb : (x == ("__debug__" : Str)) = false := by decide) (hd : (a == ("__debug__" : Str)) = false := by decide) (hcd : (a == ("__classdict__" : Str)) = false := by decide) :
    PE X (.Call (.Name x p) [.Lambda params body scope lpos] [] pos) (tLam T TT t) := by
  obtain ⟨g, oc, od, osl, dV, kV, doc, pm, an, cdv, ct, h1, h2, h3, h4, h5⟩ := Gv.ex
  exact pe_lamS h1 h2 h3 h4 h5 Sg hNg hva (hG g cdv) TB hcode hmT hu hr L hbind hbody hg hdef hdb hd hcd
end
/-! ### the beginning -/
theorem start_rel {K : PySem.W.Frag} {κ : Kap} {H : Hp} {a : Addr} {vs : List V} (t : Tabs κ.T H) (h : SqL K H a vs) : ∃ F, RelH K κ [] F H [] ∧ SqL K F a vs := by
  let F : Hp := fun b => if b = a then H a else none
  have hF : ∀ b o, F b = some o → b = a ∧ H a = some o := fun b o z => by
    by_cases e : b = a
    · exact ⟨e, (if_pos e).symm.trans z⟩
    · have := (if_neg e).symm.trans z; cases this
  by_cases hl : ∃ ps, H a = some (.tbl ps)
  · obtain ⟨ps, hl⟩ := hl
    refine ⟨fun _ => none, ⟨(fun _ _ z => by cases z), t, (fun _ _ z => by cases z), rfl, List.nodup_nil, (fun _ z => by cases z), (fun _ _ z => by cases z)⟩, ?_⟩
    rcases h with h | h
    · rcases h with h | ⟨o, h⟩ <;> rw [hl] at h <;> cases h
    · exact .inr h
  · refine ⟨F, ⟨fun b o z => ?_, t, fun b ps z => hl ⟨ps, (hF b _ z).2⟩, rfl, List.nodup_nil, (fun _ z => by cases z), (fun _ _ z => by cases z)⟩, ?_⟩
    · obtain ⟨rfl, q⟩ := hF b o z
      exact .inl q
    · have e : F a = H a := if_pos rfl
      rcases h with h | h
      · rcases h with h | ⟨o, h⟩
        · exact .inl (.inl (e.trans h))
        · exact .inl (.inr ⟨o, e.trans h⟩)
      · exact .inr h
/-- a dict of the module from its object -/
def keyStr (e : DictEntry) : Option Str := match e.key with
  | .str x _ => some x
  | _ => none
theorem isStr_key {e : DictEntry} {z k : Str} (h : keyStr e = some k) : e.key.isStr z = decide (z = k) := by
  unfold keyStr at h
  split at h
  · rename_i x t q
    have e := Option.some.inj h
    subst e
    rw [q]
    show (x == z) = decide (z = x)
    by_cases hz : z = x
    · subst hz; simp
    · rw [decide_eq_false hz]
      exact beq_eq_false_iff_ne.mpr fun q => hz q.symm
  · cases h
theorem refKey_no {e : DictEntry} {k : Str} (h : keyStr e = some k) : e.refKey = false := by
  unfold keyStr at h
  split at h
  · rename_i x t q
    unfold DictEntry.refKey
    rw [q]
  · cases h
theorem kdk_of {K : PySem.W.Frag} {w : World} {d : Addr} {es : Array DictEntry} {n : Nat} {ks : List Str} {vs : List V} (h : K.lookup d = some ⟨.type "dict", none, .dict es n, #[]⟩) (lit : PySem.W.KeysLit w.params es.toList) (low : (d == sysModules) = false)
    (hk : es.toList.map keyStr = ks.map some) (hv : Vals vs (es.toList.map (·.val))) : KDk K w d ks vs := by
  have hl : ks.length = vs.length := by
    have h1 := congrArg List.length hk
    have h2 := hv.length
    simp at h1 h2
    omega
  refine ⟨hl, ⟨es, n, h, lit, low⟩, fun z => ?_⟩
  have nin : PySem.W.nsIn K d z = (match es.toList.find? (·.key.isStr z) with
      | some e => some (some e.val)
      | none => if es.toList.any (·.refKey) then none else some none) := by
    unfold PySem.W.nsIn
    rw [h]
    rfl
  rw [nin]
  have anyF : es.toList.any (·.refKey) = false := by
    clear nin hv lit hl
    revert hk
    generalize es.toList = l
    intro hk
    induction l generalizing ks with
    | nil => rfl
    | cons e l ih =>
      cases ks with
      | nil => cases hk
      | cons k ks =>
        simp only [List.map_cons, List.cons.injEq] at hk
        rw [List.any_cons, refKey_no hk.1, ih hk.2]
        rfl
  rw [anyF]
  clear nin lit anyF h hl
  revert hk hv
  generalize es.toList = l
  intro hk hv
  induction l generalizing ks vs with
  | nil =>
    cases ks with
    | nil => exact ⟨none, rfl, by simp [L2.RelO]⟩
    | cons _ _ => cases hk
  | cons e l ih =>
    cases ks with
    | nil => cases hk
    | cons k ks =>
      simp only [List.map_cons, List.cons.injEq] at hk
      cases hv with
      | @cons v _ vs _ a b =>
        rw [List.find?_cons, isStr_key hk.1]
        by_cases hz : z = k
        · subst hz
          exact ⟨some e.val, by simp, by simp [List.lookup]; exact a⟩
        · have hb : (z == k) = false := beq_eq_false_iff_ne.mpr hz
          obtain ⟨r, h1, h2⟩ := ih hk.2 b
          refine ⟨r, ?_, by simp only [List.zip_cons_cons, List.lookup, hb]; exact h2⟩
          simp only [hz, decide_false]
          exact h1
end G
namespace G
open PySem PySem.Spec PyProof.Rows L2
/-! which raised classes a clause takes -/
def tkOf (l : List (String × Bool)) (c : String) : Option Bool := l.lookup c
inductive TkC (K : PySem.W.Frag) (κ : Kap) (cs : List Value) : List (String × Bool) → Prop
  | nil : TkC K κ cs []
  | cons {r : String} {b : Bool} {l : List (String × Bool)} : PySem.W.exmAny K (.ref (κ r)) cs = some b → TkC K κ cs l → TkC K κ cs ((r, b) :: l)
theorem tkOf_ok {K : PySem.W.Frag} {κ : Kap} {cs : List Value} {l : List (String × Bool)} (h : TkC K κ cs l) (c : String) (b : Bool) (q : tkOf l c = some b) : PySem.W.exmAny K (.ref (κ c)) cs = some b := by
  induction h with
  | nil => cases q
  | @cons r b1 l h1 _ ih =>
    unfold tkOf at q ih
    rw [List.lookup_cons] at q
    split at q
    · rename_i e
      cases q
      rw [beq_iff_eq.mp e]
      exact h1
    · exact ih q
end G
namespace G
open PySem PySem.Spec PyProof.Rows L2
/-! a, b = x, y where the names may be cells; three names -/
section
variable {X : Cx}
theorem ps_parC {i j : Nat} {x y : Str} {a b : Expr} {ta : TA} {px py pt pos : Pos} {kt k2 pt2} (hc : X.calm = true) (hN : X.N.Nodup) (hi : X.N[i]? = some x) (hj : X.N[j]? = some y) (hij : i ≠ j)
    (hx : Loc X.env.scope x) (hy : Loc X.env.scope y) (hf : X.fn x = true) (hf2 : X.fn y = true) (ha : PA X [a, b] ta)
    (hw : swappedStores [.Tuple [.Name x px, .Name y py] kt pt] (.Tuple [a, b] k2 pt2) X.env = pure (some [x, y]))
    (hs : swapsWithSole [.Tuple [.Name x px, .Name y py] kt pt] (.Tuple [a, b] k2 pt2) pos.line X.env = pure false := by rfl) :
    PS X (.Assign [.Tuple [.Name x px, .Name y py] kt pt] (.Tuple [a, b] k2 pt2) pos) (tPar i j ta) := by
  refine ⟨fun pins s σ H D I h => ?_⟩
  rw [exec_Assign_arm]
  refine wpAny_bind (wpAny_standAt ?_)
  rw [hs]
  refine wpAny_bind (wpAny_pure ?_)
  rw [if_neg (by decide)]
  refine wpAny_bind (Tuple_ (thn (ha.run _ pins s σ H _ I h) fun us s1 ⟨vs, H1, I1, r1, q1⟩ => ?_))
  obtain ⟨v, w, e1, q1⟩ := q1
  subst e1
  obtain ⟨u1, u2, rfl, rv, rw'⟩ : ∃ u1 u2, us = [u1, u2] ∧ RelV v u1 ∧ RelV w u2 := by
    cases r1 with
    | cons p q =>
      cases q with
      | cons p' q' =>
        cases q'
        exact ⟨_, _, rfl, p, p'⟩
  refine wpAny_newObj_type ?_ (by show 2 ≤ sizeLine; decide)
  have I2 : Inv X pins σ H1 { s1 with heap := s1.heap.push { cls := .type "tuple", data := .seq [u1, u2].toArray } } := I1.kept (t' := s1.toks) fun b o e => Heap.get?_push_of_some _ e
  rw [hw]
  refine wpAny_bind (wpAny_pure ?_)
  show wpAny (model X.prog X.w) X.A (do rule "assign.swapped-stores"; let items ← unpackItems (.ref s1.heap.objs.size) 2 none; assignInOrder [fun v => bindName X.env y v, fun v => bindName X.env x v] items.reverse; pure Flow.next) _ _ _
  refine wpAny_bind (wpAny_rule (wpAny_bind (unpackItems_tuple (items := #[u1, u2]) (I.ok.hd hc) (IsTup.new s1.heap _) fun h' hx' => ?_)))
  have I3 := I2.kept (h' := h') (t' := s1.toks) fun b o e => hx' b o (Nat.ne_of_lt (Heap.lt_size e)) e
  show wpAny _ _ (assignInOrder [fun v => bindName X.env y v, fun v => bindName X.env x v] [u2, u1] >>= fun _ => pure Flow.next) _ _ _
  refine wpAny_bind (assignInOrder_cons (wpAny_bindName (store_ok I3 hN hj hy rw' (fun s2 I4 => ?_) (.inl hf2))))
  refine assignInOrder_cons (wpAny_bindName (store_ok I4 hN hi hx rv (fun s3 I5 => assignInOrder_nil (wpAny_pure ?_)) (.inl hf)))
  rw [List.set_comm _ _ (Ne.symm hij)] at I5
  exact ⟨_, H1, I5, q1⟩
end
def fPar3 (i j l : Nat) (a : FA) : FS := fun δ M => (a δ M).thenS δ fun ds M1 => match ds with
  | [x, y, z] => .nx (((δ.set i (some x)).set j (some y)).set l (some z)) M1
  | _ => .stuck
section
variable {K : PySem.W.Frag} {κ : Kap} {E : EK}
theorem ls_par3 {i j l : Nat} {t : TA} {f : FA} (hE : E.Free) (h : LA K κ E t f) : LS K κ E (tPar3 i j l t) (fPar3 i j l f) := fun σ δ H M ι F T hs hh p => by
  refine h σ δ H M ι F _ hs hh ((SPost.thenS (R := RepL K κ) hs p).mono Ext.refl ?_)
  rintro vs H1 ⟨ds, M1, ι1, F1, e1, h1, r1, p1⟩
  split at p1
  · cases r1 with
    | cons a b => cases b with
      | cons c d => cases d with
        | cons e f =>
          cases f
          exact ⟨_, _, _, rfl, p1 _ H1 ι1 F1 Ext.refl h1 ((((hs.ext e1).set hE a i).set hE c j).set hE e l)⟩
  · exact p1.elim
end
end G
namespace G
open PySem PySem.Spec PyProof.Rows L2
/-! len(d) -/
def rLenD : List V → Hp → VK → Prop := fun xs H Q => ∃ (p : Addr) (kvs : List (Key × V)), xs = [.ref p] ∧ Rd H p (.dK kvs) ∧ Q (.int ((kvs.length : Nat) : Int)) H
theorem call_lenD {X : Cx} : CallR X (.builtin "len") rLenD := by
  intro pins s σ H xs us Q I r h
  obtain ⟨p, kvs, rfl, hp, q⟩ := h
  obtain ⟨u, rfl, rx⟩ := vals1 r
  obtain rfl : u = .ref p := rx
  exact d_len I hp fun t s' I' => ⟨.int ((kvs.length : Nat) : Int), H, I', ⟨_, rfl⟩, q⟩
def gLenD : List D → AH → Res D := fun xs M => match xs with
  | [x] => (match dctOf x M with
    | some (ks, _) => .ok (.int ks.length) M
    | none => .stuck)
  | _ => .stuck
section
variable {K : PySem.W.Frag} {κ : Kap}
theorem lenDK : LRN K κ rLenD gLenD := fun H M ι F xs vs Q e hh r p => by
  unfold gLenD at p
  split at p
  · cases r with
    | cons a b =>
      cases b
      split at p
      · rename_i hx
        obtain ⟨q, ws, rfl, h1, hl, r1⟩ := dct_at hh a hx
        refine ⟨q, _, rfl, h1, ?_⟩
        rw [List.length_zip, ← hl, Nat.min_self]
        exact p.here hh (.int _)
      · exact p.elim
  · exact p.elim
end
end G
namespace PySem
open Sem (wp)
namespace G
theorem ext_list_tup (l : Addr) (items : Array Value) (n : Nat) (b : Addr) (dd : Option Addr) (sl : Array (Option Value)) (items2 : Array Value) (n2 : Nat) (hs0 : ¬(!items.isEmpty && Builtin.List.listTooLong (items.size + items2.size)) = true) (hs1 : items.size ≤ sizeLine) (hs2 : items.size + items2.size ≤ sizeLine + 1 := by seq_fits) :
    Meets (Builtin.«list.extend» ⟨[.ref l, .ref b], []⟩) (fun _ R s => s.heap.get? l = some { cls := .type "list", dict := none, data := .seq items n, slots := #[] } ∧ s.heap.get? b = some { cls := .type "tuple", dict := dd, data := .seq items2 n2, slots := sl } ∧ R (.ok (.ret Value.none)) { s with heap := s.heap.update l (Obj.mapSeq fun x => x ++ items2), toks := s.toks }) :=
  .of_wp fun prog w A R s h => by
    obtain ⟨hp, g, d, tk, os⟩ := s; obtain ⟨hl, hb, h⟩ := h; have f1 := AutoSeq1.idx_int; have f2 := AutoSeq1.sub_tuple_tuple; have f3 := AutoSeq1.sub_list_list; have f4 := AutoSeq1.sub_tuple_list; have f5 := AutoSeq1.sub_list_tuple;
    have hz' : (items ++ items2).size ≤ sizeLine + 1 := by rw [Array.size_append]; exact hs2
    wp_walk using (wpAny_updateSeq hl rfl (hz := hs1) (_hz' := hz')), wpAny_loadPart' hl, wpAny_loadPart' hb; exact ⟨_, rfl, h⟩
end G
end PySem
namespace G
open PySem PySem.Spec PyProof.Rows L2
/-! xs.extend(t), t a list or a tuple -/
def rExtT (K : PySem.W.Frag) : V → List V → Hp → VK → Prop := fun x vs H Q => ∃ l b xs zs, x = .ref l ∧ vs = [.ref b] ∧ H l = some (.lst xs) ∧ SqT K H b zs ∧ xs.length + zs.length ≤ sizeLine ∧ Q .non (upd H l (.lst (xs ++ zs)))
theorem mt_extT {X : Cx} (K : PySem.W.Frag) (h : X.K = K := by rfl) : MtM X "list.extend" (rExtT K) := by
  subst h
  intro pins s σ H x vs v us Q I rx rv h
  obtain ⟨l, b, xs, zs, rfl, rfl, hH, hB, hz, q⟩ := h
  cases rx
  obtain ⟨u, rfl, ru⟩ := rv.one
  cases ru
  obtain ⟨z, its, n, r, hl, e⟩ := I.lstM hH
  obtain ⟨its2, r2, ⟨o2, e2, c2, n2, d2⟩, z2⟩ := I.tuple hB
  obtain ⟨oc, od, odt, osl⟩ := o2
  cases c2
  cases d2
  have hl2 := r2.length
  have hsz : its.toArray.size + its2.toArray.size ≤ sizeLine := by rw [List.size_toArray, List.size_toArray]; omega
  have hlong : ¬ (!its.toArray.isEmpty && Builtin.List.listTooLong (its.toArray.size + its2.toArray.size)) = true := by
    rw [notLongL hsz, Bool.and_false]
    exact Bool.false_ne_true
  refine call_meets F.slot_list_extend ⟨_, e, rfl⟩ F.entry_list_extend (F.args_list_extend_2 _ _)
    (PySem.G.ext_list_tup l its.toArray n b od osl its2.toArray n2 hlong (by rw [List.size_toArray]; omega) (by omega)) ⟨e, e2, ?_⟩
  refine ⟨.non, _, I.lset (its' := its ++ its2) hH e (by simp) (r.append r2) ?_, rfl, q⟩
  rw [List.length_append]
  omega
def mExtT : D → List D → AH → Res D := fun x xs M => match x, xs with
  | .ref l, [d] => (match M[l]? with
    | some (.lst ys) => (match tupOf d with
      | some zs => if ys.length + zs.length ≤ sizeLine then .ok .non (M.set l (.lst (ys ++ zs))) else .stuck
      | none => .stuck)
    | _ => .stuck)
  | _, _ => .stuck
section
variable {K : PySem.W.Frag} {κ : Kap}
theorem extTK : LRM K κ (rExtT K) mExtT := fun H M ι F x xs v vs Q e hh rx r p => by
  unfold mExtT at p
  split at p
  · split at p
    · rename_i ys q
      split at p
      · rename_i zs hz
        split at p
        · rename_i hl
          obtain ⟨a, u, rfl, h1, h2, h3⟩ := relH_ref hh rx q
          cases r with
          | cons ra rb =>
            cases rb
            cases h3 with
            | @lst _ ws h3 =>
              obtain ⟨b, us, rfl, h4, h5⟩ := tup_at hh ra hz
              obtain ⟨e2, hh2⟩ := hh.put (o := .lst (ys ++ zs)) (ho := .lst (ws ++ us)) h1 q rfl (.lst (h3.append h5))
              exact ⟨a, b, ws, us, rfl, rfl, h2, h4, by rw [← h3.len, ← h5.len]; exact hl, p _ _ _ _ e2 hh2 .non⟩
        · exact p.elim
      · exact p.elim
    · exact p.elim
  · exact p.elim
end
end G
namespace K30
open PySem PySem.Spec PyProof.Rows L2 G
def F_is_between : FD := fnF 3 3 (
    (fSeq (fRet (fAndV (fCB gIsi (fCons (fVar 0) (fCons (fC (.ty "int")) fNil))) (fAndV (fNotV (fCB gIsi (fCons (fVar 0) (fCons (fC (.ty "bool")) fNil)))) (fChain gLe gLe (fVar 1) (fVar 0) (fVar 2))))) fNext))
def F_is_job_number : FD := fnF 1 1 (
    (fSeq (fRet (fCall F_is_between (fCons (fVar 0) (fCons (fC (.int 1)) (fCons (fC (.int 1000000)) fNil))))) fNext))
def F__is_node : FD := fnF 3 1 (
    (fSeq (fIfS (fOr (fNot (fTru (fCB gIsi (fCons (fVar 0) (fCons (fC (.ty "tuple")) fNil))))) (fOr (fTest (fOp gNe (fCB gLen (fCons (fVar 0) fNil)) (fC (.int 2)))) (fNot (fTru (fCB gIsi (fCons (fOp gIxS (fVar 0) (fC (.int 0))) (fCons (fC (.ty "str")) fNil))))))) (fSeq (fRet (fC (.bl false))) fNext) fNext)
    (fSeq (fAsg (fVar 0) (fgTup 2 (fgCons (fgName 1) (fgCons (fgName 2) fgNil))))
    (fSeq (fIfS (fTest (fOp (gIn false) (fVar 1) (fTup (fCons (fC (.str (Str.ofString "and"))) (fCons (fC (.str (Str.ofString "or"))) fNil))))) (fSeq (fRet (fAndV (fCB gIsi (fCons (fVar 2) (fCons (fC (.ty "tuple")) fNil))) (fChain gLe gLe (fC (.int 2)) (fCB gLen (fCons (fVar 2) fNil)) (fC (.int 20))))) fNext) fNext)
    (fSeq (fRet (fAndV (fOp (gIn false) (fVar 1) (fC (.tuq [(.str (Str.ofString "begun")), (.str (Str.ofString "over")), (.str (Str.ofString "well")), (.str (Str.ofString "ill")), (.str (Str.ofString "late")), (.str (Str.ofString "left"))]))) (fCall F_is_job_number (fCons (fVar 2) fNil)))) fNext)))))
def L_is_after_formula_1 : FS := (fSeq (fAsg (fBM0 "list" mPop (fVar 1)) (fgTup 2 (fgCons (fgName 4) (fgCons (fgName 5) fgNil))))
    (fSeq (fAsg (fOp gAdd (fVar 2) (fC (.int 1))) (fgName 2))
    (fSeq (fIfS (fOr (fTest (fOp gGt (fVar 2) (fC (.int 60)))) (fOr (fTest (fOp gGt (fVar 5) (fC (.int 8)))) (fNot (fTru (fCall F__is_node (fCons (fVar 4) fNil)))))) (fSeq (fRet (fC (.bl false))) fNext) fNext)
    (fSeq (fIfS (fTest (fOp (gIn false) (fOp gIxS (fVar 4) (fC (.int 0))) (fC (.tuq [(.str (Str.ofString "begun")), (.str (Str.ofString "over")), (.str (Str.ofString "well")), (.str (Str.ofString "ill")), (.str (Str.ofString "late")), (.str (Str.ofString "left"))])))) (fSeq (fDPut (fVar 3) (fOp gIxS (fVar 4) (fC (.int 1))) (fC (.bl true))) fNext) (fSeq (fDrop (fBM "list" mExtend (fVar 1) (fCons (fLc (fiTup (fOp gIxS (fVar 4) (fC (.int 1)))) (fgName 6) fYes (fTup (fCons (fVar 6) (fCons (fOp gAdd (fVar 5) (fC (.int 1))) fNil))) [6]) fNil))) fNext)) fNext))))
def F_is_after_formula : FD := fnF 7 1 (
    (fSeq (fPar3 1 2 3 (fCons (fLst (fCons (fTup (fCons (fVar 0) (fCons (fC (.int 1)) fNil))) fNil)) (fCons (fC (.int 0)) (fCons fDNew fNil))))
    (fSeq (fWhile (fTru (fVar 1)) L_is_after_formula_1 100000)
    (fSeq (fRet (fOp gLe (fCB gLenD (fCons (fVar 3) fNil)) (fC (.int 6)))) fNext))))
def F_is_state : FD := fnF 1 1 (
    (fSeq (fRet (fAndV (fCB gIsi (fCons (fVar 0) (fCons (fC (.ty "str")) fNil))) (fOp (gIn false) (fVar 0) (fC (.tuq [(.str (Str.ofString "waiting")), (.str (Str.ofString "begun")), (.str (Str.ofString "left")), (.str (Str.ofString "well")), (.str (Str.ofString "ill")), (.str (Str.ofString "late")), (.str (Str.ofString "gone"))]))))) fNext))
def F__law_is_refused : LamD → LamD := fnL 1 (fun lam => 
    (fSeq (fTry (fSeq (fDrop (fAct lam)) fNext) [⟨tkOf [("InvalidFormula", true), ("InvalidJob", true)], none, fun xc xp => (fSeq (fRet (fC (.bl true))) fNext)⟩])
    (fSeq (fRet (fC (.bl false))) fNext)))
def F__check_state : FD := fnF 1 1 (
    (fSeq (fIfS (fNot (fTru (fCall F_is_state (fCons (fVar 0) fNil)))) (fSeq (fRaiseN "InvalidJob") fNext) fNext) fNext))
def F_may_follow : FD := fnF 2 2 (
    (fSeq (fDrop (fCall F__check_state (fCons (fVar 0) fNil)))
    (fSeq (fDrop (fCall F__check_state (fCons (fVar 1) fNil)))
    (fSeq (fRet (fOp (gIn false) (fVar 1) (fKGet (fC (.dck [Str.ofString "waiting", Str.ofString "begun"] [(.tuq [(.str (Str.ofString "begun")), (.str (Str.ofString "left"))]), (.tuq [(.str (Str.ofString "well")), (.str (Str.ofString "ill")), (.str (Str.ofString "late")), (.str (Str.ofString "gone"))])])) (fVar 0) (fTup fNil)))) fNext))))
def F_atoms_of : FD := fnF 1 1 (
    (fSeq (fDrop (fCall F__check_state (fCons (fVar 0) fNil)))
    (fSeq (fRet (fOp gKIx (fC (.dck [Str.ofString "waiting", Str.ofString "begun", Str.ofString "left", Str.ofString "well", Str.ofString "ill", Str.ofString "late", Str.ofString "gone"] [(.tuq []), (.tuq [(.str (Str.ofString "begun"))]), (.tuq [(.str (Str.ofString "over")), (.str (Str.ofString "left"))]), (.tuq [(.str (Str.ofString "begun")), (.str (Str.ofString "over")), (.str (Str.ofString "well"))]), (.tuq [(.str (Str.ofString "begun")), (.str (Str.ofString "over")), (.str (Str.ofString "ill"))]), (.tuq [(.str (Str.ofString "begun")), (.str (Str.ofString "over")), (.str (Str.ofString "late"))]), (.tuq [(.str (Str.ofString "begun")), (.str (Str.ofString "over"))])])) (fVar 0))) fNext)))
def F_ends_of : FD := fnF 1 1 (
    (fSeq (fDrop (fCall F__check_state (fCons (fVar 0) fNil)))
    (fSeq (fRet (fOp gKIx (fC (.dck [Str.ofString "waiting", Str.ofString "begun", Str.ofString "left", Str.ofString "well", Str.ofString "ill", Str.ofString "late", Str.ofString "gone"] [(.tuq [(.str (Str.ofString "left")), (.str (Str.ofString "well")), (.str (Str.ofString "ill")), (.str (Str.ofString "late")), (.str (Str.ofString "gone"))]), (.tuq [(.str (Str.ofString "well")), (.str (Str.ofString "ill")), (.str (Str.ofString "late")), (.str (Str.ofString "gone"))]), (.tuq [(.str (Str.ofString "left"))]), (.tuq [(.str (Str.ofString "well"))]), (.tuq [(.str (Str.ofString "ill"))]), (.tuq [(.str (Str.ofString "late"))]), (.tuq [(.str (Str.ofString "gone"))])])) (fVar 0))) fNext)))
def L_words_by_job_1 : FS := (fSeq (fAsg (fBM0 "list" mPop (fVar 2)) (fgTup 2 (fgCons (fgName 3) (fgCons (fgName 4) fgNil))))
    (fSeq (fIfS (fTest (fOp (gIn false) (fVar 3) (fTup (fCons (fC (.str (Str.ofString "and"))) (fCons (fC (.str (Str.ofString "or"))) fNil))))) (fSeq (fDrop (fBM "list" mExtT (fVar 2) (fCons (fVar 4) fNil))) fNext) (fSeq (fDPut (fDSetd (fVar 1) (fVar 4) fDNew) (fVar 3) (fC (.bl true))) fNext)) fNext))
def F_words_by_job : FD := fnF 5 1 (
    (fSeq (fPar 1 2 (fCons fDNew (fCons (fLst (fCons (fVar 0) fNil)) fNil)))
    (fSeq (fWhile (fTru (fVar 2)) L_words_by_job_1 100000)
    (fSeq (fRet (fVar 1)) fNext))))
def F__jobs_of : FD := fnF 1 1 (
    (fSeq (fRet (fCB gTuple (fCons (fCB gSortDI (fCons (fCall F_words_by_job (fCons (fVar 0) fNil)) fNil)) fNil))) fNext))
def F__check_formula : FD := fnF 1 1 (
    (fSeq (fIfS (fNot (fTru (fCall F_is_after_formula (fCons (fVar 0) fNil)))) (fSeq (fRaiseN "InvalidFormula") fNext) fNext) fNext))
def F_jobs_named : FD := fnF 1 1 (
    (fSeq (fDrop (fCall F__check_formula (fCons (fVar 0) fNil)))
    (fSeq (fRet (fCall F__jobs_of (fCons (fVar 0) fNil))) fNext)))
def F__law_roll : FD := fnF 5 2 (
    (fSeq (fIfS (fTest (fOp gGt (fOp gIxS (fVar 0) (fC (.int 0))) (fC (.int 0)))) (fSeq (fAsg (fOp gMod (fCB gInt (fCons (fOp gIxS (fVar 0) (fC (.int 0))) fNil)) (fVar 1)) (fgName 2))
    (fSeq (fAsg (fOp gDiv (fOp gIxS (fVar 0) (fC (.int 0))) (fVar 1)) (fgSub (fVar 0) (fC (.int 0))))
    (fSeq (fRet (fVar 2)) fNext))) fNext)
    (fSeq (fAsg (fOp gAdd (fOp gIxS (fVar 0) (fC (.int 2))) (fC (.int 1))) (fgSub (fVar 0) (fC (.int 2))))
    (fSeq (fAsg (fOp gMod (fCB gInt (fCons (fOp gAdd (fOp gIxS (fVar 0) (fC (.int 1))) (fOp gMul (fC (.int 67867967)) (fOp gIxS (fVar 0) (fC (.int 2))))) fNil)) (fC (.int 2305843009213693561))) (fgName 3))
    (fSeq (fAsg (fOp gAdd (fOp gMul (fOp gMod (fCB gInt (fCons (fOp gAdd (fOp gMul (fVar 3) (fVar 3)) (fOp gMul (fC (.int 101)) (fOp gIxS (fVar 0) (fC (.int 2))))) fNil)) (fC (.int 2305843009213693907))) (fC (.int 7368847))) (fVar 3)) (fgName 4))
    (fSeq (fRet (fOp gMod (fCB gInt (fCons (fOp gDiv (fVar 4) (fC (.int 65536))) fNil)) (fVar 1))) fNext))))))
def F__law_pick : FD := fnF 2 2 (
    (fSeq (fRet (fOp gIxS (fVar 1) (fCall F__law_roll (fCons (fVar 0) (fCons (fCB gLen (fCons (fVar 1) fNil)) fNil))))) fNext))
def L__law_bent_1 : FS := (fSeq (fAsg (fTup (fCons (fC (.str (Str.ofString "and"))) (fCons (fTup (fCons (fVar 3) (fCons (fVar 2) fNil))) fNil))) (fgName 3)) fNext)
def F__law_bent : FD := fnF 8 2 (
    (fSeq (fPar 2 3 (fCons (fTup (fCons (fC (.str (Str.ofString "begun"))) (fCons (fC (.int 1)) fNil))) (fCons (fVar 1) fNil)))
    (fSeq (fFor (fiRng1 (fC (.int 8))) (fgName 4) L__law_bent_1)
    (fSeq (fAsg (fLst (fCons (fCB gList (fCons (fVar 1) fNil)) (fCons (fTup (fCons (fC (.str (Str.ofString "not"))) (fCons (fVar 1) fNil))) (fCons (fTup (fCons (fC (.str (Str.ofString "and"))) (fCons (fTup (fCons (fVar 1) fNil)) fNil))) (fCons (fTup (fCons (fC (.str (Str.ofString "or"))) (fCons (fLst (fCons (fVar 1) (fCons (fVar 1) fNil))) fNil))) (fCons (fTup (fCons (fC (.str (Str.ofString "and"))) (fCons (fTup (fCons (fVar 1) (fCons (fC .non) fNil))) fNil))) (fCons (fTup (fCons (fC (.str (Str.ofString "or"))) (fCons (fTup fNil) fNil))) (fCons (fTup (fCons (fC (.str (Str.ofString "or"))) (fCons (fOp gMulT (fTup (fCons (fVar 2) fNil)) (fC (.int 21))) fNil))) fNil)))))))) (fgName 5))
    (fSeq (fAsg (fOp gAdd (fVar 5) (fLst (fCons (fTup (fCons (fC (.str (Str.ofString "gone"))) (fCons (fC (.int 1)) fNil))) (fCons (fTup (fCons (fC (.str (Str.ofString "waiting"))) (fCons (fC (.int 1)) fNil))) (fCons (fTup (fCons (fC (.str (Str.ofString "well"))) (fCons (fC (.int 0)) fNil))) (fCons (fTup (fCons (fC (.str (Str.ofString "well"))) (fCons (fC (.int 1000001)) fNil))) (fCons (fTup (fCons (fC (.str (Str.ofString "well"))) (fCons (fC (.bl true)) fNil))) (fCons (fTup (fCons (fC (.str (Str.ofString "well"))) (fCons (fC (.str (Str.ofString "1"))) fNil))) (fCons (fTup (fCons (fC (.str (Str.ofString "well"))) fNil)) fNil))))))))) (fgName 5))
    (fSeq (fAsg (fOp gAdd (fVar 5) (fLst (fCons (fVar 3) (fCons (fTup (fCons (fC (.str (Str.ofString "and"))) (fCons (fCB gTuple (fCons (fLc (fiRng2 (fC (.int 1)) (fC (.int 8))) (fgName 6) fYes (fTup (fCons (fC (.str (Str.ofString "left"))) (fCons (fVar 6) fNil))) [6]) fNil)) fNil))) (fCons (fTup (fCons (fC (.str (Str.ofString "well"))) (fCons (fC (.int 1)) (fCons (fC (.int 2)) fNil)))) (fCons (fC .non) (fCons (fC (.str (Str.ofString "well(1)"))) fNil))))))) (fgName 5))
    (fSeq (fAsg (fTup (fCons (fC (.str (Str.ofString "and"))) (fCons (fTup (fCons (fTup (fCons (fC (.str (Str.ofString "or"))) (fCons (fOp gMulT (fTup (fCons (fVar 2) fNil)) (fC (.int 19))) fNil))) (fCons (fTup (fCons (fC (.str (Str.ofString "or"))) (fCons (fOp gMulT (fTup (fCons (fVar 2) fNil)) (fC (.int 19))) fNil))) (fCons (fTup (fCons (fC (.str (Str.ofString "or"))) (fCons (fOp gMulT (fTup (fCons (fVar 2) fNil)) (fC (.int 18))) fNil))) fNil)))) fNil))) (fgName 7))
    (fSeq (fRet (fOp gAdd (fVar 5) (fLst (fCons (fTup (fCons (fC (.str (Str.ofString "or"))) (fCons (fTup (fCons (fVar 7) (fCons (fVar 2) fNil))) fNil))) (fCons (fOp gAdd (fVar 1) (fTup (fCons (fVar 1) fNil))) (fCons fDNew (fCons (fLst fNil) (fCons (fTup fNil) fNil)))))))) fNext))))))))
def L__law_after_jobs_1 (rec__law_after_jobs : FD) : FS := (fSeq (fDrop (fBM "list" mExtend (fVar 1) (fCons (fLc (fiList (fCall rec__law_after_jobs (fCons (fVar 2) fNil))) (fgName 3) (fTest (fOp (gIn true) (fVar 3) (fVar 1))) (fVar 3) [3]) fNil))) fNext)
def F__law_after_jobs_b (rec__law_after_jobs : FD) : FD := fnF 4 1 (
    (fSeq (fAsg (fLst fNil) (fgName 1))
    (fSeq (fIfS (fTest (fOp (gIn true) (fOp gIxS (fVar 0) (fC (.int 0))) (fTup (fCons (fC (.str (Str.ofString "and"))) (fCons (fC (.str (Str.ofString "or"))) fNil))))) (fSeq (fRet (fLst (fCons (fOp gIxS (fVar 0) (fC (.int 1))) fNil))) fNext) fNext)
    (fSeq (fFor (fiTup (fOp gIxS (fVar 0) (fC (.int 1)))) (fgName 2) (L__law_after_jobs_1 rec__law_after_jobs))
    (fSeq (fRet (fCB gSortL (fCons (fVar 1) fNil))) fNext)))))
def F__law_after_jobs_n : Nat → FD
  | 0 => fStuck
  | n + 1 => F__law_after_jobs_b (F__law_after_jobs_n n)
def F__law_after_jobs : FD := F__law_after_jobs_n 5
def F__law_after_atom : FD := fnF 2 2 (
    (fSeq (fRet (fTup (fCons (fCall F__law_pick (fCons (fVar 0) (fCons (fLst (fCons (fC (.str (Str.ofString "begun"))) (fCons (fC (.str (Str.ofString "over"))) (fCons (fC (.str (Str.ofString "well"))) (fCons (fC (.str (Str.ofString "ill"))) (fCons (fC (.str (Str.ofString "late"))) (fCons (fC (.str (Str.ofString "left"))) fNil))))))) fNil))) (fCons (fCall F__law_pick (fCons (fVar 0) (fCons (fVar 1) fNil))) fNil)))) fNext))
def F__law_after_drawn_b (rec__law_after_drawn : FD) : FD := fnF 5 3 (
    (fSeq (fIfS (fOr (fTest (fOp gLe (fVar 2) (fC (.int 0)))) (fTest (fOp gEq (fCall F__law_roll (fCons (fVar 0) (fCons (fC (.int 3)) fNil))) (fC (.int 0))))) (fSeq (fRet (fCall F__law_after_atom (fCons (fVar 0) (fCons (fVar 1) fNil)))) fNext) fNext)
    (fSeq (fAsg (fLc (fiRng1 (fOp gAdd (fC (.int 2)) (fCall F__law_roll (fCons (fVar 0) (fCons (fC (.int 2)) fNil))))) (fgName 4) fYes (fCall rec__law_after_drawn (fCons (fVar 0) (fCons (fVar 1) (fCons (fOp gSubI (fVar 2) (fC (.int 1))) fNil)))) [4]) (fgName 3))
    (fSeq (fRet (fTup (fCons (fCall F__law_pick (fCons (fVar 0) (fCons (fLst (fCons (fC (.str (Str.ofString "and"))) (fCons (fC (.str (Str.ofString "and"))) (fCons (fC (.str (Str.ofString "or"))) fNil)))) fNil))) (fCons (fCB gTuple (fCons (fVar 3) fNil)) fNil)))) fNext))))
def F__law_after_drawn_n : Nat → FD
  | 0 => fStuck
  | n + 1 => F__law_after_drawn_b (F__law_after_drawn_n n)
def F__law_after_drawn : FD := F__law_after_drawn_n 5
def F__law_dice : FD := fnK 4 2 (
    (fSeq (fAsg (fIf (fTest (fOp gLt (fVar 1) (fCB gLen (fCons (fVar 0) fNil)))) (fCB gInt (fCons (fOp gIxS (fVar 0) (fVar 1)) fNil)) (fOp gAdd (fOp gMul (fC (.int 71)) (fVar 1)) (fC (.int 31)))) (fgName 2))
    (fSeq (fAsg (fOp gMod (fCB gMax (fCons (fC (.int 0)) (fCons (fOp gSubI (fCB gAbs (fCons (fVar 2) fNil)) (fOp gPow (fC (.int 10)) (fC (.int 16)))) fNil))) (fOp gMul (fOp gPow (fC (.int 10)) (fC (.int 60))) (fOp gPow (fC (.int 10)) (fC (.int 60))))) (fgName 3))
    (fSeq (fRet (fLst (fCons (fVar 3) (fCons (fOp gAdd (fOp gAdd (fOp gAdd (fOp gMul (fOp gMod (fCB gAbs (fCons (fVar 2) fNil)) (fC (.int 1152921504606846697))) (fC (.int 59))) (fOp gMul (fC (.int 821)) (fVar 1))) (fOp gMul (fC (.int 37)) (fCB gInt (fCons (fOp gLt (fVar 2) (fC (.int 0))) fNil)))) (fC (.int 5))) (fCons (fC (.int 0)) fNil))))) fNext))))
def F__law_all_states : FD := fnF 0 0 (
    (fSeq (fRet (fLst (fCons (fC (.str (Str.ofString "waiting"))) (fCons (fC (.str (Str.ofString "begun"))) (fCons (fC (.str (Str.ofString "left"))) (fCons (fC (.str (Str.ofString "well"))) (fCons (fC (.str (Str.ofString "ill"))) (fCons (fC (.str (Str.ofString "late"))) (fCons (fC (.str (Str.ofString "gone"))) fNil))))))))) fNext))
def F__law_atom_holds : FD := fnF 2 2 (
    (fSeq (fIfS (fTest (fOp gEq (fVar 0) (fC (.str (Str.ofString "begun"))))) (fSeq (fRet (fOp (gIn true) (fVar 1) (fTup (fCons (fC (.str (Str.ofString "waiting"))) (fCons (fC (.str (Str.ofString "left"))) fNil))))) fNext) fNext)
    (fSeq (fRet (fIf (fTest (fOp gEq (fVar 0) (fC (.str (Str.ofString "over"))))) (fOp (gIn true) (fVar 1) (fTup (fCons (fC (.str (Str.ofString "waiting"))) (fCons (fC (.str (Str.ofString "begun"))) fNil)))) (fOp gEq (fVar 1) (fVar 0)))) fNext)))
def F__law_ends_behind : FD := fnF 1 1 (
    (fSeq (fIfS (fTest (fOp gEq (fVar 0) (fC (.str (Str.ofString "waiting"))))) (fSeq (fRet (fLst (fCons (fC (.str (Str.ofString "left"))) (fCons (fC (.str (Str.ofString "well"))) (fCons (fC (.str (Str.ofString "ill"))) (fCons (fC (.str (Str.ofString "late"))) (fCons (fC (.str (Str.ofString "gone"))) fNil))))))) fNext) fNext)
    (fSeq (fRet (fIf (fTest (fOp gEq (fVar 0) (fC (.str (Str.ofString "begun"))))) (fLst (fCons (fC (.str (Str.ofString "well"))) (fCons (fC (.str (Str.ofString "ill"))) (fCons (fC (.str (Str.ofString "late"))) (fCons (fC (.str (Str.ofString "gone"))) fNil))))) (fLst (fCons (fVar 0) fNil)))) fNext)))
def L__law_states_right_1 : FS := (fSeq (fIfS (fTest (fOp gNe (fCB gRepr (fCons (fCall F_may_follow (fCons (fVar 1) (fCons (fVar 4) fNil))) fNil)) (fCB gRepr (fCons (fOp (gIn false) (fVar 4) (fVar 3)) fNil)))) (fSeq (fRet (fC (.bl false))) fNext) fNext) fNext)
def L__law_states_right_2 : FS := (fSeq (fIfS (fOr (fTest (fOp gNe (fCall F_ends_of (fCons (fVar 1) fNil)) (fCB gTuple (fCons (fCall F__law_ends_behind (fCons (fVar 1) fNil)) fNil)))) (fTest (fOp (gIsB true) (fCall F_is_state (fCons (fVar 1) fNil)) (fC (.bl true))))) (fSeq (fRet (fC (.bl false))) fNext) fNext)
    (fSeq (fIfS (fTest (fOp gNe (fCall F_atoms_of (fCons (fVar 1) fNil)) (fCB gTuple (fCons (fLc (fiList (fVar 0)) (fgName 2) (fTru (fCall F__law_atom_holds (fCons (fVar 2) (fCons (fVar 1) fNil)))) (fVar 2) [2]) fNil)))) (fSeq (fRet (fC (.bl false))) fNext) fNext)
    (fSeq (fAsg (fDGet2 (fDisp [((fC (.str (Str.ofString "waiting"))), (fLst (fCons (fC (.str (Str.ofString "begun"))) (fCons (fC (.str (Str.ofString "left"))) fNil)))), ((fC (.str (Str.ofString "begun"))), (fLst (fCons (fC (.str (Str.ofString "well"))) (fCons (fC (.str (Str.ofString "ill"))) (fCons (fC (.str (Str.ofString "late"))) (fCons (fC (.str (Str.ofString "gone"))) fNil))))))]) (fVar 1) (fLst fNil)) (fgName 3))
    (fSeq (fFor (fiList (fCall F__law_all_states fNil)) (fgName 4) L__law_states_right_1) fNext))))
def F__law_states_right : FD := fnF 5 0 (
    (fSeq (fIfS (fTest (fOp gNe (fC (.tuq [(.str (Str.ofString "waiting")), (.str (Str.ofString "begun")), (.str (Str.ofString "left")), (.str (Str.ofString "well")), (.str (Str.ofString "ill")), (.str (Str.ofString "late")), (.str (Str.ofString "gone"))])) (fCB gTuple (fCons (fCall F__law_all_states fNil) fNil)))) (fSeq (fRet (fC (.bl false))) fNext) fNext)
    (fSeq (fAsg (fLst (fCons (fC (.str (Str.ofString "begun"))) (fCons (fC (.str (Str.ofString "over"))) (fCons (fC (.str (Str.ofString "well"))) (fCons (fC (.str (Str.ofString "ill"))) (fCons (fC (.str (Str.ofString "late"))) (fCons (fC (.str (Str.ofString "left"))) fNil))))))) (fgName 0))
    (fSeq (fFor (fiList (fCall F__law_all_states fNil)) (fgName 1) L__law_states_right_2)
    (fSeq (fRet (fC (.bl true))) fNext)))))
def L_law_1 : FS := (fSeq (fAsg (fCall F__law_dice (fCons (fVar 0) (fCons (fVar 1) fNil))) (fgName 2))
    (fSeq (fAsg (fCall F__law_after_drawn (fCons (fVar 2) (fCons (fLst (fCons (fC (.int 1)) (fCons (fC (.int 2)) (fCons (fC (.int 30)) (fCons (fC (.int 1000000)) fNil))))) (fCons (fC (.int 3)) fNil)))) (fgName 3))
    (fSeq (fIfS (fOr (fTest (fOp (gIsB true) (fCall F_is_after_formula (fCons (fVar 3) fNil)) (fC (.bl true)))) (fTest (fOp gNe (fCall F_jobs_named (fCons (fVar 3) fNil)) (fCB gTuple (fCons (fCall F__law_after_jobs (fCons (fVar 3) fNil)) fNil))))) (fSeq (fRet (fC (.bl false))) fNext) fNext)
    (fSeq (fAsg (fCall F__law_bent (fCons (fVar 2) (fCons (fVar 3) fNil))) (fgName 4))
    (fSeq (fIfS (fTest (fOp gNe (fLc (fiList (fVar 4)) (fgName 5) (fTest (fOp (gIsB true) (fCall F_is_after_formula (fCons (fVar 5) fNil)) (fC (.bl false)))) (fVar 5) [5]) (fLst fNil))) (fSeq (fRet (fC (.bl false))) fNext) fNext)
    (fSeq (fAsg (fTup (fCons (fCall F__law_pick (fCons (fVar 2) (fCons (fVar 4) fNil))) (fCons (fCall F__law_pick (fCons (fVar 2) (fCons (fLst (fCons (fC .non) (fCons (fC (.int 0)) (fCons (fC (.str (Str.ofString "over"))) (fCons (fC (.str (Str.ofString "Well"))) (fCons (fC (.str (Str.ofString ""))) (fCons (fTup (fCons (fC (.str (Str.ofString "well"))) fNil)) (fCons (fLst fNil) (fCons fDNew (fCons (fC (.bl true)) fNil)))))))))) fNil))) fNil))) (fgTup 2 (fgCons (fgName 6) (fgCons (fgName 7) fgNil))))
    (fSeq (fAsg (fLst (fCons (fLam F__law_is_refused (fCall F_jobs_named (fCons (fVar 6) fNil))) fNil)) (fgName 8))
    (fSeq (fDrop (fBM "list" mAppend (fVar 8) (fCons (fLam F__law_is_refused (fCall F_ends_of (fCons (fVar 7) fNil))) fNil)))
    (fSeq (fDrop (fBM "list" mAppend (fVar 8) (fCons (fLam F__law_is_refused (fCall F_atoms_of (fCons (fVar 7) fNil))) fNil)))
    (fSeq (fDrop (fBM "list" mAppend (fVar 8) (fCons (fLam F__law_is_refused (fCall F_may_follow (fCons (fC (.str (Str.ofString "waiting"))) (fCons (fVar 7) fNil)))) fNil)))
    (fSeq (fDrop (fBM "list" mAppend (fVar 8) (fCons (fLam F__law_is_refused (fCall F_may_follow (fCons (fVar 7) (fCons (fC (.str (Str.ofString "left"))) fNil)))) fNil)))
    (fSeq (fIfS (fOr (fTest (fOp gNe (fVar 8) (fOp gMul (fLst (fCons (fC (.bl true)) fNil)) (fC (.int 5))))) (fTest (fOp (gIsB true) (fCall F_is_state (fCons (fVar 7) fNil)) (fC (.bl false))))) (fSeq (fRet (fC (.bl false))) fNext) fNext) fNext))))))))))))
def F_law : FD := fnF 12 1 (
    (fSeq (fIfS (fNot (fTru (fCall F__law_states_right fNil))) (fSeq (fRet (fC (.bl false))) fNext) fNext)
    (fSeq (fFor (fiRng1 (fCB gMax (fCons (fC (.int 1)) (fCons (fCB gMin (fCons (fC (.int 4)) (fCons (fCB gLen (fCons (fVar 0) fNil)) fNil))) fNil)))) (fgName 1) L_law_1)
    (fSeq (fAsg (fTup (fCons (fC (.str (Str.ofString "begun"))) (fCons (fC (.int 1)) fNil))) (fgName 9))
    (fSeq (fAsg (fTup (fCons (fC (.str (Str.ofString "and"))) (fCons (fTup (fCons (fTup (fCons (fC (.str (Str.ofString "or"))) (fCons (fOp gMulT (fTup (fCons (fVar 9) fNil)) (fC (.int 19))) fNil))) (fCons (fTup (fCons (fC (.str (Str.ofString "or"))) (fCons (fOp gMulT (fTup (fCons (fVar 9) fNil)) (fC (.int 19))) fNil))) (fCons (fTup (fCons (fC (.str (Str.ofString "or"))) (fCons (fOp gMulT (fTup (fCons (fVar 9) fNil)) (fC (.int 18))) fNil))) fNil)))) fNil))) (fgName 10))
    (fSeq (fRet (fAndV (fOp (gIsB false) (fCall F_is_after_formula (fCons (fVar 10) fNil)) (fC (.bl true))) (fOp (gIsB false) (fCall F_is_after_formula (fCons (fTup (fCons (fC (.str (Str.ofString "and"))) (fCons (fCB gTuple (fCons (fLc (fiRng1 (fC (.int 6))) (fgName 11) fYes (fTup (fCons (fC (.str (Str.ofString "left"))) (fCons (fOp gAdd (fVar 11) (fC (.int 1))) fNil))) [11]) fNil)) fNil))) fNil)) (fC (.bl true))))) fNext))))))

end K30
namespace K30
open PySem PySem.Spec PyProof.Rows L2 G
def topS (i : Nat) : Stmt := PySem.Challenge.pw_toldstarts_k30_states_and_formulas_told.main.body.getD i (.Pass ⟨0, 0, 0, 0⟩)
abbrev s_is_between : Stmt := topS 2
theorem sc_is_between : FnScope ["value", "low", "high"] ["value", "low", "high"] (defScope s_is_between) := ⟨rfl, rfl, rfl, by decide +kernel, rfl, by decide +kernel, by decide +kernel⟩
abbrev s_is_job_number : Stmt := topS 3
theorem sc_is_job_number : FnScope ["value"] ["value"] (defScope s_is_job_number) := ⟨rfl, rfl, rfl, by decide +kernel, rfl, by decide +kernel, by decide +kernel⟩
abbrev s__is_node : Stmt := topS 28
theorem sc__is_node : FnScope ["value", "word", "rest"] ["value"] (defScope s__is_node) := ⟨rfl, rfl, rfl, by decide +kernel, rfl, by decide +kernel, by decide +kernel⟩
abbrev s_is_after_formula : Stmt := topS 26
theorem sc_is_after_formula : FnScope ["value", "waiting", "nodes", "jobs", "f", "depth", "part"] ["value"] (defScope s_is_after_formula) := ⟨rfl, rfl, rfl, by decide +kernel, rfl, by decide +kernel, by decide +kernel⟩
abbrev s_is_state : Stmt := topS 14
theorem sc_is_state : FnScope ["value"] ["value"] (defScope s_is_state) := ⟨rfl, rfl, rfl, by decide +kernel, rfl, by decide +kernel, by decide +kernel⟩
abbrev s__law_is_refused : Stmt := topS 41
theorem sc__law_is_refused : FnScope ["call"] ["call"] (defScope s__law_is_refused) := ⟨rfl, rfl, rfl, by decide +kernel, rfl, by decide +kernel, by decide +kernel⟩
abbrev s__check_state : Stmt := topS 18
theorem sc__check_state : FnScope ["value"] ["value"] (defScope s__check_state) := ⟨rfl, rfl, rfl, by decide +kernel, rfl, by decide +kernel, by decide +kernel⟩
abbrev s_may_follow : Stmt := topS 17
theorem sc_may_follow : FnScope ["one", "other"] ["one", "other"] (defScope s_may_follow) := ⟨rfl, rfl, rfl, by decide +kernel, rfl, by decide +kernel, by decide +kernel⟩
abbrev s_atoms_of : Stmt := topS 16
theorem sc_atoms_of : FnScope ["state"] ["state"] (defScope s_atoms_of) := ⟨rfl, rfl, rfl, by decide +kernel, rfl, by decide +kernel, by decide +kernel⟩
abbrev s_ends_of : Stmt := topS 15
theorem sc_ends_of : FnScope ["state"] ["state"] (defScope s_ends_of) := ⟨rfl, rfl, rfl, by decide +kernel, rfl, by decide +kernel, by decide +kernel⟩
abbrev s_words_by_job : Stmt := topS 20
theorem sc_words_by_job : FnScope ["f", "found", "parts", "word", "rest"] ["f"] (defScope s_words_by_job) := ⟨rfl, rfl, rfl, by decide +kernel, rfl, by decide +kernel, by decide +kernel⟩
abbrev s__jobs_of : Stmt := topS 29
theorem sc__jobs_of : FnScope ["f"] ["f"] (defScope s__jobs_of) := ⟨rfl, rfl, rfl, by decide +kernel, rfl, by decide +kernel, by decide +kernel⟩
abbrev s__check_formula : Stmt := topS 30
theorem sc__check_formula : FnScope ["value"] ["value"] (defScope s__check_formula) := ⟨rfl, rfl, rfl, by decide +kernel, rfl, by decide +kernel, by decide +kernel⟩
abbrev s_jobs_named : Stmt := topS 27
theorem sc_jobs_named : FnScope ["f"] ["f"] (defScope s_jobs_named) := ⟨rfl, rfl, rfl, by decide +kernel, rfl, by decide +kernel, by decide +kernel⟩
abbrev s__law_roll : Stmt := topS 33
theorem sc__law_roll : FnScope ["dice", "total", "found", "one", "two"] ["dice", "total"] (defScope s__law_roll) := ⟨rfl, rfl, rfl, by decide +kernel, rfl, by decide +kernel, by decide +kernel⟩
abbrev s__law_pick : Stmt := topS 34
theorem sc__law_pick : FnScope ["dice", "items"] ["dice", "items"] (defScope s__law_pick) := ⟨rfl, rfl, rfl, by decide +kernel, rfl, by decide +kernel, by decide +kernel⟩
abbrev s__law_bent : Stmt := topS 43
theorem sc__law_bent : FnScope ["dice", "f", "one", "deep", "turn", "found", "number", "many"] ["dice", "f"] (defScope s__law_bent) := ⟨rfl, rfl, rfl, by decide +kernel, rfl, by decide +kernel, by decide +kernel⟩
abbrev s__law_after_jobs : Stmt := topS 38
theorem sc__law_after_jobs : FnScope ["f", "found", "part", "number"] ["f"] (defScope s__law_after_jobs) := ⟨rfl, rfl, rfl, by decide +kernel, rfl, by decide +kernel, by decide +kernel⟩
abbrev s__law_after_atom : Stmt := topS 39
theorem sc__law_after_atom : FnScope ["dice", "jobs"] ["dice", "jobs"] (defScope s__law_after_atom) := ⟨rfl, rfl, rfl, by decide +kernel, rfl, by decide +kernel, by decide +kernel⟩
abbrev s__law_after_drawn : Stmt := topS 40
theorem sc__law_after_drawn : FnScope ["dice", "jobs", "deep", "parts", "turn"] ["dice", "jobs", "deep"] (defScope s__law_after_drawn) := ⟨rfl, rfl, rfl, by decide +kernel, rfl, by decide +kernel, by decide +kernel⟩
abbrev s__law_dice : Stmt := topS 32
theorem sc__law_dice : FnScope ["script", "spot", "cell", "left"] ["script", "spot"] (defScope s__law_dice) := ⟨rfl, rfl, rfl, by decide +kernel, rfl, by decide +kernel, by decide +kernel⟩
abbrev s__law_all_states : Stmt := topS 35
theorem sc__law_all_states : FnScope [] [] (defScope s__law_all_states) := ⟨rfl, rfl, rfl, by decide +kernel, rfl, by decide +kernel, by decide +kernel⟩
abbrev s__law_atom_holds : Stmt := topS 37
theorem sc__law_atom_holds : FnScope ["word", "state"] ["word", "state"] (defScope s__law_atom_holds) := ⟨rfl, rfl, rfl, by decide +kernel, rfl, by decide +kernel, by decide +kernel⟩
abbrev s__law_ends_behind : Stmt := topS 36
theorem sc__law_ends_behind : FnScope ["state"] ["state"] (defScope s__law_ends_behind) := ⟨rfl, rfl, rfl, by decide +kernel, rfl, by decide +kernel, by decide +kernel⟩
abbrev s__law_states_right : Stmt := topS 42
theorem sc__law_states_right : FnScope ["words", "state", "word", "nexts", "other"] [] (defScope s__law_states_right) := ⟨rfl, rfl, rfl, by decide +kernel, rfl, by decide +kernel, by decide +kernel⟩
abbrev s_law : Stmt := topS 44
theorem sc_law : FnScope ["script", "spot", "dice", "f", "bent", "value", "odd", "word", "told", "one", "most", "at"] ["script"] (defScope s_law) := ⟨rfl, rfl, rfl, by decide +kernel, rfl, by decide +kernel, by decide +kernel⟩
structure Txt (K : PySem.W.Frag) (κ : Kap) (mg : Str → Option Value) : Prop where
  n_isinstance : mg "isinstance" = none
  n_bool : mg "bool" = none
  n_int : mg "int" = none
  g_MAX_JOB_NUMBER : ∃ t, mg "MAX_JOB_NUMBER" = some (.int 1000000 t)
  ct_ATOM_WORDS : mg "ATOM_WORDS" = some (.ref (κ "const:ATOM_WORDS"))
  rp_ATOM_WORDS : ∀ ι F, Rep K κ ι F (.tuq [(.str (Str.ofString "begun")), (.str (Str.ofString "over")), (.str (Str.ofString "well")), (.str (Str.ofString "ill")), (.str (Str.ofString "late")), (.str (Str.ofString "left"))]) (.ref (κ "const:ATOM_WORDS"))
  n_len : mg "len" = none
  g_MAX_MEMBERS : ∃ t, mg "MAX_MEMBERS" = some (.int 20 t)
  n_tuple : mg "tuple" = none
  n_str : mg "str" = none
  g_MAX_NAMED : ∃ t, mg "MAX_NAMED" = some (.int 6 t)
  g_MAX_DEEP : ∃ t, mg "MAX_DEEP" = some (.int 8 t)
  g_MAX_AFTER_NODES : ∃ t, mg "MAX_AFTER_NODES" = some (.int 60 t)
  ct_STATES : mg "STATES" = some (.ref (κ "const:STATES"))
  rp_STATES : ∀ ι F, Rep K κ ι F (.tuq [(.str (Str.ofString "waiting")), (.str (Str.ofString "begun")), (.str (Str.ofString "left")), (.str (Str.ofString "well")), (.str (Str.ofString "ill")), (.str (Str.ofString "late")), (.str (Str.ofString "gone"))]) (.ref (κ "const:STATES"))
  cx_InvalidFormula : mg "InvalidFormula" = some (.ref (κ "InvalidFormula"))
  cx_InvalidJob : mg "InvalidJob" = some (.ref (κ "InvalidJob"))
  xx_InvalidFormula_InvalidFormula_InvalidJob : PySem.W.exmAny K (.ref (κ "InvalidFormula")) [.ref (κ "InvalidFormula"), .ref (κ "InvalidJob")] = some true
  xx_InvalidJob_InvalidFormula_InvalidJob : PySem.W.exmAny K (.ref (κ "InvalidJob")) [.ref (κ "InvalidFormula"), .ref (κ "InvalidJob")] = some true
  ct_FOLLOWERS : mg "FOLLOWERS" = some (.ref (κ "const:FOLLOWERS"))
  rp_FOLLOWERS : ∀ ι F, Rep K κ ι F (.dck [Str.ofString "waiting", Str.ofString "begun"] [(.tuq [(.str (Str.ofString "begun")), (.str (Str.ofString "left"))]), (.tuq [(.str (Str.ofString "well")), (.str (Str.ofString "ill")), (.str (Str.ofString "late")), (.str (Str.ofString "gone"))])]) (.ref (κ "const:FOLLOWERS"))
  ct_TRUE_WORDS : mg "TRUE_WORDS" = some (.ref (κ "const:TRUE_WORDS"))
  rp_TRUE_WORDS : ∀ ι F, Rep K κ ι F (.dck [Str.ofString "waiting", Str.ofString "begun", Str.ofString "left", Str.ofString "well", Str.ofString "ill", Str.ofString "late", Str.ofString "gone"] [(.tuq []), (.tuq [(.str (Str.ofString "begun"))]), (.tuq [(.str (Str.ofString "over")), (.str (Str.ofString "left"))]), (.tuq [(.str (Str.ofString "begun")), (.str (Str.ofString "over")), (.str (Str.ofString "well"))]), (.tuq [(.str (Str.ofString "begun")), (.str (Str.ofString "over")), (.str (Str.ofString "ill"))]), (.tuq [(.str (Str.ofString "begun")), (.str (Str.ofString "over")), (.str (Str.ofString "late"))]), (.tuq [(.str (Str.ofString "begun")), (.str (Str.ofString "over"))])]) (.ref (κ "const:TRUE_WORDS"))
  ct_ENDS : mg "ENDS" = some (.ref (κ "const:ENDS"))
  rp_ENDS : ∀ ι F, Rep K κ ι F (.dck [Str.ofString "waiting", Str.ofString "begun", Str.ofString "left", Str.ofString "well", Str.ofString "ill", Str.ofString "late", Str.ofString "gone"] [(.tuq [(.str (Str.ofString "left")), (.str (Str.ofString "well")), (.str (Str.ofString "ill")), (.str (Str.ofString "late")), (.str (Str.ofString "gone"))]), (.tuq [(.str (Str.ofString "well")), (.str (Str.ofString "ill")), (.str (Str.ofString "late")), (.str (Str.ofString "gone"))]), (.tuq [(.str (Str.ofString "left"))]), (.tuq [(.str (Str.ofString "well"))]), (.tuq [(.str (Str.ofString "ill"))]), (.tuq [(.str (Str.ofString "late"))]), (.tuq [(.str (Str.ofString "gone"))])]) (.ref (κ "const:ENDS"))
  n_sorted : mg "sorted" = none
  n_range : mg "range" = none
  n_list : mg "list" = none
  n_abs : mg "abs" = none
  n_max : mg "max" = none
  n_repr : mg "repr" = none
  n_min : mg "min" = none
  tm_law : (κ "tab:law", ("law.<locals>.<lambda>" : Str)) ∈ κ.T
  tu_law : ∀ p ∈ κ.T, p.1 = κ "tab:law" → p.2 = ("law.<locals>.<lambda>" : Str)
  gv__law_is_refused : GivOk K mg "_law_is_refused" s__law_is_refused "call"
end K30
namespace K30
open PySem PySem.Spec PyProof.Rows L2 G
section
variable {P : Program} {w : World} {K : PySem.W.Frag} {mg : Str → Option Value} {base : Heap} {κ : Kap}
theorem b_is_between {f : Addr} (T : Txt K κ mg)   : BodyOk P κ.w K mg base κ 0 ["value", "low", "high"] "is_between" s_is_between f (
    (fSeq (fRet (fAndV (fCB gIsi (fCons (fVar 0) (fCons (fC (.ty "int")) fNil))) (fAndV (fNotV (fCB gIsi (fCons (fVar 0) (fCons (fC (.ty "bool")) fNil)))) (fChain gLe gLe (fVar 1) (fVar 0) (fVar 2))))) fNext)) :=
  fun cdv A outer s H E hr => ⟨_, (pss_one (ps_ret (pe_and (pe_callB (call_isiN K) (by rfl) T.n_isinstance (by decide +kernel) (pa_cons (pv 0) (pa_cons (pe_bltn (v := .ty "int") (by rfl) T.n_int (by decide +kernel) rfl) pa_nil))) (pe_and (pe_not (pe_callB (call_isiN K) (by rfl) T.n_isinstance (by decide +kernel) (pa_cons (pv 0) (pa_cons (pe_bltn (v := .ty "bool") (by rfl) T.n_bool (by decide +kernel) rfl) pa_nil)))) (pe_one (pe_chain op_leG op_leG (pv 1) (pv 0) (pv 2))))))),
    (ls_seq (ls_ret (le_andV (le_CB isiK (la_cons le_var (la_cons le_ty la_nil))) (le_andV (le_notV (le_CB isiK (la_cons le_var (la_cons le_ty la_nil)))) (le_chain rleK rleK le_var le_var le_var)))) ls_next)⟩

theorem b_is_job_number {f : Addr} (T : Txt K κ mg)  (C_is_between : CallOk P κ.w K mg base "is_between" 1 ["value", "low", "high"] (conc K κ F_is_between)) : BodyOk P κ.w K mg base κ 1 ["value"] "is_job_number" s_is_job_number f (
    (fSeq (fRet (fCall F_is_between (fCons (fVar 0) (fCons (fC (.int 1)) (fCons (fC (.int 1000000)) fNil))))) fNext)) :=
  fun cdv A outer s H E hr => ⟨_, (pss_one (ps_ret (pe_cc C_is_between (passes_call (takes_of rfl rfl rfl rfl) (fun _ _ _ _ h => h)) (hr.mono (by decide)) (pa_cons (pv 0) (pa_cons pe_int (pa_cons (pe_gI T.g_MAX_JOB_NUMBER) pa_nil)))))),
    (ls_seq (ls_ret (le_call (la_cons le_var (la_cons le_int (la_cons le_int la_nil))))) ls_next)⟩

theorem b__is_node {f : Addr} (T : Txt K κ mg)  (C_is_job_number : CallOk P κ.w K mg base "is_job_number" 2 ["value"] (conc K κ F_is_job_number)) : BodyOk P κ.w K mg base κ 2 ["value", "word", "rest"] "_is_node" s__is_node f (
    (fSeq (fIfS (fOr (fNot (fTru (fCB gIsi (fCons (fVar 0) (fCons (fC (.ty "tuple")) fNil))))) (fOr (fTest (fOp gNe (fCB gLen (fCons (fVar 0) fNil)) (fC (.int 2)))) (fNot (fTru (fCB gIsi (fCons (fOp gIxS (fVar 0) (fC (.int 0))) (fCons (fC (.ty "str")) fNil))))))) (fSeq (fRet (fC (.bl false))) fNext) fNext)
    (fSeq (fAsg (fVar 0) (fgTup 2 (fgCons (fgName 1) (fgCons (fgName 2) fgNil))))
    (fSeq (fIfS (fTest (fOp (gIn false) (fVar 1) (fTup (fCons (fC (.str (Str.ofString "and"))) (fCons (fC (.str (Str.ofString "or"))) fNil))))) (fSeq (fRet (fAndV (fCB gIsi (fCons (fVar 2) (fCons (fC (.ty "tuple")) fNil))) (fChain gLe gLe (fC (.int 2)) (fCB gLen (fCons (fVar 2) fNil)) (fC (.int 20))))) fNext) fNext)
    (fSeq (fRet (fAndV (fOp (gIn false) (fVar 1) (fC (.tuq [(.str (Str.ofString "begun")), (.str (Str.ofString "over")), (.str (Str.ofString "well")), (.str (Str.ofString "ill")), (.str (Str.ofString "late")), (.str (Str.ofString "left"))]))) (fCall F_is_job_number (fCons (fVar 2) fNil)))) fNext))))) :=
  fun cdv A outer s H E hr => ⟨_, (pss_cons (ps_if (PW.pt (pw_or (pt_not (pt_truX (pe_callB (call_isiN K) (by rfl) T.n_isinstance (by decide +kernel) (pa_cons (pv 0) (pa_cons (pe_bltn (v := .ty "tuple") (by rfl) T.n_tuple (by decide +kernel) rfl) pa_nil))))) (pw_or (pt_cmpR (op_neG hr.units) (pe_callB call_lenG (by rfl) T.n_len (by decide +kernel) (pa_cons (pv 0) pa_nil)) pe_int (nomark _)) (pw_or1 (pt_not (pt_truX (pe_callB (call_isiN K) (by rfl) T.n_isinstance (by decide +kernel) (pa_cons (pe_ix ix_G (pv 0) pe_int (fun _ _ => rfl)) (pa_cons (pe_bltn (v := .ty "str") (by rfl) T.n_str (by decide +kernel) rfl) pa_nil))))))))) (pss_one (ps_ret pe_bl)) pss_nil)
      (pss_cons (ps_asg (pv 0) (pg_tup rfl (pgs_cons (pg_name (i := 1) sc__is_node.nd rfl (Or.inl rfl)) (pgs_cons (pg_name (i := 2) sc__is_node.nd rfl (Or.inl rfl)) pgs_nil))))
      (pss_cons (ps_if (pt_cmpR op_inG (pv 1) (pe_tupF (pa_cons pe_str (pa_cons pe_str pa_nil))) (by with_unfolding_all rfl)) (pss_one (ps_ret (pe_and (pe_callB (call_isiN K) (by rfl) T.n_isinstance (by decide +kernel) (pa_cons (pv 2) (pa_cons (pe_bltn (v := .ty "tuple") (by rfl) T.n_tuple (by decide +kernel) rfl) pa_nil))) (pe_one (pe_chain op_leG op_leG pe_int (pe_callB call_lenG (by rfl) T.n_len (by decide +kernel) (pa_cons (pv 2) pa_nil)) (pe_gI T.g_MAX_MEMBERS)))))) pss_nil)
      (pss_one (ps_ret (pe_and (pe_cmpR op_inG (pv 1) (pe_gR T.ct_ATOM_WORDS) (by with_unfolding_all rfl)) (pe_one (pe_cc C_is_job_number (passes_call (takes_of rfl rfl rfl rfl) (fun _ _ _ _ h => h)) (hr.mono (by decide)) (pa_cons (pv 2) pa_nil))))))))),
    (ls_seq (ls_if (lt_or (lt_not (lt_tru (le_CB isiK (la_cons le_var (la_cons le_ty la_nil))))) (lt_or (lt_test (le_op rneK (le_CB lenK (la_cons le_var la_nil)) le_int)) (lt_not (lt_tru (le_CB isiK (la_cons (le_op ixSK le_var le_int) (la_cons le_ty la_nil))))))) (ls_seq (ls_ret le_bl) ls_next) ls_next)
      (ls_seq (ls_asg le_var (lg_tup (lgs_cons (lg_name free_of) (lgs_cons (lg_name free_of) lgs_nil))))
      (ls_seq (ls_if (lt_test (le_op (inK false) le_var (le_tup (la_cons le_str (la_cons le_str la_nil))))) (ls_seq (ls_ret (le_andV (le_CB isiK (la_cons le_var (la_cons le_ty la_nil))) (le_chain rleK rleK le_int (le_CB lenK (la_cons le_var la_nil)) le_int))) ls_next) ls_next)
      (ls_seq (ls_ret (le_andV (le_op (inK false) le_var (le_C T.rp_ATOM_WORDS)) (le_call (la_cons le_var la_nil)))) ls_next))))⟩

theorem b_is_after_formula {f : Addr} (T : Txt K κ mg)  (C__is_node : CallOk P κ.w K mg base "_is_node" 3 ["value"] (conc K κ F__is_node)) : BodyOk P κ.w K mg base κ 3 ["value", "waiting", "nodes", "jobs", "f", "depth", "part"] "is_after_formula" s_is_after_formula f (
    (fSeq (fPar3 1 2 3 (fCons (fLst (fCons (fTup (fCons (fVar 0) (fCons (fC (.int 1)) fNil))) fNil)) (fCons (fC (.int 0)) (fCons fDNew fNil))))
    (fSeq (fWhile (fTru (fVar 1)) L_is_after_formula_1 100000)
    (fSeq (fRet (fOp gLe (fCB gLenD (fCons (fVar 3) fNil)) (fC (.int 6)))) fNext)))) :=
  fun cdv A outer s H E hr => ⟨_, (pss_cons (ps_par3 (i := 1) (j := 2) (l := 3) (by rfl) sc_is_after_formula.nd rfl rfl rfl (by decide) (by decide) (by decide) rfl rfl rfl (pa_cons (pe_lst (pa_cons (pe_tupF (pa_cons (pv 0) (pa_cons pe_int pa_nil))) pa_nil)) (pa_cons pe_int (pa_cons pe_dnewK pa_nil))) (by rfl))
      (pss_cons (ps_while (passes_of rfl) (pt_truX (pv 1)) (pss_cons (ps_asg (pe_bm0 PySem.F.plainAttrs_list PySem.F.slot_list_pop PySem.F.type_list_pop mt_pop (pv 1)) (pg_tup rfl (pgs_cons (pg_name (i := 4) sc_is_after_formula.nd rfl (Or.inl rfl)) (pgs_cons (pg_name (i := 5) sc_is_after_formula.nd rfl (Or.inr rfl)) pgs_nil))))
      (pss_cons (ps_set (i := 2) sc_is_after_formula.nd rfl (Or.inl rfl) (pe_op op_addG (pv 2) pe_int))
      (pss_cons (ps_if (PW.pt (pw_or (pt_cmpR op_gtG (pv 2) (pe_gI T.g_MAX_AFTER_NODES) (nomark _)) (pw_or (pt_cmpR op_gtG (pv 5) (pe_gI T.g_MAX_DEEP) (nomark _)) (pw_or1 (pt_not (pt_truX (pe_cc C__is_node (passes_call (takes_of rfl rfl rfl rfl) (fun _ _ _ _ h => h)) (hr.mono (by decide)) (pa_cons (pv 4) pa_nil)))))))) (pss_one (ps_ret pe_bl)) pss_nil)
      (pss_one (ps_if (pt_cmpR op_inG (pe_ix ix_G (pv 4) pe_int (fun _ _ => rfl)) (pe_gR T.ct_ATOM_WORDS) (by with_unfolding_all rfl)) (pss_one (ps_dput (hu_of hr) (pv 3) (pe_ix ix_G (pv 4) pe_int (fun _ _ => rfl)) pe_bl (by rfl))) (pss_one (ps_expr (pe_bm PySem.F.plainAttrs_list PySem.F.slot_list_extend PySem.F.type_list_extend mt_extend (pv 1) (pa_cons (pe_lc (own := [("part", 6)]) (g := (gName 6)) rfl sc_is_after_formula.nd (pi_tup (pe_ix ix_G (pv 4) pe_int (fun _ _ => rfl))) (blkOk_by (own := [("part", 6)]) (N := ["value", "waiting", "nodes", "jobs", "f", "depth", "part"]) (sc := defScope s_is_after_formula) (by decide +kernel)) (fun _ _ _ _ _ => (pg_name (i := 6) sc_is_after_formula.nd rfl (Or.inl rfl))) (fun _ _ _ _ _ => pts_nil) (fun _ _ _ _ _ => (pe_tupF (pa_cons (pv 6) (pa_cons (pe_op (op_addK K) (pv 5) pe_int) pa_nil))))) pa_nil))))))))))
      (pss_one (ps_ret (pe_cmpR op_leG (pe_callB G.call_lenD (by rfl) T.n_len (by decide +kernel) (pa_cons (pv 3) pa_nil)) (pe_gI T.g_MAX_NAMED) (nomark _)))))),
    (ls_seq (ls_par3 free_of (la_cons (le_lst (la_cons (le_tup (la_cons le_var (la_cons le_int la_nil))) la_nil)) (la_cons le_int (la_cons le_dnew la_nil))))
      (ls_seq (ls_while 100000 (lt_tru le_var) (ls_seq (ls_asg (le_bm0 popK le_var) (lg_tup (lgs_cons (lg_name free_of) (lgs_cons (lg_name free_of) lgs_nil))))
      (ls_seq (ls_asg (le_op raddK le_var le_int) (lg_name free_of))
      (ls_seq (ls_if (lt_or (lt_test (le_op rgtK le_var le_int)) (lt_or (lt_test (le_op rgtK le_var le_int)) (lt_not (lt_tru (le_call (la_cons le_var la_nil)))))) (ls_seq (ls_ret le_bl) ls_next) ls_next)
      (ls_seq (ls_if (lt_test (le_op (inK false) (le_op ixSK le_var le_int) (le_C T.rp_ATOM_WORDS))) (ls_seq (ls_dput le_var (le_op ixSK le_var le_int) le_bl) ls_next) (ls_seq (ls_drop (le_bm extendK le_var (la_cons (le_lc (li_tup (le_op ixSK le_var le_int)) (lg_name free_of) (gw_name (by decide)) gm_name lt_yes (le_tup (la_cons le_var (la_cons (le_op raddK le_var le_int) la_nil)))) la_nil))) ls_next)) ls_next)))))
      (ls_seq (ls_ret (le_op rleK (le_CB lenDK (la_cons le_var la_nil)) le_int)) ls_next)))⟩

theorem b_is_state {f : Addr} (T : Txt K κ mg)   : BodyOk P κ.w K mg base κ 0 ["value"] "is_state" s_is_state f (
    (fSeq (fRet (fAndV (fCB gIsi (fCons (fVar 0) (fCons (fC (.ty "str")) fNil))) (fOp (gIn false) (fVar 0) (fC (.tuq [(.str (Str.ofString "waiting")), (.str (Str.ofString "begun")), (.str (Str.ofString "left")), (.str (Str.ofString "well")), (.str (Str.ofString "ill")), (.str (Str.ofString "late")), (.str (Str.ofString "gone"))]))))) fNext)) :=
  fun cdv A outer s H E hr => ⟨_, (pss_one (ps_ret (pe_and (pe_callB (call_isiN K) (by rfl) T.n_isinstance (by decide +kernel) (pa_cons (pv 0) (pa_cons (pe_bltn (v := .ty "str") (by rfl) T.n_str (by decide +kernel) rfl) pa_nil))) (pe_one (pe_cmpR op_inG (pv 0) (pe_gR T.ct_STATES) (by with_unfolding_all rfl)))))),
    (ls_seq (ls_ret (le_andV (le_CB isiK (la_cons le_var (la_cons le_ty la_nil))) (le_op (inK false) le_var (le_C T.rp_STATES)))) ls_next)⟩

theorem g__law_is_refused {X : Cx} {q : Str} {kg : Nat} (T : Txt X.K κ X.mg)  (g : Addr) (cdg : Value) : GivesS X ["call"] "_law_is_refused" (defScope s__law_is_refused) g cdg (defBody s__law_is_refused) "call" q kg (TTd X.K κ F__law_is_refused) := gives_of (by decide) fun fn c0 s H tl hr act => ⟨_, (pss_cons (ps_tryG rfl rfl sc__law_is_refused.nd (takes_of rfl rfl rfl rfl) (fun W pn xe tk _ => (pss_one (ps_expr (act W pn xe _ _ tk)))) (.no (.two ⟨rfl, by decide, .inl T.cx_InvalidFormula⟩ ⟨rfl, by decide, .inl T.cx_InvalidJob⟩) (fun a oe cls d pn hz hf => (pss_one (ps_ret pe_bl))) .nil))
      (pss_one (ps_ret pe_bl))),
    fun ι0 F0 H0 lam hlam => (ls_seq (ls_tryC (fun W => (ls_seq (ls_drop (le_act hlam)) ls_next)) (.cons ⟨rfl, tkOf_ok (.cons T.xx_InvalidFormula_InvalidFormula_InvalidJob (.cons T.xx_InvalidJob_InvalidFormula_InvalidJob .nil)), (fun i hi => by first | (cases hi; done) | (cases hi; exact Ch.lam_free (by decide))), fun a cls d xc xp => (ls_seq (ls_ret le_bl) ls_next)⟩ .nil))
      (ls_seq (ls_ret le_bl) ls_next))⟩

theorem b__check_state {f : Addr} (T : Txt K κ mg)  (C_is_state : CallOk P κ.w K mg base "is_state" 1 ["value"] (conc K κ F_is_state)) (N_InvalidJob : BareOk K mg "InvalidJob" (κ "InvalidJob")) : BodyOk P κ.w K mg base κ 1 ["value"] "_check_state" s__check_state f (
    (fSeq (fIfS (fNot (fTru (fCall F_is_state (fCons (fVar 0) fNil)))) (fSeq (fRaiseN "InvalidJob") fNext) fNext) fNext)) :=
  fun cdv A outer s H E hr => ⟨_, (pss_one (ps_if (pt_not (pt_truX (pe_cc C_is_state (passes_call (takes_of rfl rfl rfl rfl) (fun _ _ _ _ h => h)) (hr.mono (by decide)) (pa_cons (pv 0) pa_nil)))) (pss_one (ps_raiseN N_InvalidJob (takes_of rfl rfl rfl rfl))) pss_nil)),
    (ls_seq (ls_if (lt_not (lt_tru (le_call (la_cons le_var la_nil)))) (ls_seq (ls_raiseN (fun _ _ _ _ h => h)) ls_next) ls_next) ls_next)⟩

theorem b_may_follow {f : Addr} (T : Txt K κ mg)  (C__check_state : CallOk P κ.w K mg base "_check_state" 2 ["value"] (conc K κ F__check_state)) : BodyOk P κ.w K mg base κ 2 ["one", "other"] "may_follow" s_may_follow f (
    (fSeq (fDrop (fCall F__check_state (fCons (fVar 0) fNil)))
    (fSeq (fDrop (fCall F__check_state (fCons (fVar 1) fNil)))
    (fSeq (fRet (fOp (gIn false) (fVar 1) (fKGet (fC (.dck [Str.ofString "waiting", Str.ofString "begun"] [(.tuq [(.str (Str.ofString "begun")), (.str (Str.ofString "left"))]), (.tuq [(.str (Str.ofString "well")), (.str (Str.ofString "ill")), (.str (Str.ofString "late")), (.str (Str.ofString "gone"))])])) (fVar 0) (fTup fNil)))) fNext)))) :=
  fun cdv A outer s H E hr => ⟨_, (pss_cons (ps_expr (pe_cc C__check_state (passes_call (takes_of rfl rfl rfl rfl) (fun _ _ _ _ h => h)) (hr.mono (by decide)) (pa_cons (pv 0) pa_nil)))
      (pss_cons (ps_expr (pe_cc C__check_state (passes_call (takes_of rfl rfl rfl rfl) (fun _ _ _ _ h => h)) (hr.mono (by decide)) (pa_cons (pv 1) pa_nil)))
      (pss_one (ps_ret (pe_cmpR op_inG (pv 1) (pe_kget K κ.w (pe_gR T.ct_FOLLOWERS) (pv 0) (pe_tupF pa_nil) ⟨rfl, rfl, rfl, rfl⟩) (by with_unfolding_all rfl)))))),
    (ls_seq (ls_drop (le_call (la_cons le_var la_nil)))
      (ls_seq (ls_drop (le_call (la_cons le_var la_nil)))
      (ls_seq (ls_ret (le_op (inK false) le_var (le_kget (le_C T.rp_FOLLOWERS) le_var (le_tup la_nil)))) ls_next)))⟩

theorem b_atoms_of {f : Addr} (T : Txt K κ mg)  (C__check_state : CallOk P κ.w K mg base "_check_state" 2 ["value"] (conc K κ F__check_state)) : BodyOk P κ.w K mg base κ 2 ["state"] "atoms_of" s_atoms_of f (
    (fSeq (fDrop (fCall F__check_state (fCons (fVar 0) fNil)))
    (fSeq (fRet (fOp gKIx (fC (.dck [Str.ofString "waiting", Str.ofString "begun", Str.ofString "left", Str.ofString "well", Str.ofString "ill", Str.ofString "late", Str.ofString "gone"] [(.tuq []), (.tuq [(.str (Str.ofString "begun"))]), (.tuq [(.str (Str.ofString "over")), (.str (Str.ofString "left"))]), (.tuq [(.str (Str.ofString "begun")), (.str (Str.ofString "over")), (.str (Str.ofString "well"))]), (.tuq [(.str (Str.ofString "begun")), (.str (Str.ofString "over")), (.str (Str.ofString "ill"))]), (.tuq [(.str (Str.ofString "begun")), (.str (Str.ofString "over")), (.str (Str.ofString "late"))]), (.tuq [(.str (Str.ofString "begun")), (.str (Str.ofString "over"))])])) (fVar 0))) fNext))) :=
  fun cdv A outer s H E hr => ⟨_, (pss_cons (ps_expr (pe_cc C__check_state (passes_call (takes_of rfl rfl rfl rfl) (fun _ _ _ _ h => h)) (hr.mono (by decide)) (pa_cons (pv 0) pa_nil)))
      (pss_one (ps_ret (pe_ix (ix_kdk K κ.w) (pe_gR T.ct_TRUE_WORDS) (pv 0) (fun _ _ => rfl))))),
    (ls_seq (ls_drop (le_call (la_cons le_var la_nil)))
      (ls_seq (ls_ret (le_op kixK (le_C T.rp_TRUE_WORDS) le_var)) ls_next))⟩

theorem b_ends_of {f : Addr} (T : Txt K κ mg)  (C__check_state : CallOk P κ.w K mg base "_check_state" 2 ["value"] (conc K κ F__check_state)) : BodyOk P κ.w K mg base κ 2 ["state"] "ends_of" s_ends_of f (
    (fSeq (fDrop (fCall F__check_state (fCons (fVar 0) fNil)))
    (fSeq (fRet (fOp gKIx (fC (.dck [Str.ofString "waiting", Str.ofString "begun", Str.ofString "left", Str.ofString "well", Str.ofString "ill", Str.ofString "late", Str.ofString "gone"] [(.tuq [(.str (Str.ofString "left")), (.str (Str.ofString "well")), (.str (Str.ofString "ill")), (.str (Str.ofString "late")), (.str (Str.ofString "gone"))]), (.tuq [(.str (Str.ofString "well")), (.str (Str.ofString "ill")), (.str (Str.ofString "late")), (.str (Str.ofString "gone"))]), (.tuq [(.str (Str.ofString "left"))]), (.tuq [(.str (Str.ofString "well"))]), (.tuq [(.str (Str.ofString "ill"))]), (.tuq [(.str (Str.ofString "late"))]), (.tuq [(.str (Str.ofString "gone"))])])) (fVar 0))) fNext))) :=
  fun cdv A outer s H E hr => ⟨_, (pss_cons (ps_expr (pe_cc C__check_state (passes_call (takes_of rfl rfl rfl rfl) (fun _ _ _ _ h => h)) (hr.mono (by decide)) (pa_cons (pv 0) pa_nil)))
      (pss_one (ps_ret (pe_ix (ix_kdk K κ.w) (pe_gR T.ct_ENDS) (pv 0) (fun _ _ => rfl))))),
    (ls_seq (ls_drop (le_call (la_cons le_var la_nil)))
      (ls_seq (ls_ret (le_op kixK (le_C T.rp_ENDS) le_var)) ls_next))⟩

theorem b_words_by_job {f : Addr} (T : Txt K κ mg)   : BodyOk P κ.w K mg base κ 0 ["f", "found", "parts", "word", "rest"] "words_by_job" s_words_by_job f (
    (fSeq (fPar 1 2 (fCons fDNew (fCons (fLst (fCons (fVar 0) fNil)) fNil)))
    (fSeq (fWhile (fTru (fVar 2)) L_words_by_job_1 100000)
    (fSeq (fRet (fVar 1)) fNext)))) :=
  fun cdv A outer s H E hr => ⟨_, (pss_cons (ps_par (i := 1) (j := 2) (by rfl) sc_words_by_job.nd rfl rfl (by decide) rfl rfl (pa_cons pe_dnewK (pa_cons (pe_lst (pa_cons (pv 0) pa_nil)) pa_nil)) (by rfl))
      (pss_cons (ps_while (passes_of rfl) (pt_truX (pv 2)) (pss_cons (ps_asg (pe_bm0 PySem.F.plainAttrs_list PySem.F.slot_list_pop PySem.F.type_list_pop mt_pop (pv 2)) (pg_tup rfl (pgs_cons (pg_name (i := 3) sc_words_by_job.nd rfl (Or.inl rfl)) (pgs_cons (pg_name (i := 4) sc_words_by_job.nd rfl (Or.inl rfl)) pgs_nil))))
      (pss_one (ps_if (pt_cmpR op_inG (pv 3) (pe_tupF (pa_cons pe_str (pa_cons pe_str pa_nil))) (by with_unfolding_all rfl)) (pss_one (ps_expr (pe_bm PySem.F.plainAttrs_list PySem.F.slot_list_extend PySem.F.type_list_extend (mt_extT K) (pv 2) (pa_cons (pv 4) pa_nil)))) (pss_one (ps_dput (hu_of hr) (pe_dsetd (pv 1) (pv 4) pe_dnewK ⟨rfl, rfl, rfl, rfl⟩) (pv 3) pe_bl (by rfl)))))))
      (pss_one (ps_ret (pv 1))))),
    (ls_seq (ls_par free_of (la_cons le_dnew (la_cons (le_lst (la_cons le_var la_nil)) la_nil)))
      (ls_seq (ls_while 100000 (lt_tru le_var) (ls_seq (ls_asg (le_bm0 popK le_var) (lg_tup (lgs_cons (lg_name free_of) (lgs_cons (lg_name free_of) lgs_nil))))
      (ls_seq (ls_if (lt_test (le_op (inK false) le_var (le_tup (la_cons le_str (la_cons le_str la_nil))))) (ls_seq (ls_drop (le_bm extTK le_var (la_cons le_var la_nil))) ls_next) (ls_seq (ls_dput (le_dsetd le_var le_var le_dnew) le_var le_bl) ls_next)) ls_next)))
      (ls_seq (ls_ret le_var) ls_next)))⟩

theorem b__jobs_of {f : Addr} (T : Txt K κ mg)  (C_words_by_job : CallOk P κ.w K mg base "words_by_job" 1 ["f"] (conc K κ F_words_by_job)) : BodyOk P κ.w K mg base κ 1 ["f"] "_jobs_of" s__jobs_of f (
    (fSeq (fRet (fCB gTuple (fCons (fCB gSortDI (fCons (fCall F_words_by_job (fCons (fVar 0) fNil)) fNil)) fNil))) fNext)) :=
  fun cdv A outer s H E hr => ⟨_, (pss_one (ps_ret (pe_callTy (call_tupleN K) (by rfl) T.n_tuple (by decide +kernel) (pa_cons (pe_callB (call_sortedDI rfl) (by rfl) T.n_sorted (by decide +kernel) (pa_cons (pe_cc C_words_by_job (passes_call (takes_of rfl rfl rfl rfl) (fun _ _ _ _ h => h)) (hr.mono (by decide)) (pa_cons (pv 0) pa_nil)) pa_nil)) pa_nil)))),
    (ls_seq (ls_ret (le_CB tupleK (la_cons (le_CB sortDIK (la_cons (le_call (la_cons le_var la_nil)) la_nil)) la_nil))) ls_next)⟩

theorem b__check_formula {f : Addr} (T : Txt K κ mg)  (C_is_after_formula : CallOk P κ.w K mg base "is_after_formula" 4 ["value"] (conc K κ F_is_after_formula)) (N_InvalidFormula : BareOk K mg "InvalidFormula" (κ "InvalidFormula")) : BodyOk P κ.w K mg base κ 4 ["value"] "_check_formula" s__check_formula f (
    (fSeq (fIfS (fNot (fTru (fCall F_is_after_formula (fCons (fVar 0) fNil)))) (fSeq (fRaiseN "InvalidFormula") fNext) fNext) fNext)) :=
  fun cdv A outer s H E hr => ⟨_, (pss_one (ps_if (pt_not (pt_truX (pe_cc C_is_after_formula (passes_call (takes_of rfl rfl rfl rfl) (fun _ _ _ _ h => h)) (hr.mono (by decide)) (pa_cons (pv 0) pa_nil)))) (pss_one (ps_raiseN N_InvalidFormula (takes_of rfl rfl rfl rfl))) pss_nil)),
    (ls_seq (ls_if (lt_not (lt_tru (le_call (la_cons le_var la_nil)))) (ls_seq (ls_raiseN (fun _ _ _ _ h => h)) ls_next) ls_next) ls_next)⟩

theorem b_jobs_named {f : Addr} (T : Txt K κ mg)  (C__jobs_of : CallOk P κ.w K mg base "_jobs_of" 2 ["f"] (conc K κ F__jobs_of)) (C__check_formula : CallOk P κ.w K mg base "_check_formula" 5 ["value"] (conc K κ F__check_formula)) : BodyOk P κ.w K mg base κ 5 ["f"] "jobs_named" s_jobs_named f (
    (fSeq (fDrop (fCall F__check_formula (fCons (fVar 0) fNil)))
    (fSeq (fRet (fCall F__jobs_of (fCons (fVar 0) fNil))) fNext))) :=
  fun cdv A outer s H E hr => ⟨_, (pss_cons (ps_expr (pe_cc C__check_formula (passes_call (takes_of rfl rfl rfl rfl) (fun _ _ _ _ h => h)) (hr.mono (by decide)) (pa_cons (pv 0) pa_nil)))
      (pss_one (ps_ret (pe_cc C__jobs_of (passes_call (takes_of rfl rfl rfl rfl) (fun _ _ _ _ h => h)) (hr.mono (by decide)) (pa_cons (pv 0) pa_nil))))),
    (ls_seq (ls_drop (le_call (la_cons le_var la_nil)))
      (ls_seq (ls_ret (le_call (la_cons le_var la_nil))) ls_next))⟩

theorem b__law_roll {f : Addr} (T : Txt K κ mg)   : BodyOk P κ.w K mg base κ 0 ["dice", "total", "found", "one", "two"] "_law_roll" s__law_roll f (
    (fSeq (fIfS (fTest (fOp gGt (fOp gIxS (fVar 0) (fC (.int 0))) (fC (.int 0)))) (fSeq (fAsg (fOp gMod (fCB gInt (fCons (fOp gIxS (fVar 0) (fC (.int 0))) fNil)) (fVar 1)) (fgName 2))
    (fSeq (fAsg (fOp gDiv (fOp gIxS (fVar 0) (fC (.int 0))) (fVar 1)) (fgSub (fVar 0) (fC (.int 0))))
    (fSeq (fRet (fVar 2)) fNext))) fNext)
    (fSeq (fAsg (fOp gAdd (fOp gIxS (fVar 0) (fC (.int 2))) (fC (.int 1))) (fgSub (fVar 0) (fC (.int 2))))
    (fSeq (fAsg (fOp gMod (fCB gInt (fCons (fOp gAdd (fOp gIxS (fVar 0) (fC (.int 1))) (fOp gMul (fC (.int 67867967)) (fOp gIxS (fVar 0) (fC (.int 2))))) fNil)) (fC (.int 2305843009213693561))) (fgName 3))
    (fSeq (fAsg (fOp gAdd (fOp gMul (fOp gMod (fCB gInt (fCons (fOp gAdd (fOp gMul (fVar 3) (fVar 3)) (fOp gMul (fC (.int 101)) (fOp gIxS (fVar 0) (fC (.int 2))))) fNil)) (fC (.int 2305843009213693907))) (fC (.int 7368847))) (fVar 3)) (fgName 4))
    (fSeq (fRet (fOp gMod (fCB gInt (fCons (fOp gDiv (fVar 4) (fC (.int 65536))) fNil)) (fVar 1))) fNext)))))) :=
  fun cdv A outer s H E hr => ⟨_, (pss_cons (ps_if (pt_cmpR op_gtG (pe_ix ix_G (pv 0) pe_int (fun _ _ => rfl)) pe_int (nomark _)) (pss_cons (ps_set (i := 2) sc__law_roll.nd rfl (Or.inl rfl) (pe_op op_modG (pe_callTy call_intG (by rfl) T.n_int (by decide +kernel) (pa_cons (pe_ix ix_G (pv 0) pe_int (fun _ _ => rfl)) pa_nil)) (pv 1)))
      (pss_cons (ps_asg (pe_op op_divG (pe_ix ix_G (pv 0) pe_int (fun _ _ => rfl)) (pv 1)) (pg_sub (pv 0) pe_int set_list))
      (pss_one (ps_ret (pv 2))))) pss_nil)
      (pss_cons (ps_asg (pe_op op_addG (pe_ix ix_G (pv 0) pe_int (fun _ _ => rfl)) pe_int) (pg_sub (pv 0) pe_int set_list))
      (pss_cons (ps_set (i := 3) sc__law_roll.nd rfl (Or.inl rfl) (pe_op op_modG (pe_callTy call_intG (by rfl) T.n_int (by decide +kernel) (pa_cons (pe_op op_addG (pe_ix ix_G (pv 0) pe_int (fun _ _ => rfl)) (pe_op op_mulG pe_int (pe_ix ix_G (pv 0) pe_int (fun _ _ => rfl)))) pa_nil)) pe_int))
      (pss_cons (ps_set (i := 4) sc__law_roll.nd rfl (Or.inl rfl) (pe_op op_addG (pe_op op_mulG (pe_op op_modG (pe_callTy call_intG (by rfl) T.n_int (by decide +kernel) (pa_cons (pe_op op_addG (pe_op op_mulG (pv 3) (pv 3)) (pe_op op_mulG pe_int (pe_ix ix_G (pv 0) pe_int (fun _ _ => rfl)))) pa_nil)) pe_int) pe_int) (pv 3)))
      (pss_one (ps_ret (pe_op op_modG (pe_callTy call_intG (by rfl) T.n_int (by decide +kernel) (pa_cons (pe_op op_divG (pv 4) pe_int) pa_nil)) (pv 1)))))))),
    (ls_seq (ls_if (lt_test (le_op rgtK (le_op ixSK le_var le_int) le_int)) (ls_seq (ls_asg (le_op rmodK (le_CB intK (la_cons (le_op ixSK le_var le_int) la_nil)) le_var) (lg_name free_of))
      (ls_seq (ls_asg (le_op rdivK (le_op ixSK le_var le_int) le_var) (lg_sub le_var le_int))
      (ls_seq (ls_ret le_var) ls_next))) ls_next)
      (ls_seq (ls_asg (le_op raddK (le_op ixSK le_var le_int) le_int) (lg_sub le_var le_int))
      (ls_seq (ls_asg (le_op rmodK (le_CB intK (la_cons (le_op raddK (le_op ixSK le_var le_int) (le_op rmulK le_int (le_op ixSK le_var le_int))) la_nil)) le_int) (lg_name free_of))
      (ls_seq (ls_asg (le_op raddK (le_op rmulK (le_op rmodK (le_CB intK (la_cons (le_op raddK (le_op rmulK le_var le_var) (le_op rmulK le_int (le_op ixSK le_var le_int))) la_nil)) le_int) le_int) le_var) (lg_name free_of))
      (ls_seq (ls_ret (le_op rmodK (le_CB intK (la_cons (le_op rdivK le_var le_int) la_nil)) le_var)) ls_next)))))⟩

theorem b__law_pick {f : Addr} (T : Txt K κ mg)  (C__law_roll : CallOk P κ.w K mg base "_law_roll" 1 ["dice", "total"] (conc K κ F__law_roll)) : BodyOk P κ.w K mg base κ 1 ["dice", "items"] "_law_pick" s__law_pick f (
    (fSeq (fRet (fOp gIxS (fVar 1) (fCall F__law_roll (fCons (fVar 0) (fCons (fCB gLen (fCons (fVar 1) fNil)) fNil))))) fNext)) :=
  fun cdv A outer s H E hr => ⟨_, (pss_one (ps_ret (pe_ix ix_G (pv 1) (pe_cc C__law_roll (passes_call (takes_of rfl rfl rfl rfl) (fun _ _ _ _ h => h)) (hr.mono (by decide)) (pa_cons (pv 0) (pa_cons (pe_callB call_lenG (by rfl) T.n_len (by decide +kernel) (pa_cons (pv 1) pa_nil)) pa_nil))) (fun _ _ => rfl)))),
    (ls_seq (ls_ret (le_op ixSK le_var (le_call (la_cons le_var (la_cons (le_CB lenK (la_cons le_var la_nil)) la_nil))))) ls_next)⟩

theorem b__law_bent {f : Addr} (T : Txt K κ mg)   : BodyOk P κ.w K mg base κ 0 ["dice", "f", "one", "deep", "turn", "found", "number", "many"] "_law_bent" s__law_bent f (
    (fSeq (fPar 2 3 (fCons (fTup (fCons (fC (.str (Str.ofString "begun"))) (fCons (fC (.int 1)) fNil))) (fCons (fVar 1) fNil)))
    (fSeq (fFor (fiRng1 (fC (.int 8))) (fgName 4) L__law_bent_1)
    (fSeq (fAsg (fLst (fCons (fCB gList (fCons (fVar 1) fNil)) (fCons (fTup (fCons (fC (.str (Str.ofString "not"))) (fCons (fVar 1) fNil))) (fCons (fTup (fCons (fC (.str (Str.ofString "and"))) (fCons (fTup (fCons (fVar 1) fNil)) fNil))) (fCons (fTup (fCons (fC (.str (Str.ofString "or"))) (fCons (fLst (fCons (fVar 1) (fCons (fVar 1) fNil))) fNil))) (fCons (fTup (fCons (fC (.str (Str.ofString "and"))) (fCons (fTup (fCons (fVar 1) (fCons (fC .non) fNil))) fNil))) (fCons (fTup (fCons (fC (.str (Str.ofString "or"))) (fCons (fTup fNil) fNil))) (fCons (fTup (fCons (fC (.str (Str.ofString "or"))) (fCons (fOp gMulT (fTup (fCons (fVar 2) fNil)) (fC (.int 21))) fNil))) fNil)))))))) (fgName 5))
    (fSeq (fAsg (fOp gAdd (fVar 5) (fLst (fCons (fTup (fCons (fC (.str (Str.ofString "gone"))) (fCons (fC (.int 1)) fNil))) (fCons (fTup (fCons (fC (.str (Str.ofString "waiting"))) (fCons (fC (.int 1)) fNil))) (fCons (fTup (fCons (fC (.str (Str.ofString "well"))) (fCons (fC (.int 0)) fNil))) (fCons (fTup (fCons (fC (.str (Str.ofString "well"))) (fCons (fC (.int 1000001)) fNil))) (fCons (fTup (fCons (fC (.str (Str.ofString "well"))) (fCons (fC (.bl true)) fNil))) (fCons (fTup (fCons (fC (.str (Str.ofString "well"))) (fCons (fC (.str (Str.ofString "1"))) fNil))) (fCons (fTup (fCons (fC (.str (Str.ofString "well"))) fNil)) fNil))))))))) (fgName 5))
    (fSeq (fAsg (fOp gAdd (fVar 5) (fLst (fCons (fVar 3) (fCons (fTup (fCons (fC (.str (Str.ofString "and"))) (fCons (fCB gTuple (fCons (fLc (fiRng2 (fC (.int 1)) (fC (.int 8))) (fgName 6) fYes (fTup (fCons (fC (.str (Str.ofString "left"))) (fCons (fVar 6) fNil))) [6]) fNil)) fNil))) (fCons (fTup (fCons (fC (.str (Str.ofString "well"))) (fCons (fC (.int 1)) (fCons (fC (.int 2)) fNil)))) (fCons (fC .non) (fCons (fC (.str (Str.ofString "well(1)"))) fNil))))))) (fgName 5))
    (fSeq (fAsg (fTup (fCons (fC (.str (Str.ofString "and"))) (fCons (fTup (fCons (fTup (fCons (fC (.str (Str.ofString "or"))) (fCons (fOp gMulT (fTup (fCons (fVar 2) fNil)) (fC (.int 19))) fNil))) (fCons (fTup (fCons (fC (.str (Str.ofString "or"))) (fCons (fOp gMulT (fTup (fCons (fVar 2) fNil)) (fC (.int 19))) fNil))) (fCons (fTup (fCons (fC (.str (Str.ofString "or"))) (fCons (fOp gMulT (fTup (fCons (fVar 2) fNil)) (fC (.int 18))) fNil))) fNil)))) fNil))) (fgName 7))
    (fSeq (fRet (fOp gAdd (fVar 5) (fLst (fCons (fTup (fCons (fC (.str (Str.ofString "or"))) (fCons (fTup (fCons (fVar 7) (fCons (fVar 2) fNil))) fNil))) (fCons (fOp gAdd (fVar 1) (fTup (fCons (fVar 1) fNil))) (fCons fDNew (fCons (fLst fNil) (fCons (fTup fNil) fNil)))))))) fNext)))))))) :=
  fun cdv A outer s H E hr => ⟨_, (pss_cons (ps_par (i := 2) (j := 3) (by rfl) sc__law_bent.nd rfl rfl (by decide) rfl rfl (pa_cons (pe_tupF (pa_cons pe_str (pa_cons pe_int pa_nil))) (pa_cons (pv 1) pa_nil)) (by rfl))
      (pss_cons (ps_for (passes_of rfl) rfl (pi_range1 (by rfl) T.n_range (pa_cons pe_int pa_nil)) (pg_name (i := 4) sc__law_bent.nd rfl (Or.inl rfl)) (pss_one (ps_set (i := 3) sc__law_bent.nd rfl (Or.inl rfl) (pe_tupF (pa_cons pe_str (pa_cons (pe_tupF (pa_cons (pv 3) (pa_cons (pv 2) pa_nil))) pa_nil))))))
      (pss_cons (ps_set (i := 5) sc__law_bent.nd rfl (Or.inl rfl) (pe_lst (pa_cons (pe_callTy (call_listN K) (by rfl) T.n_list (by decide +kernel) (pa_cons (pv 1) pa_nil)) (pa_cons (pe_tupF (pa_cons pe_str (pa_cons (pv 1) pa_nil))) (pa_cons (pe_tupF (pa_cons pe_str (pa_cons (pe_tupF (pa_cons (pv 1) pa_nil)) pa_nil))) (pa_cons (pe_tupF (pa_cons pe_str (pa_cons (pe_lst (pa_cons (pv 1) (pa_cons (pv 1) pa_nil))) pa_nil))) (pa_cons (pe_tupF (pa_cons pe_str (pa_cons (pe_tupF (pa_cons (pv 1) (pa_cons pe_non pa_nil))) pa_nil))) (pa_cons (pe_tupF (pa_cons pe_str (pa_cons (pe_tupF pa_nil) pa_nil))) (pa_cons (pe_tupF (pa_cons pe_str (pa_cons (pe_op (op_mulTG K) (pe_tupF (pa_cons (pv 2) pa_nil)) pe_int) pa_nil))) pa_nil)))))))))
      (pss_cons (ps_set (i := 5) sc__law_bent.nd rfl (Or.inl rfl) (pe_op op_addG (pv 5) (pe_lst (pa_cons (pe_tupF (pa_cons pe_str (pa_cons pe_int pa_nil))) (pa_cons (pe_tupF (pa_cons pe_str (pa_cons pe_int pa_nil))) (pa_cons (pe_tupF (pa_cons pe_str (pa_cons pe_int pa_nil))) (pa_cons (pe_tupF (pa_cons pe_str (pa_cons pe_int pa_nil))) (pa_cons (pe_tupF (pa_cons pe_str (pa_cons pe_bl pa_nil))) (pa_cons (pe_tupF (pa_cons pe_str (pa_cons pe_str pa_nil))) (pa_cons (pe_tupF (pa_cons pe_str pa_nil)) pa_nil))))))))))
      (pss_cons (ps_set (i := 5) sc__law_bent.nd rfl (Or.inl rfl) (pe_op op_addG (pv 5) (pe_lst (pa_cons (pv 3) (pa_cons (pe_tupF (pa_cons pe_str (pa_cons (pe_callTy (call_tupleN K) (by rfl) T.n_tuple (by decide +kernel) (pa_cons (pe_lc (own := [("number", 6)]) (g := (gName 6)) rfl sc__law_bent.nd (pi_range2 (by rfl) T.n_range (pa_cons pe_int (pa_cons pe_int pa_nil))) (blkOk_by (own := [("number", 6)]) (N := ["dice", "f", "one", "deep", "turn", "found", "number", "many"]) (sc := defScope s__law_bent) (by decide +kernel)) (fun _ _ _ _ _ => (pg_name (i := 6) sc__law_bent.nd rfl (Or.inl rfl))) (fun _ _ _ _ _ => pts_nil) (fun _ _ _ _ _ => (pe_tupF (pa_cons pe_str (pa_cons (pv 6) pa_nil))))) pa_nil)) pa_nil))) (pa_cons (pe_tupF (pa_cons pe_str (pa_cons pe_int (pa_cons pe_int pa_nil)))) (pa_cons pe_non (pa_cons pe_str pa_nil))))))))
      (pss_cons (ps_set (i := 7) sc__law_bent.nd rfl (Or.inl rfl) (pe_tupF (pa_cons pe_str (pa_cons (pe_tupF (pa_cons (pe_tupF (pa_cons pe_str (pa_cons (pe_op (op_mulTG K) (pe_tupF (pa_cons (pv 2) pa_nil)) pe_int) pa_nil))) (pa_cons (pe_tupF (pa_cons pe_str (pa_cons (pe_op (op_mulTG K) (pe_tupF (pa_cons (pv 2) pa_nil)) pe_int) pa_nil))) (pa_cons (pe_tupF (pa_cons pe_str (pa_cons (pe_op (op_mulTG K) (pe_tupF (pa_cons (pv 2) pa_nil)) pe_int) pa_nil))) pa_nil)))) pa_nil))))
      (pss_one (ps_ret (pe_op op_addG (pv 5) (pe_lst (pa_cons (pe_tupF (pa_cons pe_str (pa_cons (pe_tupF (pa_cons (pv 7) (pa_cons (pv 2) pa_nil))) pa_nil))) (pa_cons (pe_op op_addG (pv 1) (pe_tupF (pa_cons (pv 1) pa_nil))) (pa_cons pe_dnewK (pa_cons (pe_lst pa_nil) (pa_cons (pe_tupF pa_nil) pa_nil))))))))))))))),
    (ls_seq (ls_par free_of (la_cons (le_tup (la_cons le_str (la_cons le_int la_nil))) (la_cons le_var la_nil)))
      (ls_seq (ls_for (li_rng1 le_int) (lg_name free_of) (ls_seq (ls_asg (le_tup (la_cons le_str (la_cons (le_tup (la_cons le_var (la_cons le_var la_nil))) la_nil))) (lg_name free_of)) ls_next))
      (ls_seq (ls_asg (le_lst (la_cons (le_CB listK (la_cons le_var la_nil)) (la_cons (le_tup (la_cons le_str (la_cons le_var la_nil))) (la_cons (le_tup (la_cons le_str (la_cons (le_tup (la_cons le_var la_nil)) la_nil))) (la_cons (le_tup (la_cons le_str (la_cons (le_lst (la_cons le_var (la_cons le_var la_nil))) la_nil))) (la_cons (le_tup (la_cons le_str (la_cons (le_tup (la_cons le_var (la_cons le_non la_nil))) la_nil))) (la_cons (le_tup (la_cons le_str (la_cons (le_tup la_nil) la_nil))) (la_cons (le_tup (la_cons le_str (la_cons (le_op mulTK (le_tup (la_cons le_var la_nil)) le_int) la_nil))) la_nil)))))))) (lg_name free_of))
      (ls_seq (ls_asg (le_op raddK le_var (le_lst (la_cons (le_tup (la_cons le_str (la_cons le_int la_nil))) (la_cons (le_tup (la_cons le_str (la_cons le_int la_nil))) (la_cons (le_tup (la_cons le_str (la_cons le_int la_nil))) (la_cons (le_tup (la_cons le_str (la_cons le_int la_nil))) (la_cons (le_tup (la_cons le_str (la_cons le_bl la_nil))) (la_cons (le_tup (la_cons le_str (la_cons le_str la_nil))) (la_cons (le_tup (la_cons le_str la_nil)) la_nil))))))))) (lg_name free_of))
      (ls_seq (ls_asg (le_op raddK le_var (le_lst (la_cons le_var (la_cons (le_tup (la_cons le_str (la_cons (le_CB tupleK (la_cons (le_lc (li_rng2 le_int le_int) (lg_name free_of) (gw_name (by decide)) gm_name lt_yes (le_tup (la_cons le_str (la_cons le_var la_nil)))) la_nil)) la_nil))) (la_cons (le_tup (la_cons le_str (la_cons le_int (la_cons le_int la_nil)))) (la_cons le_non (la_cons le_str la_nil))))))) (lg_name free_of))
      (ls_seq (ls_asg (le_tup (la_cons le_str (la_cons (le_tup (la_cons (le_tup (la_cons le_str (la_cons (le_op mulTK (le_tup (la_cons le_var la_nil)) le_int) la_nil))) (la_cons (le_tup (la_cons le_str (la_cons (le_op mulTK (le_tup (la_cons le_var la_nil)) le_int) la_nil))) (la_cons (le_tup (la_cons le_str (la_cons (le_op mulTK (le_tup (la_cons le_var la_nil)) le_int) la_nil))) la_nil)))) la_nil))) (lg_name free_of))
      (ls_seq (ls_ret (le_op raddK le_var (le_lst (la_cons (le_tup (la_cons le_str (la_cons (le_tup (la_cons le_var (la_cons le_var la_nil))) la_nil))) (la_cons (le_op raddK le_var (le_tup (la_cons le_var la_nil))) (la_cons le_dnew (la_cons (le_lst la_nil) (la_cons (le_tup la_nil) la_nil)))))))) ls_next)))))))⟩

theorem b__law_after_jobs {f : Addr} {n : Nat} {rec__law_after_jobs : FD} (T : Txt K κ mg)  (C__law_after_jobs : CallOk P κ.w K mg base "_law_after_jobs" (1 + n) ["f"] (conc K κ rec__law_after_jobs)) : BodyOk P κ.w K mg base κ (1 + n) ["f", "found", "part", "number"] "_law_after_jobs" s__law_after_jobs f (
    (fSeq (fAsg (fLst fNil) (fgName 1))
    (fSeq (fIfS (fTest (fOp (gIn true) (fOp gIxS (fVar 0) (fC (.int 0))) (fTup (fCons (fC (.str (Str.ofString "and"))) (fCons (fC (.str (Str.ofString "or"))) fNil))))) (fSeq (fRet (fLst (fCons (fOp gIxS (fVar 0) (fC (.int 1))) fNil))) fNext) fNext)
    (fSeq (fFor (fiTup (fOp gIxS (fVar 0) (fC (.int 1)))) (fgName 2) (L__law_after_jobs_1 rec__law_after_jobs))
    (fSeq (fRet (fCB gSortL (fCons (fVar 1) fNil))) fNext))))) :=
  fun cdv A outer s H E hr => ⟨_, (pss_cons (ps_set (i := 1) sc__law_after_jobs.nd rfl (Or.inr rfl) (pe_lst pa_nil))
      (pss_cons (ps_if (pt_cmpR op_notInG (pe_ix ix_G (pv 0) pe_int (fun _ _ => rfl)) (pe_tupF (pa_cons pe_str (pa_cons pe_str pa_nil))) (by with_unfolding_all rfl)) (pss_one (ps_ret (pe_lst (pa_cons (pe_ix ix_G (pv 0) pe_int (fun _ _ => rfl)) pa_nil)))) pss_nil)
      (pss_cons (ps_for (passes_of rfl) rfl (pi_tup (pe_ix ix_G (pv 0) pe_int (fun _ _ => rfl))) (pg_name (i := 2) sc__law_after_jobs.nd rfl (Or.inl rfl)) (pss_one (ps_expr (pe_bm PySem.F.plainAttrs_list PySem.F.slot_list_extend PySem.F.type_list_extend mt_extend (pv 1) (pa_cons (pe_lc (own := [("number", 3)]) (g := (gName 3)) rfl sc__law_after_jobs.nd (pi_list (pe_cc C__law_after_jobs (passes_call (takes_of rfl rfl rfl rfl) (fun _ _ _ _ h => h)) (hr.mono (by omega)) (pa_cons (pv 2) pa_nil))) (blkOk_by (own := [("number", 3)]) (N := ["f", "found", "part", "number"]) (sc := defScope s__law_after_jobs) (by decide +kernel)) (fun _ _ _ _ _ => (pg_name (i := 3) sc__law_after_jobs.nd rfl (Or.inl rfl))) (fun _ _ _ _ _ => (pts_one (pt_cmpR (op_notInK K) (pv 3) (pv 1) (by with_unfolding_all rfl)))) (fun _ _ _ _ _ => (pv 3))) pa_nil)))))
      (pss_one (ps_ret (pe_callB (cr_sortedN K) (by rfl) T.n_sorted (by decide +kernel) (pa_cons (pv 1) pa_nil))))))),
    (ls_seq (ls_asg (le_lst la_nil) (lg_name free_of))
      (ls_seq (ls_if (lt_test (le_op (inK true) (le_op ixSK le_var le_int) (le_tup (la_cons le_str (la_cons le_str la_nil))))) (ls_seq (ls_ret (le_lst (la_cons (le_op ixSK le_var le_int) la_nil))) ls_next) ls_next)
      (ls_seq (ls_for (li_tup (le_op ixSK le_var le_int)) (lg_name free_of) (ls_seq (ls_drop (le_bm extendK le_var (la_cons (le_lc (li_list (le_call (la_cons le_var la_nil))) (lg_name free_of) (gw_name (by decide)) gm_name (lt_test (le_op (inK true) le_var le_var)) le_var) la_nil))) ls_next))
      (ls_seq (ls_ret (le_CB sortLK (la_cons le_var la_nil))) ls_next))))⟩

theorem b__law_after_atom {f : Addr} (T : Txt K κ mg)  (C__law_pick : CallOk P κ.w K mg base "_law_pick" 2 ["dice", "items"] (conc K κ F__law_pick)) : BodyOk P κ.w K mg base κ 2 ["dice", "jobs"] "_law_after_atom" s__law_after_atom f (
    (fSeq (fRet (fTup (fCons (fCall F__law_pick (fCons (fVar 0) (fCons (fLst (fCons (fC (.str (Str.ofString "begun"))) (fCons (fC (.str (Str.ofString "over"))) (fCons (fC (.str (Str.ofString "well"))) (fCons (fC (.str (Str.ofString "ill"))) (fCons (fC (.str (Str.ofString "late"))) (fCons (fC (.str (Str.ofString "left"))) fNil))))))) fNil))) (fCons (fCall F__law_pick (fCons (fVar 0) (fCons (fVar 1) fNil))) fNil)))) fNext)) :=
  fun cdv A outer s H E hr => ⟨_, (pss_one (ps_ret (pe_tupF (pa_cons (pe_cc C__law_pick (passes_call (takes_of rfl rfl rfl rfl) (fun _ _ _ _ h => h)) (hr.mono (by decide)) (pa_cons (pv 0) (pa_cons (pe_lst (pa_cons pe_str (pa_cons pe_str (pa_cons pe_str (pa_cons pe_str (pa_cons pe_str (pa_cons pe_str pa_nil))))))) pa_nil))) (pa_cons (pe_cc C__law_pick (passes_call (takes_of rfl rfl rfl rfl) (fun _ _ _ _ h => h)) (hr.mono (by decide)) (pa_cons (pv 0) (pa_cons (pv 1) pa_nil))) pa_nil))))),
    (ls_seq (ls_ret (le_tup (la_cons (le_call (la_cons le_var (la_cons (le_lst (la_cons le_str (la_cons le_str (la_cons le_str (la_cons le_str (la_cons le_str (la_cons le_str la_nil))))))) la_nil))) (la_cons (le_call (la_cons le_var (la_cons le_var la_nil))) la_nil)))) ls_next)⟩

theorem b__law_after_drawn {f : Addr} {n : Nat} {rec__law_after_drawn : FD} (T : Txt K κ mg)  (C__law_pick : CallOk P κ.w K mg base "_law_pick" 2 ["dice", "items"] (conc K κ F__law_pick)) (C__law_roll : CallOk P κ.w K mg base "_law_roll" 1 ["dice", "total"] (conc K κ F__law_roll)) (C__law_after_drawn : CallOk P κ.w K mg base "_law_after_drawn" (4 + n) ["dice", "jobs", "deep"] (conc K κ rec__law_after_drawn)) (C__law_after_atom : CallOk P κ.w K mg base "_law_after_atom" 3 ["dice", "jobs"] (conc K κ F__law_after_atom)) : BodyOk P κ.w K mg base κ (4 + n) ["dice", "jobs", "deep", "parts", "turn"] "_law_after_drawn" s__law_after_drawn f (
    (fSeq (fIfS (fOr (fTest (fOp gLe (fVar 2) (fC (.int 0)))) (fTest (fOp gEq (fCall F__law_roll (fCons (fVar 0) (fCons (fC (.int 3)) fNil))) (fC (.int 0))))) (fSeq (fRet (fCall F__law_after_atom (fCons (fVar 0) (fCons (fVar 1) fNil)))) fNext) fNext)
    (fSeq (fAsg (fLc (fiRng1 (fOp gAdd (fC (.int 2)) (fCall F__law_roll (fCons (fVar 0) (fCons (fC (.int 2)) fNil))))) (fgName 4) fYes (fCall rec__law_after_drawn (fCons (fVar 0) (fCons (fVar 1) (fCons (fOp gSubI (fVar 2) (fC (.int 1))) fNil)))) [4]) (fgName 3))
    (fSeq (fRet (fTup (fCons (fCall F__law_pick (fCons (fVar 0) (fCons (fLst (fCons (fC (.str (Str.ofString "and"))) (fCons (fC (.str (Str.ofString "and"))) (fCons (fC (.str (Str.ofString "or"))) fNil)))) fNil))) (fCons (fCB gTuple (fCons (fVar 3) fNil)) fNil)))) fNext)))) :=
  fun cdv A outer s H E hr => ⟨_, (pss_cons (ps_if (PW.pt (pw_or (pt_cmpR op_leG (pv 2) pe_int (nomark _)) (pw_or1 (pt_cmpR (op_eqG hr.units) (pe_cc C__law_roll (passes_call (takes_of rfl rfl rfl rfl) (fun _ _ _ _ h => h)) (hr.mono (by omega)) (pa_cons (pv 0) (pa_cons pe_int pa_nil))) pe_int (nomark _))))) (pss_one (ps_ret (pe_cc C__law_after_atom (passes_call (takes_of rfl rfl rfl rfl) (fun _ _ _ _ h => h)) (hr.mono (by omega)) (pa_cons (pv 0) (pa_cons (pv 1) pa_nil))))) pss_nil)
      (pss_cons (ps_setLc (i := 3) (own := [("turn", 4)]) (g := (gName 4)) rfl sc__law_after_drawn.nd rfl rfl (sw_true rfl rfl rfl (by decide +kernel)) (pi_range1 (by rfl) T.n_range (pa_cons (pe_op op_addG pe_int (pe_cc C__law_roll (passes_call (takes_of rfl rfl rfl rfl) (fun _ _ _ _ h => h)) (hr.mono (by omega)) (pa_cons (pv 0) (pa_cons pe_int pa_nil)))) pa_nil)) (blkOk_by (own := [("turn", 4)]) (N := ["dice", "jobs", "deep", "parts", "turn"]) (sc := defScope s__law_after_drawn) (by decide +kernel)) (fun _ _ _ _ _ => (pg_name (i := 4) sc__law_after_drawn.nd rfl (Or.inl rfl))) (fun _ _ _ _ _ => pts_nil) (fun _ _ _ _ _ => (pe_cc C__law_after_drawn passL (hr.mono (by omega)) (pa_cons (pv 0) (pa_cons (pv 1) (pa_cons (pe_op op_subG (pv 2) pe_int) pa_nil))))))
      (pss_one (ps_ret (pe_tupF (pa_cons (pe_cc C__law_pick (passes_call (takes_of rfl rfl rfl rfl) (fun _ _ _ _ h => h)) (hr.mono (by omega)) (pa_cons (pv 0) (pa_cons (pe_lst (pa_cons pe_str (pa_cons pe_str (pa_cons pe_str pa_nil)))) pa_nil))) (pa_cons (pe_callTy (call_tupleN K) (by rfl) T.n_tuple (by decide +kernel) (pa_cons (pv 3) pa_nil)) pa_nil))))))),
    (ls_seq (ls_if (lt_or (lt_test (le_op rleK le_var le_int)) (lt_test (le_op reqK (le_call (la_cons le_var (la_cons le_int la_nil))) le_int))) (ls_seq (ls_ret (le_call (la_cons le_var (la_cons le_var la_nil)))) ls_next) ls_next)
      (ls_seq (ls_asg (le_lc (li_rng1 (le_op raddK le_int (le_call (la_cons le_var (la_cons le_int la_nil))))) (lg_name free_of) (gw_name (by decide)) gm_name lt_yes (le_call (la_cons le_var (la_cons le_var (la_cons (le_op rsubK le_var le_int) la_nil))))) (lg_name free_of))
      (ls_seq (ls_ret (le_tup (la_cons (le_call (la_cons le_var (la_cons (le_lst (la_cons le_str (la_cons le_str (la_cons le_str la_nil)))) la_nil))) (la_cons (le_CB tupleK (la_cons le_var la_nil)) la_nil)))) ls_next)))⟩

theorem b__law_dice {f : Addr} (T : Txt K κ mg)   : BodyOk P κ.w K mg base κ 0 ["script", "spot", "cell", "left"] "_law_dice" s__law_dice f (
    (fSeq (fAsg (fIf (fTest (fOp gLt (fVar 1) (fCB gLen (fCons (fVar 0) fNil)))) (fCB gInt (fCons (fOp gIxS (fVar 0) (fVar 1)) fNil)) (fOp gAdd (fOp gMul (fC (.int 71)) (fVar 1)) (fC (.int 31)))) (fgName 2))
    (fSeq (fAsg (fOp gMod (fCB gMax (fCons (fC (.int 0)) (fCons (fOp gSubI (fCB gAbs (fCons (fVar 2) fNil)) (fOp gPow (fC (.int 10)) (fC (.int 16)))) fNil))) (fOp gMul (fOp gPow (fC (.int 10)) (fC (.int 60))) (fOp gPow (fC (.int 10)) (fC (.int 60))))) (fgName 3))
    (fSeq (fRet (fLst (fCons (fVar 3) (fCons (fOp gAdd (fOp gAdd (fOp gAdd (fOp gMul (fOp gMod (fCB gAbs (fCons (fVar 2) fNil)) (fC (.int 1152921504606846697))) (fC (.int 59))) (fOp gMul (fC (.int 821)) (fVar 1))) (fOp gMul (fC (.int 37)) (fCB gInt (fCons (fOp gLt (fVar 2) (fC (.int 0))) fNil)))) (fC (.int 5))) (fCons (fC (.int 0)) fNil))))) fNext)))) :=
  fun cdv A outer s H E hr => ⟨_, (pss_cons (ps_set (i := 2) sc__law_dice.nd rfl (Or.inl rfl) (pe_ifExp (pt_cmpR op_ltG (pv 1) (pe_callB call_lenG (by rfl) T.n_len (by decide +kernel) (pa_cons (pv 0) pa_nil)) (nomark _)) (pe_callTy call_intG (by rfl) T.n_int (by decide +kernel) (pa_cons (pe_ix ix_G (pv 0) (pv 1) (fun _ _ => rfl)) pa_nil)) (pe_op op_addG (pe_op op_mulG pe_int (pv 1)) pe_int)))
      (pss_cons (ps_set (i := 3) sc__law_dice.nd rfl (Or.inl rfl) (pe_op op_modG (pe_callB (call_maxG rfl) (by rfl) T.n_max (by decide +kernel) (pa_cons pe_int (pa_cons (pe_op op_subG (pe_callB call_absG (by rfl) T.n_abs (by decide +kernel) (pa_cons (pv 2) pa_nil)) (pe_op op_powG pe_int pe_int)) pa_nil))) (pe_op op_mulG (pe_op op_powG pe_int pe_int) (pe_op op_powG pe_int pe_int))))
      (pss_one (ps_ret (pe_lst (pa_cons (pv 3) (pa_cons (pe_op op_addG (pe_op op_addG (pe_op op_addG (pe_op op_mulG (pe_op op_modG (pe_callB call_absG (by rfl) T.n_abs (by decide +kernel) (pa_cons (pv 2) pa_nil)) pe_int) pe_int) (pe_op op_mulG pe_int (pv 1))) (pe_op op_mulG pe_int (pe_callTy call_intG (by rfl) T.n_int (by decide +kernel) (pa_cons (pe_cmpR op_ltG (pv 2) pe_int (nomark _)) pa_nil)))) pe_int) (pa_cons pe_int pa_nil)))))))),
    (ls_seq (ls_asg (le_if (lt_test (le_op rltK le_var (le_CB lenK (la_cons le_var la_nil)))) (le_CB intK (la_cons (le_op ixSK le_var le_var) la_nil)) (le_op raddK (le_op rmulK le_int le_var) le_int)) (lg_name free_of))
      (ls_seq (ls_asg (le_op rmodK (le_CB maxK (la_cons le_int (la_cons (le_op rsubK (le_CB absK (la_cons le_var la_nil)) (le_op rpowK le_int le_int)) la_nil))) (le_op rmulK (le_op rpowK le_int le_int) (le_op rpowK le_int le_int))) (lg_name free_of))
      (ls_seq (ls_ret (le_lst (la_cons le_var (la_cons (le_op raddK (le_op raddK (le_op raddK (le_op rmulK (le_op rmodK (le_CB absK (la_cons le_var la_nil)) le_int) le_int) (le_op rmulK le_int le_var)) (le_op rmulK le_int (le_CB intK (la_cons (le_op rltK le_var le_int) la_nil)))) le_int) (la_cons le_int la_nil))))) ls_next)))⟩

theorem b__law_all_states {f : Addr} (T : Txt K κ mg)   : BodyOk P κ.w K mg base κ 0 [] "_law_all_states" s__law_all_states f (
    (fSeq (fRet (fLst (fCons (fC (.str (Str.ofString "waiting"))) (fCons (fC (.str (Str.ofString "begun"))) (fCons (fC (.str (Str.ofString "left"))) (fCons (fC (.str (Str.ofString "well"))) (fCons (fC (.str (Str.ofString "ill"))) (fCons (fC (.str (Str.ofString "late"))) (fCons (fC (.str (Str.ofString "gone"))) fNil))))))))) fNext)) :=
  fun cdv A outer s H E hr => ⟨_, (pss_one (ps_ret (pe_lst (pa_cons pe_str (pa_cons pe_str (pa_cons pe_str (pa_cons pe_str (pa_cons pe_str (pa_cons pe_str (pa_cons pe_str pa_nil)))))))))),
    (ls_seq (ls_ret (le_lst (la_cons le_str (la_cons le_str (la_cons le_str (la_cons le_str (la_cons le_str (la_cons le_str (la_cons le_str la_nil))))))))) ls_next)⟩

theorem b__law_atom_holds {f : Addr} (T : Txt K κ mg)   : BodyOk P κ.w K mg base κ 0 ["word", "state"] "_law_atom_holds" s__law_atom_holds f (
    (fSeq (fIfS (fTest (fOp gEq (fVar 0) (fC (.str (Str.ofString "begun"))))) (fSeq (fRet (fOp (gIn true) (fVar 1) (fTup (fCons (fC (.str (Str.ofString "waiting"))) (fCons (fC (.str (Str.ofString "left"))) fNil))))) fNext) fNext)
    (fSeq (fRet (fIf (fTest (fOp gEq (fVar 0) (fC (.str (Str.ofString "over"))))) (fOp (gIn true) (fVar 1) (fTup (fCons (fC (.str (Str.ofString "waiting"))) (fCons (fC (.str (Str.ofString "begun"))) fNil)))) (fOp gEq (fVar 1) (fVar 0)))) fNext))) :=
  fun cdv A outer s H E hr => ⟨_, (pss_cons (ps_if (pt_cmpR (op_eqG hr.units) (pv 0) pe_str (nomark _)) (pss_one (ps_ret (pe_cmpR op_notInG (pv 1) (pe_tupF (pa_cons pe_str (pa_cons pe_str pa_nil))) (by with_unfolding_all rfl)))) pss_nil)
      (pss_one (ps_ret (pe_ifExp (pt_cmpR (op_eqG hr.units) (pv 0) pe_str (nomark _)) (pe_cmpR op_notInG (pv 1) (pe_tupF (pa_cons pe_str (pa_cons pe_str pa_nil))) (by with_unfolding_all rfl)) (pe_cmpR (op_eqG hr.units) (pv 1) (pv 0) (nomark _)))))),
    (ls_seq (ls_if (lt_test (le_op reqK le_var le_str)) (ls_seq (ls_ret (le_op (inK true) le_var (le_tup (la_cons le_str (la_cons le_str la_nil))))) ls_next) ls_next)
      (ls_seq (ls_ret (le_if (lt_test (le_op reqK le_var le_str)) (le_op (inK true) le_var (le_tup (la_cons le_str (la_cons le_str la_nil)))) (le_op reqK le_var le_var))) ls_next))⟩

theorem b__law_ends_behind {f : Addr} (T : Txt K κ mg)   : BodyOk P κ.w K mg base κ 0 ["state"] "_law_ends_behind" s__law_ends_behind f (
    (fSeq (fIfS (fTest (fOp gEq (fVar 0) (fC (.str (Str.ofString "waiting"))))) (fSeq (fRet (fLst (fCons (fC (.str (Str.ofString "left"))) (fCons (fC (.str (Str.ofString "well"))) (fCons (fC (.str (Str.ofString "ill"))) (fCons (fC (.str (Str.ofString "late"))) (fCons (fC (.str (Str.ofString "gone"))) fNil))))))) fNext) fNext)
    (fSeq (fRet (fIf (fTest (fOp gEq (fVar 0) (fC (.str (Str.ofString "begun"))))) (fLst (fCons (fC (.str (Str.ofString "well"))) (fCons (fC (.str (Str.ofString "ill"))) (fCons (fC (.str (Str.ofString "late"))) (fCons (fC (.str (Str.ofString "gone"))) fNil))))) (fLst (fCons (fVar 0) fNil)))) fNext))) :=
  fun cdv A outer s H E hr => ⟨_, (pss_cons (ps_if (pt_cmpR (op_eqG hr.units) (pv 0) pe_str (nomark _)) (pss_one (ps_ret (pe_lst (pa_cons pe_str (pa_cons pe_str (pa_cons pe_str (pa_cons pe_str (pa_cons pe_str pa_nil)))))))) pss_nil)
      (pss_one (ps_ret (pe_ifExp (pt_cmpR (op_eqG hr.units) (pv 0) pe_str (nomark _)) (pe_lst (pa_cons pe_str (pa_cons pe_str (pa_cons pe_str (pa_cons pe_str pa_nil))))) (pe_lst (pa_cons (pv 0) pa_nil)))))),
    (ls_seq (ls_if (lt_test (le_op reqK le_var le_str)) (ls_seq (ls_ret (le_lst (la_cons le_str (la_cons le_str (la_cons le_str (la_cons le_str (la_cons le_str la_nil))))))) ls_next) ls_next)
      (ls_seq (ls_ret (le_if (lt_test (le_op reqK le_var le_str)) (le_lst (la_cons le_str (la_cons le_str (la_cons le_str (la_cons le_str la_nil))))) (le_lst (la_cons le_var la_nil)))) ls_next))⟩

theorem b__law_states_right {f : Addr} (T : Txt K κ mg)  (C__law_all_states : CallOk P κ.w K mg base "_law_all_states" 1 [] (conc K κ F__law_all_states)) (C_may_follow : CallOk P κ.w K mg base "may_follow" 3 ["one", "other"] (conc K κ F_may_follow)) (C_atoms_of : CallOk P κ.w K mg base "atoms_of" 3 ["state"] (conc K κ F_atoms_of)) (C__law_atom_holds : CallOk P κ.w K mg base "_law_atom_holds" 1 ["word", "state"] (conc K κ F__law_atom_holds)) (C_is_state : CallOk P κ.w K mg base "is_state" 1 ["value"] (conc K κ F_is_state)) (C_ends_of : CallOk P κ.w K mg base "ends_of" 3 ["state"] (conc K κ F_ends_of)) (C__law_ends_behind : CallOk P κ.w K mg base "_law_ends_behind" 1 ["state"] (conc K κ F__law_ends_behind)) : BodyOk P κ.w K mg base κ 3 ["words", "state", "word", "nexts", "other"] "_law_states_right" s__law_states_right f (
    (fSeq (fIfS (fTest (fOp gNe (fC (.tuq [(.str (Str.ofString "waiting")), (.str (Str.ofString "begun")), (.str (Str.ofString "left")), (.str (Str.ofString "well")), (.str (Str.ofString "ill")), (.str (Str.ofString "late")), (.str (Str.ofString "gone"))])) (fCB gTuple (fCons (fCall F__law_all_states fNil) fNil)))) (fSeq (fRet (fC (.bl false))) fNext) fNext)
    (fSeq (fAsg (fLst (fCons (fC (.str (Str.ofString "begun"))) (fCons (fC (.str (Str.ofString "over"))) (fCons (fC (.str (Str.ofString "well"))) (fCons (fC (.str (Str.ofString "ill"))) (fCons (fC (.str (Str.ofString "late"))) (fCons (fC (.str (Str.ofString "left"))) fNil))))))) (fgName 0))
    (fSeq (fFor (fiList (fCall F__law_all_states fNil)) (fgName 1) L__law_states_right_2)
    (fSeq (fRet (fC (.bl true))) fNext))))) :=
  fun cdv A outer s H E hr => ⟨_, (pss_cons (ps_if (pt_cmpR (op_neG hr.units) (pe_gR T.ct_STATES) (pe_callTy (call_tupleN K) (by rfl) T.n_tuple (by decide +kernel) (pa_cons (pe_cc0 C__law_all_states (passes_call (takes_of rfl rfl rfl rfl) (fun _ _ _ _ h => h)) (hr.mono (by decide))) pa_nil)) (nomark _)) (pss_one (ps_ret pe_bl)) pss_nil)
      (pss_cons (ps_set (i := 0) sc__law_states_right.nd rfl (Or.inl rfl) (pe_lst (pa_cons pe_str (pa_cons pe_str (pa_cons pe_str (pa_cons pe_str (pa_cons pe_str (pa_cons pe_str pa_nil))))))))
      (pss_cons (ps_for (passes_of rfl) rfl (pi_list (pe_cc0 C__law_all_states (passes_call (takes_of rfl rfl rfl rfl) (fun _ _ _ _ h => h)) (hr.mono (by decide)))) (pg_name (i := 1) sc__law_states_right.nd rfl (Or.inr rfl)) (pss_cons (ps_if (PW.pt (pw_or (pt_cmpR (op_neG hr.units) (pe_cc C_ends_of (passes_call (takes_of rfl rfl rfl rfl) (fun _ _ _ _ h => h)) (hr.mono (by decide)) (pa_cons (pv 1) pa_nil)) (pe_callTy (call_tupleN K) (by rfl) T.n_tuple (by decide +kernel) (pa_cons (pe_cc C__law_ends_behind (passes_call (takes_of rfl rfl rfl rfl) (fun _ _ _ _ h => h)) (hr.mono (by decide)) (pa_cons (pv 1) pa_nil)) pa_nil)) (nomark _)) (pw_or1 (pt_cmpR op_notBG (pe_cc C_is_state (passes_call (takes_of rfl rfl rfl rfl) (fun _ _ _ _ h => h)) (hr.mono (by decide)) (pa_cons (pv 1) pa_nil)) pe_bl (nomark _))))) (pss_one (ps_ret pe_bl)) pss_nil)
      (pss_cons (ps_if (pt_cmpR (op_neG hr.units) (pe_cc C_atoms_of (passes_call (takes_of rfl rfl rfl rfl) (fun _ _ _ _ h => h)) (hr.mono (by decide)) (pa_cons (pv 1) pa_nil)) (pe_callTy (call_tupleN K) (by rfl) T.n_tuple (by decide +kernel) (pa_cons (pe_lc (own := [("word", 2)]) (g := (gName 2)) rfl sc__law_states_right.nd (pi_list (pv 0)) (blkOk_by (own := [("word", 2)]) (N := ["words", "state", "word", "nexts", "other"]) (sc := defScope s__law_states_right) (by decide +kernel)) (fun _ _ _ _ _ => (pg_name (i := 2) sc__law_states_right.nd rfl (Or.inl rfl))) (fun _ _ _ _ _ => (pts_one (pt_truX (pe_cc C__law_atom_holds passL (hr.mono (by decide)) (pa_cons (pv 2) (pa_cons (pv 1) pa_nil)))))) (fun _ _ _ _ _ => (pv 2))) pa_nil)) (nomark _)) (pss_one (ps_ret pe_bl)) pss_nil)
      (pss_cons (ps_set (i := 3) sc__law_states_right.nd rfl (Or.inl rfl) (pe_dget2 (hu_of hr) (pe_disp (pps_cons pe_str (pe_lst (pa_cons pe_str (pa_cons pe_str pa_nil))) (pps_cons pe_str (pe_lst (pa_cons pe_str (pa_cons pe_str (pa_cons pe_str (pa_cons pe_str pa_nil))))) pps_nil)) (by rfl) (by rfl) (fun z => by cases z) (by decide)) (pv 1) (pe_lst pa_nil) ⟨rfl, rfl, rfl, rfl⟩))
      (pss_one (ps_for (passes_of rfl) rfl (pi_list (pe_cc0 C__law_all_states (passes_call (takes_of rfl rfl rfl rfl) (fun _ _ _ _ h => h)) (hr.mono (by decide)))) (pg_name (i := 4) sc__law_states_right.nd rfl (Or.inl rfl)) (pss_one (ps_if (pt_cmpR (op_neG hr.units) (pe_callB call_reprG (by rfl) T.n_repr (by decide +kernel) (pa_cons (pe_cc C_may_follow (passes_call (takes_of rfl rfl rfl rfl) (fun _ _ _ _ h => h)) (hr.mono (by decide)) (pa_cons (pv 1) (pa_cons (pv 4) pa_nil))) pa_nil)) (pe_callB call_reprG (by rfl) T.n_repr (by decide +kernel) (pa_cons (pe_cmpR op_inG (pv 4) (pv 3) (by with_unfolding_all rfl)) pa_nil)) (nomark _)) (pss_one (ps_ret pe_bl)) pss_nil))))))))
      (pss_one (ps_ret pe_bl))))),
    (ls_seq (ls_if (lt_test (le_op rneK (le_C T.rp_STATES) (le_CB tupleK (la_cons (le_call la_nil) la_nil)))) (ls_seq (ls_ret le_bl) ls_next) ls_next)
      (ls_seq (ls_asg (le_lst (la_cons le_str (la_cons le_str (la_cons le_str (la_cons le_str (la_cons le_str (la_cons le_str la_nil))))))) (lg_name free_of))
      (ls_seq (ls_for (li_list (le_call la_nil)) (lg_name free_of) (ls_seq (ls_if (lt_or (lt_test (le_op rneK (le_call (la_cons le_var la_nil)) (le_CB tupleK (la_cons (le_call (la_cons le_var la_nil)) la_nil)))) (lt_test (le_op (isBK true) (le_call (la_cons le_var la_nil)) le_bl))) (ls_seq (ls_ret le_bl) ls_next) ls_next)
      (ls_seq (ls_if (lt_test (le_op rneK (le_call (la_cons le_var la_nil)) (le_CB tupleK (la_cons (le_lc (li_list le_var) (lg_name free_of) (gw_name (by decide)) gm_name (lt_tru (le_call (la_cons le_var (la_cons le_var la_nil)))) le_var) la_nil)))) (ls_seq (ls_ret le_bl) ls_next) ls_next)
      (ls_seq (ls_asg (le_dget2 (le_disp (.cons le_str (le_lst (la_cons le_str (la_cons le_str la_nil))) (.cons le_str (le_lst (la_cons le_str (la_cons le_str (la_cons le_str (la_cons le_str la_nil))))) .nil))) le_var (le_lst la_nil)) (lg_name free_of))
      (ls_seq (ls_for (li_list (le_call la_nil)) (lg_name free_of) (ls_seq (ls_if (lt_test (le_op rneK (le_CB reprK (la_cons (le_call (la_cons le_var (la_cons le_var la_nil))) la_nil)) (le_CB reprK (la_cons (le_op (inK false) le_var le_var) la_nil)))) (ls_seq (ls_ret le_bl) ls_next) ls_next) ls_next)) ls_next)))))
      (ls_seq (ls_ret le_bl) ls_next))))⟩

theorem b_law {f : Addr} (T : Txt K κ mg)  (C_is_after_formula : CallOk P κ.w K mg base "is_after_formula" 4 ["value"] (conc K κ F_is_after_formula)) (C_is_state : CallOk P κ.w K mg base "is_state" 1 ["value"] (conc K κ F_is_state)) (C_may_follow : CallOk P κ.w K mg base "may_follow" 3 ["one", "other"] (conc K κ F_may_follow)) (C_atoms_of : CallOk P κ.w K mg base "atoms_of" 3 ["state"] (conc K κ F_atoms_of)) (C_ends_of : CallOk P κ.w K mg base "ends_of" 3 ["state"] (conc K κ F_ends_of)) (C_jobs_named : CallOk P κ.w K mg base "jobs_named" 6 ["f"] (conc K κ F_jobs_named)) (C__law_pick : CallOk P κ.w K mg base "_law_pick" 2 ["dice", "items"] (conc K κ F__law_pick)) (C__law_bent : CallOk P κ.w K mg base "_law_bent" 1 ["dice", "f"] (conc K κ F__law_bent)) (C__law_after_jobs : CallOk P κ.w K mg base "_law_after_jobs" 6 ["f"] (conc K κ F__law_after_jobs)) (C__law_after_drawn : CallOk P κ.w K mg base "_law_after_drawn" 9 ["dice", "jobs", "deep"] (conc K κ F__law_after_drawn)) (C__law_dice : CallOk P κ.w K mg base "_law_dice" 1 ["script", "spot"] (conc K κ F__law_dice)) (C__law_states_right : CallOk P κ.w K mg base "_law_states_right" 4 [] (conc K κ F__law_states_right)) (TB : LamX.TabB base mg (κ "code:law") (κ "tab:law")) : BodyC P κ.w K mg base κ 11 ["script", "spot", "dice", "f", "bent", "value", "odd", "word", "told", "one", "most", "at"] "law" s_law f (κ "code:law") (
    (fSeq (fIfS (fNot (fTru (fCall F__law_states_right fNil))) (fSeq (fRet (fC (.bl false))) fNext) fNext)
    (fSeq (fFor (fiRng1 (fCB gMax (fCons (fC (.int 1)) (fCons (fCB gMin (fCons (fC (.int 4)) (fCons (fCB gLen (fCons (fVar 0) fNil)) fNil))) fNil)))) (fgName 1) L_law_1)
    (fSeq (fAsg (fTup (fCons (fC (.str (Str.ofString "begun"))) (fCons (fC (.int 1)) fNil))) (fgName 9))
    (fSeq (fAsg (fTup (fCons (fC (.str (Str.ofString "and"))) (fCons (fTup (fCons (fTup (fCons (fC (.str (Str.ofString "or"))) (fCons (fOp gMulT (fTup (fCons (fVar 9) fNil)) (fC (.int 19))) fNil))) (fCons (fTup (fCons (fC (.str (Str.ofString "or"))) (fCons (fOp gMulT (fTup (fCons (fVar 9) fNil)) (fC (.int 19))) fNil))) (fCons (fTup (fCons (fC (.str (Str.ofString "or"))) (fCons (fOp gMulT (fTup (fCons (fVar 9) fNil)) (fC (.int 18))) fNil))) fNil)))) fNil))) (fgName 10))
    (fSeq (fRet (fAndV (fOp (gIsB false) (fCall F_is_after_formula (fCons (fVar 10) fNil)) (fC (.bl true))) (fOp (gIsB false) (fCall F_is_after_formula (fCons (fTup (fCons (fC (.str (Str.ofString "and"))) (fCons (fCB gTuple (fCons (fLc (fiRng1 (fC (.int 6))) (fgName 11) fYes (fTup (fCons (fC (.str (Str.ofString "left"))) (fCons (fOp gAdd (fVar 11) (fC (.int 1))) fNil))) [11]) fNil)) fNil))) fNil)) (fC (.bl true))))) fNext)))))) :=
  fun A outer s H E hr => ⟨_, (pss_cons (ps_if (pt_not (pt_truX (pe_cc0 C__law_states_right (passes_call (takes_of rfl rfl rfl rfl) (fun _ _ _ _ h => h)) (hr.mono (by decide))))) (pss_one (ps_ret pe_bl)) pss_nil)
      (pss_cons (ps_for (passes_of rfl) rfl (pi_range1 (by rfl) T.n_range (pa_cons (pe_callB (call_maxG rfl) (by rfl) T.n_max (by decide +kernel) (pa_cons pe_int (pa_cons (pe_callB (call_minG rfl) (by rfl) T.n_min (by decide +kernel) (pa_cons pe_int (pa_cons (pe_callB call_lenG (by rfl) T.n_len (by decide +kernel) (pa_cons (pv 0) pa_nil)) pa_nil))) pa_nil))) pa_nil)) (pg_name (i := 1) sc_law.nd rfl (Or.inl rfl)) (pss_cons (ps_set (i := 2) sc_law.nd rfl (Or.inl rfl) (pe_cc C__law_dice (passes_call (takes_of rfl rfl rfl rfl) (fun _ _ _ _ h => h)) (hr.mono (by decide)) (pa_cons (pv 0) (pa_cons (pv 1) pa_nil))))
      (pss_cons (ps_set (i := 3) sc_law.nd rfl (Or.inl rfl) (pe_cc C__law_after_drawn (passes_call (takes_of rfl rfl rfl rfl) (fun _ _ _ _ h => h)) (hr.mono (by decide)) (pa_cons (pv 2) (pa_cons (pe_lst (pa_cons pe_int (pa_cons pe_int (pa_cons pe_int (pa_cons pe_int pa_nil))))) (pa_cons pe_int pa_nil)))))
      (pss_cons (ps_if (PW.pt (pw_or (pt_cmpR op_notBG (pe_cc C_is_after_formula (passes_call (takes_of rfl rfl rfl rfl) (fun _ _ _ _ h => h)) (hr.mono (by decide)) (pa_cons (pv 3) pa_nil)) pe_bl (nomark _)) (pw_or1 (pt_cmpR (op_neG hr.units) (pe_cc C_jobs_named (passes_call (takes_of rfl rfl rfl rfl) (fun _ _ _ _ h => h)) (hr.mono (by decide)) (pa_cons (pv 3) pa_nil)) (pe_callTy (call_tupleN K) (by rfl) T.n_tuple (by decide +kernel) (pa_cons (pe_cc C__law_after_jobs (passes_call (takes_of rfl rfl rfl rfl) (fun _ _ _ _ h => h)) (hr.mono (by decide)) (pa_cons (pv 3) pa_nil)) pa_nil)) (nomark _))))) (pss_one (ps_ret pe_bl)) pss_nil)
      (pss_cons (ps_set (i := 4) sc_law.nd rfl (Or.inl rfl) (pe_cc C__law_bent (passes_call (takes_of rfl rfl rfl rfl) (fun _ _ _ _ h => h)) (hr.mono (by decide)) (pa_cons (pv 2) (pa_cons (pv 3) pa_nil))))
      (pss_cons (ps_if (pt_cmpR (op_neG hr.units) (pe_lc (own := [("value", 5)]) (g := (gName 5)) rfl sc_law.nd (pi_list (pv 4)) (blkOk_by (own := [("value", 5)]) (N := ["script", "spot", "dice", "f", "bent", "value", "odd", "word", "told", "one", "most", "at"]) (sc := defScope s_law) (by decide +kernel)) (fun _ _ _ _ _ => (pg_name (i := 5) sc_law.nd rfl (Or.inl rfl))) (fun _ _ _ _ _ => (pts_one (pt_cmpR op_notBG (pe_cc C_is_after_formula passL (hr.mono (by decide)) (pa_cons (pv 5) pa_nil)) pe_bl (nomark _)))) (fun _ _ _ _ _ => (pv 5))) (pe_lst pa_nil) (nomark _)) (pss_one (ps_ret pe_bl)) pss_nil)
      (pss_cons (ps_asg (pe_tupF (pa_cons (pe_cc C__law_pick (passes_call (takes_of rfl rfl rfl rfl) (fun _ _ _ _ h => h)) (hr.mono (by decide)) (pa_cons (pv 2) (pa_cons (pv 4) pa_nil))) (pa_cons (pe_cc C__law_pick (passes_call (takes_of rfl rfl rfl rfl) (fun _ _ _ _ h => h)) (hr.mono (by decide)) (pa_cons (pv 2) (pa_cons (pe_lst (pa_cons pe_non (pa_cons pe_int (pa_cons pe_str (pa_cons pe_str (pa_cons pe_str (pa_cons (pe_tupF (pa_cons pe_str pa_nil)) (pa_cons (pe_lst pa_nil) (pa_cons pe_dnewK (pa_cons pe_bl pa_nil)))))))))) pa_nil))) pa_nil))) (pg_tup rfl (pgs_cons (pg_name (i := 6) sc_law.nd rfl (Or.inr rfl)) (pgs_cons (pg_name (i := 7) sc_law.nd rfl (Or.inr rfl)) pgs_nil))))
      (pss_cons (ps_set (i := 8) sc_law.nd rfl (Or.inl rfl) (pe_lst (pa_cons (pe_lamG (k := 9) T.gv__law_is_refused sc__law_is_refused rfl (by first | exact Or.inl rfl | exact Or.inr (Or.inl rfl)) (fun g cdg => g__law_is_refused T g cdg) TB rfl T.tm_law T.tu_law (hr.mono (by decide)) (LamX.lamS_by (sc := defScope s_law) (by decide +kernel)) (fun _ _ _ _ _ => rfl) (fun A outer s H E f c hr => (pe_cc C_jobs_named (passes_call (takes_of rfl rfl rfl rfl) (fun _ _ _ _ h => h)) (hr.mono (by decide)) (pa_cons (pv 6) pa_nil)))) pa_nil)))
      (pss_cons (ps_expr (pe_bm PySem.F.plainAttrs_list PySem.F.slot_list_append PySem.F.type_list_append mt_append (pv 8) (pa_cons (pe_lamG (k := 9) T.gv__law_is_refused sc__law_is_refused rfl (by first | exact Or.inl rfl | exact Or.inr (Or.inl rfl)) (fun g cdg => g__law_is_refused T g cdg) TB rfl T.tm_law T.tu_law (hr.mono (by decide)) (LamX.lamS_by (sc := defScope s_law) (by decide +kernel)) (fun _ _ _ _ _ => rfl) (fun A outer s H E f c hr => (pe_cc C_ends_of (passes_call (takes_of rfl rfl rfl rfl) (fun _ _ _ _ h => h)) (hr.mono (by decide)) (pa_cons (pv 7) pa_nil)))) pa_nil)))
      (pss_cons (ps_expr (pe_bm PySem.F.plainAttrs_list PySem.F.slot_list_append PySem.F.type_list_append mt_append (pv 8) (pa_cons (pe_lamG (k := 9) T.gv__law_is_refused sc__law_is_refused rfl (by first | exact Or.inl rfl | exact Or.inr (Or.inl rfl)) (fun g cdg => g__law_is_refused T g cdg) TB rfl T.tm_law T.tu_law (hr.mono (by decide)) (LamX.lamS_by (sc := defScope s_law) (by decide +kernel)) (fun _ _ _ _ _ => rfl) (fun A outer s H E f c hr => (pe_cc C_atoms_of (passes_call (takes_of rfl rfl rfl rfl) (fun _ _ _ _ h => h)) (hr.mono (by decide)) (pa_cons (pv 7) pa_nil)))) pa_nil)))
      (pss_cons (ps_expr (pe_bm PySem.F.plainAttrs_list PySem.F.slot_list_append PySem.F.type_list_append mt_append (pv 8) (pa_cons (pe_lamG (k := 9) T.gv__law_is_refused sc__law_is_refused rfl (by first | exact Or.inl rfl | exact Or.inr (Or.inl rfl)) (fun g cdg => g__law_is_refused T g cdg) TB rfl T.tm_law T.tu_law (hr.mono (by decide)) (LamX.lamS_by (sc := defScope s_law) (by decide +kernel)) (fun _ _ _ _ _ => rfl) (fun A outer s H E f c hr => (pe_cc C_may_follow (passes_call (takes_of rfl rfl rfl rfl) (fun _ _ _ _ h => h)) (hr.mono (by decide)) (pa_cons pe_str (pa_cons (pv 7) pa_nil))))) pa_nil)))
      (pss_cons (ps_expr (pe_bm PySem.F.plainAttrs_list PySem.F.slot_list_append PySem.F.type_list_append mt_append (pv 8) (pa_cons (pe_lamG (k := 9) T.gv__law_is_refused sc__law_is_refused rfl (by first | exact Or.inl rfl | exact Or.inr (Or.inl rfl)) (fun g cdg => g__law_is_refused T g cdg) TB rfl T.tm_law T.tu_law (hr.mono (by decide)) (LamX.lamS_by (sc := defScope s_law) (by decide +kernel)) (fun _ _ _ _ _ => rfl) (fun A outer s H E f c hr => (pe_cc C_may_follow (passes_call (takes_of rfl rfl rfl rfl) (fun _ _ _ _ h => h)) (hr.mono (by decide)) (pa_cons (pv 7) (pa_cons pe_str pa_nil))))) pa_nil)))
      (pss_one (ps_if (PW.pt (pw_or (pt_cmpR (op_neG hr.units) (pv 8) (pe_op op_mulG (pe_lst (pa_cons pe_bl pa_nil)) pe_int) (nomark _)) (pw_or1 (pt_cmpR op_notBG (pe_cc C_is_state (passes_call (takes_of rfl rfl rfl rfl) (fun _ _ _ _ h => h)) (hr.mono (by decide)) (pa_cons (pv 7) pa_nil)) pe_bl (nomark _))))) (pss_one (ps_ret pe_bl)) pss_nil))))))))))))))
      (pss_cons (ps_set (i := 9) sc_law.nd rfl (Or.inl rfl) (pe_tupF (pa_cons pe_str (pa_cons pe_int pa_nil))))
      (pss_cons (ps_set (i := 10) sc_law.nd rfl (Or.inl rfl) (pe_tupF (pa_cons pe_str (pa_cons (pe_tupF (pa_cons (pe_tupF (pa_cons pe_str (pa_cons (pe_op (op_mulTG K) (pe_tupF (pa_cons (pv 9) pa_nil)) pe_int) pa_nil))) (pa_cons (pe_tupF (pa_cons pe_str (pa_cons (pe_op (op_mulTG K) (pe_tupF (pa_cons (pv 9) pa_nil)) pe_int) pa_nil))) (pa_cons (pe_tupF (pa_cons pe_str (pa_cons (pe_op (op_mulTG K) (pe_tupF (pa_cons (pv 9) pa_nil)) pe_int) pa_nil))) pa_nil)))) pa_nil))))
      (pss_one (ps_ret (pe_and (pe_cmpR op_isBG (pe_cc C_is_after_formula (passes_call (takes_of rfl rfl rfl rfl) (fun _ _ _ _ h => h)) (hr.mono (by decide)) (pa_cons (pv 10) pa_nil)) pe_bl (nomark _)) (pe_one (pe_cmpR op_isBG (pe_cc C_is_after_formula (passes_call (takes_of rfl rfl rfl rfl) (fun _ _ _ _ h => h)) (hr.mono (by decide)) (pa_cons (pe_tupF (pa_cons pe_str (pa_cons (pe_callTy (call_tupleN K) (by rfl) T.n_tuple (by decide +kernel) (pa_cons (pe_lc (own := [("at", 11)]) (g := (gName 11)) rfl sc_law.nd (pi_range1 (by rfl) T.n_range (pa_cons pe_int pa_nil)) (blkOk_by (own := [("at", 11)]) (N := ["script", "spot", "dice", "f", "bent", "value", "odd", "word", "told", "one", "most", "at"]) (sc := defScope s_law) (by decide +kernel)) (fun _ _ _ _ _ => (pg_name (i := 11) sc_law.nd rfl (Or.inl rfl))) (fun _ _ _ _ _ => pts_nil) (fun _ _ _ _ _ => (pe_tupF (pa_cons pe_str (pa_cons (pe_op (op_addK K) (pv 11) pe_int) pa_nil))))) pa_nil)) pa_nil))) pa_nil)) pe_bl (nomark _)))))))))),
    (ls_seq (ls_if (lt_not (lt_tru (le_call la_nil))) (ls_seq (ls_ret le_bl) ls_next) ls_next)
      (ls_seq (ls_for (li_rng1 (le_CB maxK (la_cons le_int (la_cons (le_CB minK (la_cons le_int (la_cons (le_CB lenK (la_cons le_var la_nil)) la_nil))) la_nil)))) (lg_name free_of) (ls_seq (ls_asg (le_call (la_cons le_var (la_cons le_var la_nil))) (lg_name free_of))
      (ls_seq (ls_asg (le_call (la_cons le_var (la_cons (le_lst (la_cons le_int (la_cons le_int (la_cons le_int (la_cons le_int la_nil))))) (la_cons le_int la_nil)))) (lg_name free_of))
      (ls_seq (ls_if (lt_or (lt_test (le_op (isBK true) (le_call (la_cons le_var la_nil)) le_bl)) (lt_test (le_op rneK (le_call (la_cons le_var la_nil)) (le_CB tupleK (la_cons (le_call (la_cons le_var la_nil)) la_nil))))) (ls_seq (ls_ret le_bl) ls_next) ls_next)
      (ls_seq (ls_asg (le_call (la_cons le_var (la_cons le_var la_nil))) (lg_name free_of))
      (ls_seq (ls_if (lt_test (le_op rneK (le_lc (li_list le_var) (lg_name free_of) (gw_name (by decide)) gm_name (lt_test (le_op (isBK true) (le_call (la_cons le_var la_nil)) le_bl)) le_var) (le_lst la_nil))) (ls_seq (ls_ret le_bl) ls_next) ls_next)
      (ls_seq (ls_asg (le_tup (la_cons (le_call (la_cons le_var (la_cons le_var la_nil))) (la_cons (le_call (la_cons le_var (la_cons (le_lst (la_cons le_non (la_cons le_int (la_cons le_str (la_cons le_str (la_cons le_str (la_cons (le_tup (la_cons le_str la_nil)) (la_cons (le_lst la_nil) (la_cons le_dnew (la_cons le_bl la_nil)))))))))) la_nil))) la_nil))) (lg_tup (lgs_cons (lg_name free_of) (lgs_cons (lg_name free_of) lgs_nil))))
      (ls_seq (ls_asg (le_lst (la_cons (le_lam (fun E => (le_call (la_cons le_var la_nil)))) la_nil)) (lg_name free_of))
      (ls_seq (ls_drop (le_bm appendK le_var (la_cons (le_lam (fun E => (le_call (la_cons le_var la_nil)))) la_nil)))
      (ls_seq (ls_drop (le_bm appendK le_var (la_cons (le_lam (fun E => (le_call (la_cons le_var la_nil)))) la_nil)))
      (ls_seq (ls_drop (le_bm appendK le_var (la_cons (le_lam (fun E => (le_call (la_cons le_str (la_cons le_var la_nil))))) la_nil)))
      (ls_seq (ls_drop (le_bm appendK le_var (la_cons (le_lam (fun E => (le_call (la_cons le_var (la_cons le_str la_nil))))) la_nil)))
      (ls_seq (ls_if (lt_or (lt_test (le_op rneK le_var (le_op rmulK (le_lst (la_cons le_bl la_nil)) le_int))) (lt_test (le_op (isBK true) (le_call (la_cons le_var la_nil)) le_bl))) (ls_seq (ls_ret le_bl) ls_next) ls_next) ls_next)))))))))))))
      (ls_seq (ls_asg (le_tup (la_cons le_str (la_cons le_int la_nil))) (lg_name free_of))
      (ls_seq (ls_asg (le_tup (la_cons le_str (la_cons (le_tup (la_cons (le_tup (la_cons le_str (la_cons (le_op mulTK (le_tup (la_cons le_var la_nil)) le_int) la_nil))) (la_cons (le_tup (la_cons le_str (la_cons (le_op mulTK (le_tup (la_cons le_var la_nil)) le_int) la_nil))) (la_cons (le_tup (la_cons le_str (la_cons (le_op mulTK (le_tup (la_cons le_var la_nil)) le_int) la_nil))) la_nil)))) la_nil))) (lg_name free_of))
      (ls_seq (ls_ret (le_andV (le_op (isBK false) (le_call (la_cons le_var la_nil)) le_bl) (le_op (isBK false) (le_call (la_cons (le_tup (la_cons le_str (la_cons (le_CB tupleK (la_cons (le_lc (li_rng1 le_int) (lg_name free_of) (gw_name (by decide)) gm_name lt_yes (le_tup (la_cons le_str (la_cons (le_op raddK le_var le_int) la_nil)))) la_nil)) la_nil))) la_nil)) le_bl))) ls_next)))))⟩
end
end K30
namespace K30
open PySem L2 G
/-! ### dice -/
def Dc (d : Nat) (M : AH) : Prop := ∃ x y z : Int, M[d]? = some (.lst [.int x, .int y, .int z])
def Mv (d : Nat) (M M' : AH) : Prop := ∃ x y z : Int, M' = M.set d (.lst [.int x, .int y, .int z])
theorem Dc.lt {d : Nat} {M : AH} (h : Dc d M) : d < M.length := by
  obtain ⟨x, y, z, h⟩ := h
  exact (List.getElem?_eq_some_iff.mp h).1
theorem Mv.len {d : Nat} {M M' : AH} (m : Mv d M M') : M'.length = M.length := by
  obtain ⟨x, y, z, rfl⟩ := m
  simp
theorem Mv.dc {d : Nat} {M M' : AH} (m : Mv d M M') (h : d < M.length) : Dc d M' := by
  obtain ⟨x, y, z, rfl⟩ := m
  exact ⟨x, y, z, List.getElem?_set_self h⟩
theorem Mv.tr {d : Nat} {M M1 M2 : AH} (m : Mv d M M1) (m' : Mv d M1 M2) : Mv d M M2 := by
  obtain ⟨x, y, z, rfl⟩ := m
  obtain ⟨x', y', z', rfl⟩ := m'
  exact ⟨x', y', z', by rw [List.set_set]⟩
theorem Dc.mv {d : Nat} {M : AH} (h : Dc d M) : Mv d M M := by
  obtain ⟨x, y, z, h⟩ := h
  refine ⟨x, y, z, List.ext_getElem? fun j => ?_⟩
  by_cases hj : d = j
  · subst hj
    rw [List.getElem?_set_self (List.getElem?_eq_some_iff.mp h).1, h]
  · rw [List.getElem?_set_ne hj]
theorem Mv.old {d i : Nat} {M M' : AH} (m : Mv d M M') (h : i ≠ d) : M'[i]? = M[i]? := by
  obtain ⟨x, y, z, rfl⟩ := m
  rw [List.getElem?_set_ne (Ne.symm h)]
theorem Mv.app {d : Nat} {M X M' : AH} (m : Mv d (M ++ X) M') (h : d < M.length) : ∃ M1, Mv d M M1 ∧ M' = M1 ++ X := by
  obtain ⟨x, y, z, rfl⟩ := m
  exact ⟨_, ⟨x, y, z, rfl⟩, by rw [List.set_append_left _ _ h]⟩
theorem Dc.app {d : Nat} {M : AH} (X : AH) (h : Dc d M) : Dc d (M ++ X) := by
  have hl := h.lt
  obtain ⟨x, y, z, h⟩ := h
  exact ⟨x, y, z, by rw [List.getElem?_append_left hl, h]⟩
theorem okOld_more {M N : AH} (X : AH) (hl : N.length = M.length) (h : okOld M N = true) : okOld M (N ++ X) = true := by
  unfold okOld at *
  rw [List.all_eq_true] at *
  intro i hi
  have h1 := h i hi
  have hi' := List.mem_range.mp hi
  rw [List.getElem?_append_left (by omega)]
  exact h1
theorem Mv.okOld {d : Nat} {M M' : AH} (X : AH) (m : Mv d M M') (h : d < M.length) : G.okOld M (M' ++ X) = true := by
  refine okOld_more X m.len ?_
  obtain ⟨x, y, z, rfl⟩ := m
  exact okOld_set h (by simp [AO.clo])
theorem fin_mv {d : Nat} {M M' : AH} {v : D} (X : AH) (m : Mv d M M') (h : d < M.length) (hv : D.clo M.length v = true) : fin M (.ok v (M' ++ X)) = .ok v M' := by
  have e : (M' ++ X).take M.length = M' := by rw [← m.len, List.take_left]
  simp only [fin, m.okOld X h, if_true, frz_clo hv, e]
theorem fin_mv0 {d : Nat} {M M' : AH} {v : D} (m : Mv d M M') (h : d < M.length) (hv : D.clo M.length v = true) : fin M (.ok v M') = .ok v M' := by
  have := fin_mv [] m h hv
  rwa [List.append_nil] at this
theorem fin_mvL {d : Nat} {M M' : AH} {xs : List D} (m : Mv d M M') (h : d < M.length) (hv : D.cloL M.length xs = true) : fin M (.ok (.ref M'.length) (M' ++ [.lst xs])) = .ok (.lst xs) M' := by
  have e : (M' ++ [AO.lst xs]).take M.length = M' := by rw [← m.len, List.take_left]
  have : frz (M' ++ [.lst xs]) M.length frzN (.ref M'.length) = some (.lst xs) := by
    unfold frzN frz
    rw [if_neg (by simp [D.clo, m.len])]
    simp [frzL_clo hv]
  simp only [fin, m.okOld _ h, if_true, this, e]
/-- a comprehension whose test or thing changes what stands -/
theorem lc_ex {α β : Type} {chk : AH → Bool} {g : FG} {t : FT} {e : FE} {δ : AS} (f : α → D) (o : β → D) (I : AH → Prop) (Y : α → β → Prop) (hc : ∀ M, I M → chk M = true)
    (hs : ∀ a M, I M → ∃ δ1 M1, g (f a) δ M = .nx δ1 M1 ∧ ((∃ M2, t δ1 M1 = .ok false M2 ∧ I M2) ∨ ∃ M2 b M3, t δ1 M1 = .ok true M2 ∧ e δ1 M2 = .ok (o b) M3 ∧ Y a b ∧ I M3)) :
    ∀ (xs : List α) (acc : List D) (M : AH), acc.length + xs.length ≤ sizeLine → I M → ∃ (ps : List (α × β)) (M' : AH), (ps.map (·.1)).Sublist xs ∧ (∀ p ∈ ps, Y p.1 p.2) ∧ I M' ∧ fLcL chk g t e δ (xs.map f) acc M = .ok (acc ++ ps.map fun p => o p.2) M'
  | [], acc, M, _, h => ⟨[], M, .slnil, (fun p hp => nomatch hp), h, by simp [fLcL, hc M h]⟩
  | a :: r, acc, M, hl, h => by
    obtain ⟨δ1, M1, h1, h2⟩ := hs a M h
    have hl' : acc.length < sizeLine := by simp only [List.length_cons] at hl; omega
    rcases h2 with ⟨M2, h2, h3⟩ | ⟨M2, b, M3, h2, h3, h4, h5⟩
    · obtain ⟨ps, M', q1, q2, q3, q4⟩ := lc_ex f o I Y hc hs r acc M2 (by simp only [List.length_cons] at hl; omega) h3
      refine ⟨ps, M', q1.cons _, q2, q3, ?_⟩
      simp only [List.map_cons, fLcL, hc M h, if_true, h1, h2]
      exact q4
    · obtain ⟨ps, M', q1, q2, q3, q4⟩ := lc_ex f o I Y hc hs r (acc ++ [o b]) M3 (by simp only [List.length_cons, List.length_append, List.length_nil] at hl ⊢; omega) h5
      refine ⟨(a, b) :: ps, M', q1.cons₂ _, fun p hp => ?_, q3, ?_⟩
      · rcases List.mem_cons.mp hp with rfl | hp
        · exact h4
        · exact q2 p hp
      · simp only [List.map_cons, fLcL, hc M h, if_true, h1, h2, h3, hl']
        rw [q4]
        simp
theorem lc_exm {α β : Type} {chk : AH → Bool} {g : FG} {t : FT} {e : FE} {δ : AS} (f : α → D) (o : β → D) (I : AH → Prop) (Y : α → β → Prop) (hc : ∀ M, I M → chk M = true)
    (hs : ∀ a M, I M → ∃ δ1 M1, g (f a) δ M = .nx δ1 M1 ∧ ∃ M2 b M3, t δ1 M1 = .ok true M2 ∧ e δ1 M2 = .ok (o b) M3 ∧ Y a b ∧ I M3) :
    ∀ (xs : List α) (acc : List D) (M : AH), acc.length + xs.length ≤ sizeLine → I M → ∃ (ps : List (α × β)) (M' : AH), ps.map (·.1) = xs ∧ (∀ p ∈ ps, Y p.1 p.2) ∧ I M' ∧ fLcL chk g t e δ (xs.map f) acc M = .ok (acc ++ ps.map fun p => o p.2) M'
  | [], acc, M, _, h => ⟨[], M, rfl, (fun p hp => nomatch hp), h, by simp [fLcL, hc M h]⟩
  | a :: r, acc, M, hl, h => by
    obtain ⟨δ1, M1, h1, M2, b, M3, h2, h3, h4, h5⟩ := hs a M h
    have hl' : acc.length < sizeLine := by simp only [List.length_cons] at hl; omega
    obtain ⟨ps, M', q1, q2, q3, q4⟩ := lc_exm f o I Y hc hs r (acc ++ [o b]) M3 (by simp only [List.length_cons, List.length_append, List.length_nil] at hl ⊢; omega) h5
    refine ⟨(a, b) :: ps, M', by simp [q1], fun p hp => ?_, q3, ?_⟩
    · rcases List.mem_cons.mp hp with rfl | hp
      · exact h4
      · exact q2 p hp
    · simp only [List.map_cons, fLcL, hc M h, if_true, h1, h2, h3, hl']
      rw [q4]
      simp
theorem cm_l {i j : Int} (h : -(2 ^ 64) < i ∧ i < 2 ^ 64) : CMul i j ∨ CMulW i j := .inl (.inl h)
theorem cm_r {i j : Int} (h : -(2 ^ 64) < j ∧ j < 2 ^ 64) : CMul i j ∨ CMulW i j := .inl (.inr h)
theorem e_roll {d : Nat} {M : AH} {n : Int} (h : Dc d M) (hn : 0 < n) (hn2 : n.natAbs.log2 < 9000) : ∃ r M', 0 ≤ r ∧ r < n ∧ Mv d M M' ∧ F__law_roll [.ref d, .int n] M = .ok (.int r) M' := by
  have hlt := h.lt
  obtain ⟨x, y, z, hM⟩ := h
  have hcd : ∀ j, CDivW j n := fun j => ⟨hn, hn2⟩
  by_cases hx : 0 < x
  · have m : Mv d M (M.set d (.lst [.int (x / n), .int y, .int z])) := ⟨_, _, _, rfl⟩
    have hf := fin_mv0 (v := .int (x % n)) m hlt (by simp)
    refine ⟨x % n, _, Int.emod_nonneg _ (by omega), Int.emod_lt_of_pos _ hn, m, ?_⟩
    simp [F__law_roll, fnF, fnK, fSeq, fRet, fRetN, fAsg, fgName, fDrop, fNext, fNever, fIfS, fPar, fFor, fAndV, fOrV, fNotV, fNotW, fAnd, fOr, fNot, fTest, fTru, fIf, fChain, fOp, fUn, fCB, fCons, fNil, fTup, fLst, fCall, fVar, fC, fSl, fPart, fNoPart, fBM, fM0, fM1, mAsk, fFld, fMeth, fPropN, fCMeth, fDNew, fDGet2, fDGet, fDPut, fLc, fYes, fiList, fiTup, bind_ok, thenS_ok, asB_bl, j_ii, j_ib, j_ss, j_tt, gLt, gLe, gGt, gGe, gCmp, gAdd, gSubI, gMul, gMod, gDiv, gEq, gNe, gEqB, refD, scalEq, gLen, gAbs, gMax, gMin, gTuple, gIxS, tupOf, outS, fin_same, thenG, loopS, truD_bl, truD_tup, fgTup, fgCons, fgNil, gIxS, tupOf, G.listOf, hM, hx, gInt, hn, hcd, fgSub, ixN, atI, hf]
  · have b1 := Int.emod_lt_of_pos (y + 67867967 * (z + 1)) (show (0 : Int) < 2305843009213693561 by decide)
    have b2 := Int.emod_nonneg (y + 67867967 * (z + 1)) (show (2305843009213693561 : Int) ≠ 0 by decide)
    have c1 : CMul 67867967 (z + 1) ∨ CMulW 67867967 (z + 1) := cm_l (by decide)
    have c2 : CMul 101 (z + 1) ∨ CMulW 101 (z + 1) := cm_l (by decide)
    have c3 : ∀ i, CMul i 7368847 ∨ CMulW i 7368847 := fun i => cm_r (by decide)
    have c4 : CMul ((y + 67867967 * (z + 1)) % 2305843009213693561) ((y + 67867967 * (z + 1)) % 2305843009213693561) ∨ CMulW ((y + 67867967 * (z + 1)) % 2305843009213693561) ((y + 67867967 * (z + 1)) % 2305843009213693561) := cm_l (by omega)
    have c5 : ∀ i, CDivW i 65536 := fun i => ⟨by decide, by decide⟩
    have m : Mv d M (M.set d (.lst [.int x, .int y, .int (z + 1)])) := ⟨_, _, _, rfl⟩
    generalize hw : (y + 67867967 * (z + 1)) % 2305843009213693561 = w at c4
    have hf := fun r : Int => fin_mv0 (v := .int r) m hlt (by simp)
    refine ⟨(((w * w + 101 * (z + 1)) % 2305843009213693907 * 7368847 + w) / 65536) % n, _, Int.emod_nonneg _ (by omega), Int.emod_lt_of_pos _ hn, m, ?_⟩
    simp [F__law_roll, fnF, fnK, fSeq, fRet, fRetN, fAsg, fgName, fDrop, fNext, fNever, fIfS, fPar, fFor, fAndV, fOrV, fNotV, fNotW, fAnd, fOr, fNot, fTest, fTru, fIf, fChain, fOp, fUn, fCB, fCons, fNil, fTup, fLst, fCall, fVar, fC, fSl, fPart, fNoPart, fBM, fM0, fM1, mAsk, fFld, fMeth, fPropN, fCMeth, fDNew, fDGet2, fDGet, fDPut, fLc, fYes, fiList, fiTup, bind_ok, thenS_ok, asB_bl, j_ii, j_ib, j_ss, j_tt, gLt, gLe, gGt, gGe, gCmp, gAdd, gSubI, gMul, gMod, gDiv, gEq, gNe, gEqB, refD, scalEq, gLen, gAbs, gMax, gMin, gTuple, gIxS, tupOf, outS, fin_same, thenG, loopS, truD_bl, truD_tup, fgTup, fgCons, fgNil, gIxS, tupOf, G.listOf, hM, hx, gInt, hn, hcd, fgSub, ixN, atI, List.getElem?_set_self hlt, c1, c2, c3, hw, c4, c5, hf]
end K30
namespace K30
open PySem L2 G
/-! ### nodes -/
def isOp (w : Str) : Bool := decide (Str.ofString "and" = w) || decide (Str.ofString "or" = w)
def isAt (w : Str) : Bool := decide (Str.ofString "begun" = w) || (decide (Str.ofString "over" = w) || (decide (Str.ofString "well" = w) || (decide (Str.ofString "ill" = w) || (decide (Str.ofString "late" = w) || decide (Str.ofString "left" = w)))))
def nodeL : List D → Option Bool
  | [.str w, b] => if isOp w then (match b with
      | .tup ps => some (decide (2 ≤ ps.length) && decide (ps.length ≤ 20))
      | .tuq ps => some (decide (2 ≤ ps.length) && decide (ps.length ≤ 20))
      | .lst _ => some false
      | _ => none)
    else if isAt w then (match b with
      | .int n => some (decide (1 ≤ n) && decide (n ≤ 1000000))
      | .bl _ => some false
      | .str _ => some false
      | _ => none)
    else some false
  | [_, _] => none
  | _ => some false
def nodeV : D → Option Bool
  | .tup xs => nodeL xs
  | .tuq xs => nodeL xs
  | .str _ => some false
  | .non => some false
  | .lst _ => some false
  | .dct _ _ => some false
  | .int _ => some false
  | .bl _ => some false
  | _ => none
theorem jt_tup {xs M} : gIsi [.tup xs, .ty "tuple"] M = .ok (.bl true) M := rfl
theorem jt_tuq {xs M} : gIsi [.tuq xs, .ty "tuple"] M = .ok (.bl true) M := rfl
theorem jt_str {x M} : gIsi [.str x, .ty "tuple"] M = .ok (.bl false) M := rfl
theorem jt_non {M} : gIsi [.non, .ty "tuple"] M = .ok (.bl false) M := rfl
theorem jt_lst {x M} : gIsi [.lst x, .ty "tuple"] M = .ok (.bl false) M := rfl
theorem jt_dct {x y M} : gIsi [.dct x y, .ty "tuple"] M = .ok (.bl false) M := rfl
theorem jt_int {x M} : gIsi [.int x, .ty "tuple"] M = .ok (.bl false) M := rfl
theorem jt_bl {x M} : gIsi [.bl x, .ty "tuple"] M = .ok (.bl false) M := rfl
theorem ji_bl {x M} : gIsi [.bl x, .ty "int"] M = .ok (.bl true) M := rfl
theorem jb_bl {x M} : gIsi [.bl x, .ty "bool"] M = .ok (.bl true) M := rfl
theorem ji_str {x M} : gIsi [.str x, .ty "int"] M = .ok (.bl false) M := rfl
theorem in_op {w : Str} {b : Bool} {M} : gIn b (.str w) (.tup [.str (Str.ofString "and"), .str (Str.ofString "or")]) M = .ok (.bl (b != isOp w)) M := by simp [gIn, tupOf, flatD, eqF, isOp]
theorem in_at {w : Str} {M} : gIn false (.str w) (.tuq [.str (Str.ofString "begun"), .str (Str.ofString "over"), .str (Str.ofString "well"), .str (Str.ofString "ill"), .str (Str.ofString "late"), .str (Str.ofString "left")]) M = .ok (.bl (isAt w)) M := by simp [gIn, tupOf, flatD, eqF, isAt]
theorem e_job (n : Int) (M : AH) : F_is_job_number [.int n] M = .ok (.bl (decide (1 ≤ n) && decide (n ≤ 1000000))) M := by
  by_cases h : 1 ≤ n <;> simp [F_is_job_number, F_is_between, fnF, fnK, fSeq, fRet, fRetN, fAsg, fgName, fDrop, fNext, fNever, fIfS, fPar, fFor, fAndV, fOrV, fNotV, fNotW, fAnd, fOr, fNot, fTest, fTru, fIf, fChain, fOp, fUn, fCB, fCons, fNil, fTup, fLst, fCall, fVar, fC, fSl, fPart, fNoPart, fBM, fM0, fM1, mAsk, fFld, fMeth, fPropN, fCMeth, fDNew, fDGet2, fDGet, fDPut, fLc, fYes, fiList, fiTup, bind_ok, thenS_ok, asB_bl, j_ii, j_ib, j_ss, j_tt, gLt, gLe, gGt, gGe, gCmp, gAdd, gSubI, gMul, gMod, gDiv, gEq, gNe, gEqB, refD, scalEq, gLen, gAbs, gMax, gMin, gTuple, gIxS, tupOf, outS, fin_same, thenG, loopS, truD_bl, truD_tup, fgTup, fgCons, fgNil, h]
theorem e_jobB (n : Bool) (M : AH) : F_is_job_number [.bl n] M = .ok (.bl false) M := by
  simp [F_is_job_number, F_is_between, fnF, fnK, fSeq, fRet, fRetN, fAsg, fgName, fDrop, fNext, fNever, fIfS, fPar, fFor, fAndV, fOrV, fNotV, fNotW, fAnd, fOr, fNot, fTest, fTru, fIf, fChain, fOp, fUn, fCB, fCons, fNil, fTup, fLst, fCall, fVar, fC, fSl, fPart, fNoPart, fBM, fM0, fM1, mAsk, fFld, fMeth, fPropN, fCMeth, fDNew, fDGet2, fDGet, fDPut, fLc, fYes, fiList, fiTup, bind_ok, thenS_ok, asB_bl, j_ii, j_ib, j_ss, j_tt, gLt, gLe, gGt, gGe, gCmp, gAdd, gSubI, gMul, gMod, gDiv, gEq, gNe, gEqB, refD, scalEq, gLen, gAbs, gMax, gMin, gTuple, gIxS, tupOf, outS, fin_same, thenG, loopS, truD_bl, truD_tup, fgTup, fgCons, fgNil, ji_bl, jb_bl]
theorem e_jobS (n : Str) (M : AH) : F_is_job_number [.str n] M = .ok (.bl false) M := by
  simp [F_is_job_number, F_is_between, fnF, fnK, fSeq, fRet, fRetN, fAsg, fgName, fDrop, fNext, fNever, fIfS, fPar, fFor, fAndV, fOrV, fNotV, fNotW, fAnd, fOr, fNot, fTest, fTru, fIf, fChain, fOp, fUn, fCB, fCons, fNil, fTup, fLst, fCall, fVar, fC, fSl, fPart, fNoPart, fBM, fM0, fM1, mAsk, fFld, fMeth, fPropN, fCMeth, fDNew, fDGet2, fDGet, fDPut, fLc, fYes, fiList, fiTup, bind_ok, thenS_ok, asB_bl, j_ii, j_ib, j_ss, j_tt, gLt, gLe, gGt, gGe, gCmp, gAdd, gSubI, gMul, gMod, gDiv, gEq, gNe, gEqB, refD, scalEq, gLen, gAbs, gMax, gMin, gTuple, gIxS, tupOf, outS, fin_same, thenG, loopS, truD_bl, truD_tup, fgTup, fgCons, fgNil, ji_str]
theorem fin_bl {b : Bool} {M} : fin M (.ok (.bl b) M) = .ok (.bl b) M := fin_same (by simp)
theorem e_node (v : D) (b : Bool) (M : AH) (h : nodeV v = some b) : F__is_node [v] M = .ok (.bl b) M := by
  have z2 : 2 ≤ sizeLine := size600 (by decide)
  have key : ∀ xs, nodeL xs = some b → F__is_node [.tup xs] M = .ok (.bl b) M ∧ F__is_node [.tuq xs] M = .ok (.bl b) M := by
    intro xs h
    match xs, h with
    | [], h => simp only [nodeL] at h; cases h; constructor <;> simp [F__is_node, fnF, fnK, fSeq, fRet, fRetN, fAsg, fgName, fDrop, fNext, fNever, fIfS, fPar, fFor, fAndV, fOrV, fNotV, fNotW, fAnd, fOr, fNot, fTest, fTru, fIf, fChain, fOp, fUn, fCB, fCons, fNil, fTup, fLst, fCall, fVar, fC, fSl, fPart, fNoPart, fBM, fM0, fM1, mAsk, fFld, fMeth, fPropN, fCMeth, fDNew, fDGet2, fDGet, fDPut, fLc, fYes, fiList, fiTup, bind_ok, thenS_ok, asB_bl, j_ii, j_ib, j_ss, j_tt, gLt, gLe, gGt, gGe, gCmp, gAdd, gSubI, gMul, gMod, gDiv, gEq, gNe, gEqB, refD, scalEq, gLen, gAbs, gMax, gMin, gTuple, gIxS, tupOf, outS, fin_same, thenG, loopS, truD_bl, truD_tup, fgTup, fgCons, fgNil, jt_tup, jt_tuq]
    | [_], h => simp only [nodeL] at h; cases h; constructor <;> simp [F__is_node, fnF, fnK, fSeq, fRet, fRetN, fAsg, fgName, fDrop, fNext, fNever, fIfS, fPar, fFor, fAndV, fOrV, fNotV, fNotW, fAnd, fOr, fNot, fTest, fTru, fIf, fChain, fOp, fUn, fCB, fCons, fNil, fTup, fLst, fCall, fVar, fC, fSl, fPart, fNoPart, fBM, fM0, fM1, mAsk, fFld, fMeth, fPropN, fCMeth, fDNew, fDGet2, fDGet, fDPut, fLc, fYes, fiList, fiTup, bind_ok, thenS_ok, asB_bl, j_ii, j_ib, j_ss, j_tt, gLt, gLe, gGt, gGe, gCmp, gAdd, gSubI, gMul, gMod, gDiv, gEq, gNe, gEqB, refD, scalEq, gLen, gAbs, gMax, gMin, gTuple, gIxS, tupOf, outS, fin_same, thenG, loopS, truD_bl, truD_tup, fgTup, fgCons, fgNil, jt_tup, jt_tuq]
    | _ :: _ :: _ :: r, h =>
      simp only [nodeL] at h; cases h
      have : ¬ ((r.length : Int) + 1 + 1 + 1 = 2) := by omega
      constructor <;> simp [F__is_node, fnF, fnK, fSeq, fRet, fRetN, fAsg, fgName, fDrop, fNext, fNever, fIfS, fPar, fFor, fAndV, fOrV, fNotV, fNotW, fAnd, fOr, fNot, fTest, fTru, fIf, fChain, fOp, fUn, fCB, fCons, fNil, fTup, fLst, fCall, fVar, fC, fSl, fPart, fNoPart, fBM, fM0, fM1, mAsk, fFld, fMeth, fPropN, fCMeth, fDNew, fDGet2, fDGet, fDPut, fLc, fYes, fiList, fiTup, bind_ok, thenS_ok, asB_bl, j_ii, j_ib, j_ss, j_tt, gLt, gLe, gGt, gGe, gCmp, gAdd, gSubI, gMul, gMod, gDiv, gEq, gNe, gEqB, refD, scalEq, gLen, gAbs, gMax, gMin, gTuple, gIxS, tupOf, outS, fin_same, thenG, loopS, truD_bl, truD_tup, fgTup, fgCons, fgNil, jt_tup, jt_tuq, this]
    | [x, y], h =>
      cases x with
      | str w =>
        simp only [nodeL] at h
        by_cases ho : isOp w = true
        · rw [if_pos ho] at h
          cases y <;> simp only at h <;> cases h
          · rename_i ps _
            have i1 : ((2 : Int) ≤ ps.length) = (2 ≤ ps.length) := propext ⟨by omega, by omega⟩
            have i2 : ((ps.length : Int) ≤ 20) = (ps.length ≤ 20) := propext ⟨by omega, by omega⟩
            by_cases h1 : 2 ≤ ps.length <;> constructor <;> simp [F__is_node, fnF, fnK, fSeq, fRet, fRetN, fAsg, fgName, fDrop, fNext, fNever, fIfS, fPar, fFor, fAndV, fOrV, fNotV, fNotW, fAnd, fOr, fNot, fTest, fTru, fIf, fChain, fOp, fUn, fCB, fCons, fNil, fTup, fLst, fCall, fVar, fC, fSl, fPart, fNoPart, fBM, fM0, fM1, mAsk, fFld, fMeth, fPropN, fCMeth, fDNew, fDGet2, fDGet, fDPut, fLc, fYes, fiList, fiTup, bind_ok, thenS_ok, asB_bl, j_ii, j_ib, j_ss, j_tt, gLt, gLe, gGt, gGe, gCmp, gAdd, gSubI, gMul, gMod, gDiv, gEq, gNe, gEqB, refD, scalEq, gLen, gAbs, gMax, gMin, gTuple, gIxS, tupOf, outS, fin_same, thenG, loopS, truD_bl, truD_tup, fgTup, fgCons, fgNil, jt_tup, jt_tuq, in_op, in_at, ho, atI, ixN, z2, i1, i2, h1]
          · rename_i ps _
            have i1 : ((2 : Int) ≤ ps.length) = (2 ≤ ps.length) := propext ⟨by omega, by omega⟩
            have i2 : ((ps.length : Int) ≤ 20) = (ps.length ≤ 20) := propext ⟨by omega, by omega⟩
            by_cases h1 : 2 ≤ ps.length <;> constructor <;> simp [F__is_node, fnF, fnK, fSeq, fRet, fRetN, fAsg, fgName, fDrop, fNext, fNever, fIfS, fPar, fFor, fAndV, fOrV, fNotV, fNotW, fAnd, fOr, fNot, fTest, fTru, fIf, fChain, fOp, fUn, fCB, fCons, fNil, fTup, fLst, fCall, fVar, fC, fSl, fPart, fNoPart, fBM, fM0, fM1, mAsk, fFld, fMeth, fPropN, fCMeth, fDNew, fDGet2, fDGet, fDPut, fLc, fYes, fiList, fiTup, bind_ok, thenS_ok, asB_bl, j_ii, j_ib, j_ss, j_tt, gLt, gLe, gGt, gGe, gCmp, gAdd, gSubI, gMul, gMod, gDiv, gEq, gNe, gEqB, refD, scalEq, gLen, gAbs, gMax, gMin, gTuple, gIxS, tupOf, outS, fin_same, thenG, loopS, truD_bl, truD_tup, fgTup, fgCons, fgNil, jt_tup, jt_tuq, in_op, in_at, ho, atI, ixN, z2, i1, i2, h1]
          · constructor <;> simp [F__is_node, fnF, fnK, fSeq, fRet, fRetN, fAsg, fgName, fDrop, fNext, fNever, fIfS, fPar, fFor, fAndV, fOrV, fNotV, fNotW, fAnd, fOr, fNot, fTest, fTru, fIf, fChain, fOp, fUn, fCB, fCons, fNil, fTup, fLst, fCall, fVar, fC, fSl, fPart, fNoPart, fBM, fM0, fM1, mAsk, fFld, fMeth, fPropN, fCMeth, fDNew, fDGet2, fDGet, fDPut, fLc, fYes, fiList, fiTup, bind_ok, thenS_ok, asB_bl, j_ii, j_ib, j_ss, j_tt, gLt, gLe, gGt, gGe, gCmp, gAdd, gSubI, gMul, gMod, gDiv, gEq, gNe, gEqB, refD, scalEq, gLen, gAbs, gMax, gMin, gTuple, gIxS, tupOf, outS, fin_same, thenG, loopS, truD_bl, truD_tup, fgTup, fgCons, fgNil, jt_tup, jt_tuq, jt_lst, in_op, in_at, ho, atI, ixN, z2]
        · rw [if_neg ho] at h
          by_cases ha : isAt w = true
          · rw [if_pos ha] at h
            cases y <;> simp only at h <;> cases h
            · constructor <;> simp [F__is_node, fnF, fnK, fSeq, fRet, fRetN, fAsg, fgName, fDrop, fNext, fNever, fIfS, fPar, fFor, fAndV, fOrV, fNotV, fNotW, fAnd, fOr, fNot, fTest, fTru, fIf, fChain, fOp, fUn, fCB, fCons, fNil, fTup, fLst, fCall, fVar, fC, fSl, fPart, fNoPart, fBM, fM0, fM1, mAsk, fFld, fMeth, fPropN, fCMeth, fDNew, fDGet2, fDGet, fDPut, fLc, fYes, fiList, fiTup, bind_ok, thenS_ok, asB_bl, j_ii, j_ib, j_ss, j_tt, gLt, gLe, gGt, gGe, gCmp, gAdd, gSubI, gMul, gMod, gDiv, gEq, gNe, gEqB, refD, scalEq, gLen, gAbs, gMax, gMin, gTuple, gIxS, tupOf, outS, fin_same, thenG, loopS, truD_bl, truD_tup, fgTup, fgCons, fgNil, jt_tup, jt_tuq, in_op, in_at, ho, ha, atI, ixN, z2, e_jobB]
            · constructor <;> simp [F__is_node, fnF, fnK, fSeq, fRet, fRetN, fAsg, fgName, fDrop, fNext, fNever, fIfS, fPar, fFor, fAndV, fOrV, fNotV, fNotW, fAnd, fOr, fNot, fTest, fTru, fIf, fChain, fOp, fUn, fCB, fCons, fNil, fTup, fLst, fCall, fVar, fC, fSl, fPart, fNoPart, fBM, fM0, fM1, mAsk, fFld, fMeth, fPropN, fCMeth, fDNew, fDGet2, fDGet, fDPut, fLc, fYes, fiList, fiTup, bind_ok, thenS_ok, asB_bl, j_ii, j_ib, j_ss, j_tt, gLt, gLe, gGt, gGe, gCmp, gAdd, gSubI, gMul, gMod, gDiv, gEq, gNe, gEqB, refD, scalEq, gLen, gAbs, gMax, gMin, gTuple, gIxS, tupOf, outS, fin_same, thenG, loopS, truD_bl, truD_tup, fgTup, fgCons, fgNil, jt_tup, jt_tuq, in_op, in_at, ho, ha, atI, ixN, z2, e_job]
            · constructor <;> simp [F__is_node, fnF, fnK, fSeq, fRet, fRetN, fAsg, fgName, fDrop, fNext, fNever, fIfS, fPar, fFor, fAndV, fOrV, fNotV, fNotW, fAnd, fOr, fNot, fTest, fTru, fIf, fChain, fOp, fUn, fCB, fCons, fNil, fTup, fLst, fCall, fVar, fC, fSl, fPart, fNoPart, fBM, fM0, fM1, mAsk, fFld, fMeth, fPropN, fCMeth, fDNew, fDGet2, fDGet, fDPut, fLc, fYes, fiList, fiTup, bind_ok, thenS_ok, asB_bl, j_ii, j_ib, j_ss, j_tt, gLt, gLe, gGt, gGe, gCmp, gAdd, gSubI, gMul, gMod, gDiv, gEq, gNe, gEqB, refD, scalEq, gLen, gAbs, gMax, gMin, gTuple, gIxS, tupOf, outS, fin_same, thenG, loopS, truD_bl, truD_tup, fgTup, fgCons, fgNil, jt_tup, jt_tuq, in_op, in_at, ho, ha, atI, ixN, z2, e_jobS]
          · rw [if_neg ha] at h
            cases h
            constructor <;> simp [F__is_node, fnF, fnK, fSeq, fRet, fRetN, fAsg, fgName, fDrop, fNext, fNever, fIfS, fPar, fFor, fAndV, fOrV, fNotV, fNotW, fAnd, fOr, fNot, fTest, fTru, fIf, fChain, fOp, fUn, fCB, fCons, fNil, fTup, fLst, fCall, fVar, fC, fSl, fPart, fNoPart, fBM, fM0, fM1, mAsk, fFld, fMeth, fPropN, fCMeth, fDNew, fDGet2, fDGet, fDPut, fLc, fYes, fiList, fiTup, bind_ok, thenS_ok, asB_bl, j_ii, j_ib, j_ss, j_tt, gLt, gLe, gGt, gGe, gCmp, gAdd, gSubI, gMul, gMod, gDiv, gEq, gNe, gEqB, refD, scalEq, gLen, gAbs, gMax, gMin, gTuple, gIxS, tupOf, outS, fin_same, thenG, loopS, truD_bl, truD_tup, fgTup, fgCons, fgNil, jt_tup, jt_tuq, in_op, in_at, ho, ha, atI, ixN, z2]
      | _ => simp only [nodeL] at h; cases h
  cases v <;> simp only [nodeV] at h <;> first | (cases h; done) | skip
  · cases h; simp [F__is_node, fnF, fnK, fSeq, fRet, fRetN, fAsg, fgName, fDrop, fNext, fNever, fIfS, fPar, fFor, fAndV, fOrV, fNotV, fNotW, fAnd, fOr, fNot, fTest, fTru, fIf, fChain, fOp, fUn, fCB, fCons, fNil, fTup, fLst, fCall, fVar, fC, fSl, fPart, fNoPart, fBM, fM0, fM1, mAsk, fFld, fMeth, fPropN, fCMeth, fDNew, fDGet2, fDGet, fDPut, fLc, fYes, fiList, fiTup, bind_ok, thenS_ok, asB_bl, j_ii, j_ib, j_ss, j_tt, gLt, gLe, gGt, gGe, gCmp, gAdd, gSubI, gMul, gMod, gDiv, gEq, gNe, gEqB, refD, scalEq, gLen, gAbs, gMax, gMin, gTuple, gIxS, tupOf, outS, fin_same, thenG, loopS, truD_bl, truD_tup, fgTup, fgCons, fgNil, jt_non]
  · cases h; simp [F__is_node, fnF, fnK, fSeq, fRet, fRetN, fAsg, fgName, fDrop, fNext, fNever, fIfS, fPar, fFor, fAndV, fOrV, fNotV, fNotW, fAnd, fOr, fNot, fTest, fTru, fIf, fChain, fOp, fUn, fCB, fCons, fNil, fTup, fLst, fCall, fVar, fC, fSl, fPart, fNoPart, fBM, fM0, fM1, mAsk, fFld, fMeth, fPropN, fCMeth, fDNew, fDGet2, fDGet, fDPut, fLc, fYes, fiList, fiTup, bind_ok, thenS_ok, asB_bl, j_ii, j_ib, j_ss, j_tt, gLt, gLe, gGt, gGe, gCmp, gAdd, gSubI, gMul, gMod, gDiv, gEq, gNe, gEqB, refD, scalEq, gLen, gAbs, gMax, gMin, gTuple, gIxS, tupOf, outS, fin_same, thenG, loopS, truD_bl, truD_tup, fgTup, fgCons, fgNil, jt_bl]
  · cases h; simp [F__is_node, fnF, fnK, fSeq, fRet, fRetN, fAsg, fgName, fDrop, fNext, fNever, fIfS, fPar, fFor, fAndV, fOrV, fNotV, fNotW, fAnd, fOr, fNot, fTest, fTru, fIf, fChain, fOp, fUn, fCB, fCons, fNil, fTup, fLst, fCall, fVar, fC, fSl, fPart, fNoPart, fBM, fM0, fM1, mAsk, fFld, fMeth, fPropN, fCMeth, fDNew, fDGet2, fDGet, fDPut, fLc, fYes, fiList, fiTup, bind_ok, thenS_ok, asB_bl, j_ii, j_ib, j_ss, j_tt, gLt, gLe, gGt, gGe, gCmp, gAdd, gSubI, gMul, gMod, gDiv, gEq, gNe, gEqB, refD, scalEq, gLen, gAbs, gMax, gMin, gTuple, gIxS, tupOf, outS, fin_same, thenG, loopS, truD_bl, truD_tup, fgTup, fgCons, fgNil, jt_int]
  · cases h; simp [F__is_node, fnF, fnK, fSeq, fRet, fRetN, fAsg, fgName, fDrop, fNext, fNever, fIfS, fPar, fFor, fAndV, fOrV, fNotV, fNotW, fAnd, fOr, fNot, fTest, fTru, fIf, fChain, fOp, fUn, fCB, fCons, fNil, fTup, fLst, fCall, fVar, fC, fSl, fPart, fNoPart, fBM, fM0, fM1, mAsk, fFld, fMeth, fPropN, fCMeth, fDNew, fDGet2, fDGet, fDPut, fLc, fYes, fiList, fiTup, bind_ok, thenS_ok, asB_bl, j_ii, j_ib, j_ss, j_tt, gLt, gLe, gGt, gGe, gCmp, gAdd, gSubI, gMul, gMod, gDiv, gEq, gNe, gEqB, refD, scalEq, gLen, gAbs, gMax, gMin, gTuple, gIxS, tupOf, outS, fin_same, thenG, loopS, truD_bl, truD_tup, fgTup, fgCons, fgNil, jt_str]
  · exact (key _ h).1
  · exact (key _ h).2
  · cases h; simp [F__is_node, fnF, fnK, fSeq, fRet, fRetN, fAsg, fgName, fDrop, fNext, fNever, fIfS, fPar, fFor, fAndV, fOrV, fNotV, fNotW, fAnd, fOr, fNot, fTest, fTru, fIf, fChain, fOp, fUn, fCB, fCons, fNil, fTup, fLst, fCall, fVar, fC, fSl, fPart, fNoPart, fBM, fM0, fM1, mAsk, fFld, fMeth, fPropN, fCMeth, fDNew, fDGet2, fDGet, fDPut, fLc, fYes, fiList, fiTup, bind_ok, thenS_ok, asB_bl, j_ii, j_ib, j_ss, j_tt, gLt, gLe, gGt, gGe, gCmp, gAdd, gSubI, gMul, gMod, gDiv, gEq, gNe, gEqB, refD, scalEq, gLen, gAbs, gMax, gMin, gTuple, gIxS, tupOf, outS, fin_same, thenG, loopS, truD_bl, truD_tup, fgTup, fgCons, fgNil, jt_lst]
  · cases h; simp [F__is_node, fnF, fnK, fSeq, fRet, fRetN, fAsg, fgName, fDrop, fNext, fNever, fIfS, fPar, fFor, fAndV, fOrV, fNotV, fNotW, fAnd, fOr, fNot, fTest, fTru, fIf, fChain, fOp, fUn, fCB, fCons, fNil, fTup, fLst, fCall, fVar, fC, fSl, fPart, fNoPart, fBM, fM0, fM1, mAsk, fFld, fMeth, fPropN, fCMeth, fDNew, fDGet2, fDGet, fDPut, fLc, fYes, fiList, fiTup, bind_ok, thenS_ok, asB_bl, j_ii, j_ib, j_ss, j_tt, gLt, gLe, gGt, gGe, gCmp, gAdd, gSubI, gMul, gMod, gDiv, gEq, gNe, gEqB, refD, scalEq, gLen, gAbs, gMax, gMin, gTuple, gIxS, tupOf, outS, fin_same, thenG, loopS, truD_bl, truD_tup, fgTup, fgCons, fgNil, jt_dct]
end K30
namespace K30
open PySem L2 G
/-! ### is_after_formula -/
def encS (st : List (D × Int)) : List D := st.reverse.map fun p => .tup [p.1, .int p.2]
def putT (ks : List Key) (xs : List D) (i : Int) : List Key × List D := putD ks xs (.inl i) (.bl true)
def chk : Nat → List (D × Int) → Int → List Key → List D → Option Bool
  | 0, _, _, _, _ => none
  | n + 1, [], _, ks, _ => some (decide (ks.length ≤ 6))
  | n + 1, (v, d) :: st, nd, ks, xs => if decide (60 < nd + 1) || decide (8 < d) then some false else match nodeV v with
    | none => none
    | some false => some false
    | some true => (match tupOf v with
      | some [.str w, b] => if isAt w then (match b with
          | .int i => if ks.length < 500 then chk n st (nd + 1) (putT ks xs i).1 (putT ks xs i).2 else none
          | _ => none)
        else (match tupOf b with
          | some ps => if st.length + ps.length ≤ 500 then chk n ((ps.map fun p => (p, d + 1)).reverse ++ st) (nd + 1) ks xs else none
          | none => none)
      | _ => none)
theorem g0 {M0 R : AH} {A : AO} : (M0 ++ A :: R)[M0.length]? = some A := by simp
theorem g1 {M0 R : AH} {A B : AO} : (M0 ++ A :: B :: R)[M0.length + 1]? = some B := by simp
theorem u0 {M0 R : AH} {A A' : AO} : (M0 ++ A :: R).set M0.length A' = M0 ++ A' :: R := by simp
theorem u1 {M0 R : AH} {A B B' : AO} : (M0 ++ A :: B :: R).set (M0.length + 1) B' = M0 ++ A :: B' :: R := by simp
theorem encS_cons {v : D} {d : Int} {st : List (D × Int)} : encS ((v, d) :: st) = encS st ++ [.tup [v, .int d]] := by simp [encS]
theorem encS_len {st : List (D × Int)} : (encS st).length = st.length := by simp [encS]
theorem pop_enc {M0 R : AH} {v : D} {d : Int} {st : List (D × Int)} : mPop (.ref M0.length) [] (M0 ++ .lst (encS ((v, d) :: st)) :: R) = .ok (.tup [v, .int d]) (M0 ++ .lst (encS st) :: R) := by
  simp [mPop, g0, u0, encS_cons]
theorem ty_lst {M0 R : AH} {xs : List D} : tyM "list" (.ref M0.length) (M0 ++ .lst xs :: R) = true := by simp [tyM, g0]
def dl (M0 : AH) (v : D) (nd : Int) (x4 x5 x6 : Option D) : AS := [some v, some (.ref M0.length), some (.int nd), some (.ref (M0.length + 1)), x4, x5, x6]
section
variable {M0 X : AH} {v0 v : D} {d nd : Int} {x4 x5 x6 : Option D} {st : List (D × Int)} {ks : List Key} {xs : List D}
theorem st_false (h : decide (60 < nd + 1) || decide (8 < d) || decide (nodeV v = some false) = true) :
    L_is_after_formula_1 (dl M0 v0 nd x4 x5 x6) (M0 ++ .lst (encS ((v, d) :: st)) :: .dct ks xs :: X) = .rt (.bl false) (M0 ++ .lst (encS st) :: .dct ks xs :: X) := by
  by_cases h1 : (60 : Int) < nd + 1
  · simp [L_is_after_formula_1, dl, fnF, fnK, fSeq, fRet, fRetN, fAsg, fgName, fDrop, fNext, fNever, fIfS, fPar, fFor, fAndV, fOrV, fNotV, fNotW, fAnd, fOr, fNot, fTest, fTru, fIf, fChain, fOp, fUn, fCB, fCons, fNil, fTup, fLst, fCall, fVar, fC, fSl, fPart, fNoPart, fBM, fM0, fM1, mAsk, fFld, fMeth, fPropN, fCMeth, fDNew, fDGet2, fDGet, fDPut, fLc, fYes, fiList, fiTup, bind_ok, thenS_ok, asB_bl, j_ii, j_ib, j_ss, j_tt, gLt, gLe, gGt, gGe, gCmp, gAdd, gSubI, gMul, gMod, gDiv, gEq, gNe, gEqB, refD, scalEq, gLen, gAbs, gMax, gMin, gTuple, gIxS, tupOf, outS, fin_same, thenG, loopS, truD_bl, truD_tup, fgTup, fgCons, fgNil, fBM0, ty_lst, pop_enc, h1]
  · by_cases h2 : (8 : Int) < d
    · simp [L_is_after_formula_1, dl, fnF, fnK, fSeq, fRet, fRetN, fAsg, fgName, fDrop, fNext, fNever, fIfS, fPar, fFor, fAndV, fOrV, fNotV, fNotW, fAnd, fOr, fNot, fTest, fTru, fIf, fChain, fOp, fUn, fCB, fCons, fNil, fTup, fLst, fCall, fVar, fC, fSl, fPart, fNoPart, fBM, fM0, fM1, mAsk, fFld, fMeth, fPropN, fCMeth, fDNew, fDGet2, fDGet, fDPut, fLc, fYes, fiList, fiTup, bind_ok, thenS_ok, asB_bl, j_ii, j_ib, j_ss, j_tt, gLt, gLe, gGt, gGe, gCmp, gAdd, gSubI, gMul, gMod, gDiv, gEq, gNe, gEqB, refD, scalEq, gLen, gAbs, gMax, gMin, gTuple, gIxS, tupOf, outS, fin_same, thenG, loopS, truD_bl, truD_tup, fgTup, fgCons, fgNil, fBM0, ty_lst, pop_enc, h1, h2]
    · have h3 : nodeV v = some false := by simpa [h1, h2] using h
      have e := fun M => e_node v false M h3
      simp [L_is_after_formula_1, dl, fnF, fnK, fSeq, fRet, fRetN, fAsg, fgName, fDrop, fNext, fNever, fIfS, fPar, fFor, fAndV, fOrV, fNotV, fNotW, fAnd, fOr, fNot, fTest, fTru, fIf, fChain, fOp, fUn, fCB, fCons, fNil, fTup, fLst, fCall, fVar, fC, fSl, fPart, fNoPart, fBM, fM0, fM1, mAsk, fFld, fMeth, fPropN, fCMeth, fDNew, fDGet2, fDGet, fDPut, fLc, fYes, fiList, fiTup, bind_ok, thenS_ok, asB_bl, j_ii, j_ib, j_ss, j_tt, gLt, gLe, gGt, gGe, gCmp, gAdd, gSubI, gMul, gMod, gDiv, gEq, gNe, gEqB, refD, scalEq, gLen, gAbs, gMax, gMin, gTuple, gIxS, tupOf, outS, fin_same, thenG, loopS, truD_bl, truD_tup, fgTup, fgCons, fgNil, fBM0, ty_lst, pop_enc, h1, h2, e]
theorem tup_cases {v : D} {xs : List D} (h : tupOf v = some xs) : v = .tup xs ∨ v = .tuq xs := by
  cases v <;> simp [tupOf] at h <;> simp [h]
theorem st_at {w : Str} {i : Int} (h1 : ¬ (60 : Int) < nd + 1) (h2 : ¬ (8 : Int) < d) (h3 : nodeV v = some true) (h4 : tupOf v = some [.str w, .int i]) (h5 : isAt w = true) (h6 : ks.length < 500) :
    L_is_after_formula_1 (dl M0 v0 nd x4 x5 x6) (M0 ++ .lst (encS ((v, d) :: st)) :: .dct ks xs :: X) = .nx (dl M0 v0 (nd + 1) (some v) (some (.int d)) x6) (M0 ++ .lst (encS st) :: .dct (putT ks xs i).1 (putT ks xs i).2 :: X) := by
  have e := fun M => e_node v true M h3
  have z : ks.length < sizeLine := size600 (by omega)
  simp only [putT]
  rcases tup_cases h4 with rfl | rfl
  · simp [L_is_after_formula_1, dl, fnF, fnK, fSeq, fRet, fRetN, fAsg, fgName, fDrop, fNext, fNever, fIfS, fPar, fFor, fAndV, fOrV, fNotV, fNotW, fAnd, fOr, fNot, fTest, fTru, fIf, fChain, fOp, fUn, fCB, fCons, fNil, fTup, fLst, fCall, fVar, fC, fSl, fPart, fNoPart, fBM, fM0, fM1, mAsk, fFld, fMeth, fPropN, fCMeth, fDNew, fDGet2, fDGet, fDPut, fLc, fYes, fiList, fiTup, bind_ok, thenS_ok, asB_bl, j_ii, j_ib, j_ss, j_tt, gLt, gLe, gGt, gGe, gCmp, gAdd, gSubI, gMul, gMod, gDiv, gEq, gNe, gEqB, refD, scalEq, gLen, gAbs, gMax, gMin, gTuple, gIxS, tupOf, outS, fin_same, thenG, loopS, truD_bl, truD_tup, fgTup, fgCons, fgNil, fBM0, ty_lst, pop_enc, h1, h2, e, in_at, h5, keyD, atI, ixN, z]
  · simp [L_is_after_formula_1, dl, fnF, fnK, fSeq, fRet, fRetN, fAsg, fgName, fDrop, fNext, fNever, fIfS, fPar, fFor, fAndV, fOrV, fNotV, fNotW, fAnd, fOr, fNot, fTest, fTru, fIf, fChain, fOp, fUn, fCB, fCons, fNil, fTup, fLst, fCall, fVar, fC, fSl, fPart, fNoPart, fBM, fM0, fM1, mAsk, fFld, fMeth, fPropN, fCMeth, fDNew, fDGet2, fDGet, fDPut, fLc, fYes, fiList, fiTup, bind_ok, thenS_ok, asB_bl, j_ii, j_ib, j_ss, j_tt, gLt, gLe, gGt, gGe, gCmp, gAdd, gSubI, gMul, gMod, gDiv, gEq, gNe, gEqB, refD, scalEq, gLen, gAbs, gMax, gMin, gTuple, gIxS, tupOf, outS, fin_same, thenG, loopS, truD_bl, truD_tup, fgTup, fgCons, fgNil, fBM0, ty_lst, pop_enc, h1, h2, e, in_at, h5, keyD, atI, ixN, z]
theorem lc_pair {chk : AH → Bool} (hc : ∀ M, chk M = true) {δ : AS} {M : AH} {ps : List D} {a0 a1 a2 a3 a4 a6 : Option D} (hl : ps.length ≤ 500) :
    fLcL chk (fgName 6) fYes (fTup (fCons (fVar 6) (fCons (fOp gAdd (fVar 5) (fC (.int 1))) fNil))) [a0, a1, a2, a3, a4, some (.int d), a6] ps [] M = .ok (ps.map fun p => .tup [p, .int (d + 1)]) M := by
  have z2 : 2 ≤ sizeLine := size600 (by decide)
  refine lc_map (fun p => .tup [p, .int (d + 1)]) (hc M) ps (size600 (by omega)) fun p hp => ⟨[a0, a1, a2, a3, a4, some (.int d), some p], ?_, rfl, ?_⟩
  · simp [fnF, fnK, fSeq, fRet, fRetN, fAsg, fgName, fDrop, fNext, fNever, fIfS, fPar, fFor, fAndV, fOrV, fNotV, fNotW, fAnd, fOr, fNot, fTest, fTru, fIf, fChain, fOp, fUn, fCB, fCons, fNil, fTup, fLst, fCall, fVar, fC, fSl, fPart, fNoPart, fBM, fM0, fM1, mAsk, fFld, fMeth, fPropN, fCMeth, fDNew, fDGet2, fDGet, fDPut, fLc, fYes, fiList, fiTup, bind_ok, thenS_ok, asB_bl, j_ii, j_ib, j_ss, j_tt, gLt, gLe, gGt, gGe, gCmp, gAdd, gSubI, gMul, gMod, gDiv, gEq, gNe, gEqB, refD, scalEq, gLen, gAbs, gMax, gMin, gTuple, gIxS, tupOf, outS, fin_same, thenG, loopS, truD_bl, truD_tup, fgTup, fgCons, fgNil]
  · simp [fnF, fnK, fSeq, fRet, fRetN, fAsg, fgName, fDrop, fNext, fNever, fIfS, fPar, fFor, fAndV, fOrV, fNotV, fNotW, fAnd, fOr, fNot, fTest, fTru, fIf, fChain, fOp, fUn, fCB, fCons, fNil, fTup, fLst, fCall, fVar, fC, fSl, fPart, fNoPart, fBM, fM0, fM1, mAsk, fFld, fMeth, fPropN, fCMeth, fDNew, fDGet2, fDGet, fDPut, fLc, fYes, fiList, fiTup, bind_ok, thenS_ok, asB_bl, j_ii, j_ib, j_ss, j_tt, gLt, gLe, gGt, gGe, gCmp, gAdd, gSubI, gMul, gMod, gDiv, gEq, gNe, gEqB, refD, scalEq, gLen, gAbs, gMax, gMin, gTuple, gIxS, tupOf, outS, fin_same, thenG, loopS, truD_bl, truD_tup, fgTup, fgCons, fgNil, z2]
theorem st_op {w : Str} {b : D} {ps : List D} (h1 : ¬ (60 : Int) < nd + 1) (h2 : ¬ (8 : Int) < d) (h3 : nodeV v = some true) (h4 : tupOf v = some [.str w, b]) (h5 : isAt w = false) (h6 : tupOf b = some ps) (h7 : st.length + ps.length ≤ 500) :
    ∃ Y, L_is_after_formula_1 (dl M0 v0 nd x4 x5 x6) (M0 ++ .lst (encS ((v, d) :: st)) :: .dct ks xs :: X) = .nx (dl M0 v0 (nd + 1) (some v) (some (.int d)) x6) (M0 ++ .lst (encS ((ps.map fun p => (p, d + 1)).reverse ++ st)) :: .dct ks xs :: Y) := by
  have e := fun M => e_node v true M h3
  have hx : encS ((ps.map fun p => (p, d + 1)).reverse ++ st) = encS st ++ ps.map fun p => .tup [p, .int (d + 1)] := by simp [encS, Function.comp_def]
  have hz : (encS st).length + ps.length ≤ sizeLine := size600 (by rw [encS_len]; omega)
  refine ⟨X ++ [.lst (ps.map fun p => .tup [p, .int (d + 1)])], ?_⟩
  rw [hx]
  have hlc := fun M => lc_pair (d := d) (chk := fun _ => true) (fun _ => rfl) (δ := []) (M := M) (ps := ps) (a0 := some v0) (a1 := some (.ref M0.length)) (a2 := some (.int (nd + 1))) (a3 := some (.ref (M0.length + 1))) (a4 := some v) (a6 := none) (by omega)
  have hzl : (ps.map fun p => D.tup [p, .int (d + 1)]).length = ps.length := by simp
  generalize (ps.map fun p => D.tup [p, .int (d + 1)]) = Z at *
  rw [← hzl] at hz
  have hlt : M0.length < (M0 ++ AO.lst (encS st) :: AO.dct ks xs :: X).length := by simp
  have q1 : tyM "list" (.ref M0.length) (M0 ++ AO.lst (encS st) :: AO.dct ks xs :: X) = true := ty_lst
  have q2 : mExtend (.ref M0.length) [.ref (M0 ++ AO.lst (encS st) :: AO.dct ks xs :: X).length] ((M0 ++ AO.lst (encS st) :: AO.dct ks xs :: X) ++ [.lst Z]) = .ok .non (M0 ++ .lst (encS st ++ Z) :: .dct ks xs :: (X ++ [.lst Z])) := by
    have a1 : ((M0 ++ AO.lst (encS st) :: AO.dct ks xs :: X) ++ [.lst Z])[M0.length]? = some (.lst (encS st)) := by rw [List.getElem?_append_left hlt, g0]
    have a2 : ((M0 ++ AO.lst (encS st) :: AO.dct ks xs :: X) ++ [.lst Z])[(M0 ++ AO.lst (encS st) :: AO.dct ks xs :: X).length]? = some (.lst Z) := List.getElem?_concat_length
    have a3 : ((M0 ++ AO.lst (encS st) :: AO.dct ks xs :: X) ++ [AO.lst Z]).set M0.length (.lst (encS st ++ Z)) = M0 ++ .lst (encS st ++ Z) :: .dct ks xs :: (X ++ [.lst Z]) := by
      rw [List.set_append_left _ _ hlt, u0, List.append_assoc]; rfl
    simp only [mExtend, a1, G.listOf, a2, hz, if_true, a3]
  have pp := pop_enc (M0 := M0) (v := v) (d := d) (st := st) (R := AO.dct ks xs :: X)
  have tt : tyM "list" (.ref M0.length) (M0 ++ AO.lst (encS ((v, d) :: st)) :: AO.dct ks xs :: X) = true := ty_lst
  generalize hM : M0 ++ AO.lst (encS st) :: AO.dct ks xs :: X = M at q1 q2 pp
  generalize M0 ++ AO.lst (encS ((v, d) :: st)) :: AO.dct ks xs :: X = N at pp tt
  rcases tup_cases h4 with rfl | rfl <;> rcases tup_cases h6 with rfl | rfl <;>
    simp [L_is_after_formula_1, dl, fnF, fnK, fSeq, fRet, fRetN, fAsg, fgName, fDrop, fNext, fNever, fIfS, fPar, fFor, fAndV, fOrV, fNotV, fNotW, fAnd, fOr, fNot, fTest, fTru, fIf, fChain, fOp, fUn, fCB, fCons, fNil, fTup, fLst, fCall, fVar, fC, fSl, fPart, fNoPart, fBM, fM0, fM1, mAsk, fFld, fMeth, fPropN, fCMeth, fDNew, fDGet2, fDGet, fDPut, fLc, fYes, fiList, fiTup, bind_ok, thenS_ok, asB_bl, j_ii, j_ib, j_ss, j_tt, gLt, gLe, gGt, gGe, gCmp, gAdd, gSubI, gMul, gMod, gDiv, gEq, gNe, gEqB, refD, scalEq, gLen, gAbs, gMax, gMin, gTuple, gIxS, tupOf, outS, fin_same, thenG, loopS, truD_bl, truD_tup, fgTup, fgCons, fgNil, fBM0, fBM, tt, pp, h1, h2, e, in_at, h5, atI, ixN, wipeD, hlc, q1, q2]
theorem lp (n : Nat) : ∀ (st : List (D × Int)) (nd : Int) (ks : List Key) (xs : List D) (b : Bool), chk n st nd ks xs = some b → ∀ (fuel : Nat) (X : AH) (x4 x5 x6 : Option D), n ≤ fuel →
    (b = false ∧ ∃ Y, fWhile (fTru (fVar 1)) L_is_after_formula_1 fuel (dl M0 v0 nd x4 x5 x6) (M0 ++ .lst (encS st) :: .dct ks xs :: X) = .rt (.bl false) (M0 ++ Y)) ∨
    ∃ nd' x4' x5' x6' ks' xs' Y, fWhile (fTru (fVar 1)) L_is_after_formula_1 fuel (dl M0 v0 nd x4 x5 x6) (M0 ++ .lst (encS st) :: .dct ks xs :: X) = .nx (dl M0 v0 nd' x4' x5' x6') (M0 ++ .lst [] :: .dct ks' xs' :: Y) ∧ b = decide (ks'.length ≤ 6) := by
  induction n with
  | zero => intro st nd ks xs b h; cases h
  | succ n ih =>
    intro st nd ks xs b h fuel X x4 x5 x6 hf
    obtain ⟨fuel, rfl⟩ : ∃ k, fuel = k + 1 := ⟨fuel - 1, by omega⟩
    cases st with
    | nil =>
      simp only [chk] at h
      cases h
      have ht : fTru (fVar 1) (dl M0 v0 nd x4 x5 x6) (M0 ++ .lst (encS []) :: .dct ks xs :: X) = .ok false (M0 ++ .lst [] :: .dct ks xs :: X) := by
        simp [fnF, fnK, fSeq, fRet, fRetN, fAsg, fgName, fDrop, fNext, fNever, fIfS, fPar, fFor, fAndV, fOrV, fNotV, fNotW, fAnd, fOr, fNot, fTest, fTru, fIf, fChain, fOp, fUn, fCB, fCons, fNil, fTup, fLst, fCall, fVar, fC, fSl, fPart, fNoPart, fBM, fM0, fM1, mAsk, fFld, fMeth, fPropN, fCMeth, fDNew, fDGet2, fDGet, fDPut, fLc, fYes, fiList, fiTup, bind_ok, thenS_ok, asB_bl, j_ii, j_ib, j_ss, j_tt, gLt, gLe, gGt, gGe, gCmp, gAdd, gSubI, gMul, gMod, gDiv, gEq, gNe, gEqB, refD, scalEq, gLen, gAbs, gMax, gMin, gTuple, gIxS, tupOf, outS, fin_same, thenG, loopS, truD_bl, truD_tup, fgTup, fgCons, fgNil, dl, truD, G.listOf, encS]
      refine .inr ⟨nd, x4, x5, x6, ks, xs, X, ?_, rfl⟩
      simp only [fWhile, ht, thenS_ok]
      rfl
    | cons p st =>
      obtain ⟨v, d⟩ := p
      have ht : fTru (fVar 1) (dl M0 v0 nd x4 x5 x6) (M0 ++ .lst (encS ((v, d) :: st)) :: .dct ks xs :: X) = .ok true (M0 ++ .lst (encS ((v, d) :: st)) :: .dct ks xs :: X) := by
        simp [fnF, fnK, fSeq, fRet, fRetN, fAsg, fgName, fDrop, fNext, fNever, fIfS, fPar, fFor, fAndV, fOrV, fNotV, fNotW, fAnd, fOr, fNot, fTest, fTru, fIf, fChain, fOp, fUn, fCB, fCons, fNil, fTup, fLst, fCall, fVar, fC, fSl, fPart, fNoPart, fBM, fM0, fM1, mAsk, fFld, fMeth, fPropN, fCMeth, fDNew, fDGet2, fDGet, fDPut, fLc, fYes, fiList, fiTup, bind_ok, thenS_ok, asB_bl, j_ii, j_ib, j_ss, j_tt, gLt, gLe, gGt, gGe, gCmp, gAdd, gSubI, gMul, gMod, gDiv, gEq, gNe, gEqB, refD, scalEq, gLen, gAbs, gMax, gMin, gTuple, gIxS, tupOf, outS, fin_same, thenG, loopS, truD_bl, truD_tup, fgTup, fgCons, fgNil, dl, truD, G.listOf, encS_cons]
      simp only [chk] at h
      simp only [fWhile, ht, thenS_ok, if_true]
      split at h
      · rename_i h0
        cases h
        rw [st_false (by rw [Bool.or_eq_true] at *; exact .inl (by simpa using h0))]
        exact .inl ⟨rfl, _, rfl⟩
      · rename_i h0
        have h1 : ¬ (60 : Int) < nd + 1 := fun z => h0 (by simp [z])
        have h2 : ¬ (8 : Int) < d := fun z => h0 (by simp [z])
        split at h
        · cases h
        · rename_i h3
          cases h
          rw [st_false (by simp [h3])]
          exact .inl ⟨rfl, _, rfl⟩
        · rename_i h3
          split at h
          · rename_i w b' h4
            split at h
            · rename_i h5
              split at h
              · rename_i i
                split at h
                · rename_i h6
                  rw [st_at h1 h2 h3 h4 h5 h6]
                  exact ih _ _ _ _ _ h fuel X _ _ _ (by omega)
                · cases h
              · cases h
            · rename_i h5
              split at h
              · rename_i ps h6
                split at h
                · rename_i h7
                  obtain ⟨Y, e⟩ := st_op (M0 := M0) (X := X) (v0 := v0) (x4 := x4) (x5 := x5) (x6 := x6) (ks := ks) (xs := xs) h1 h2 h3 h4 (by simpa using h5) h6 h7
                  rw [e]
                  exact ih _ _ _ _ _ h fuel Y _ _ _ (by omega)
                · cases h
              · cases h
          · cases h
end
theorem e_chk {v : D} {b : Bool} (h : chk 1000 [(v, 1)] 0 [] [] = some b) (M : AH) : F_is_after_formula [v] M = .ok (.bl b) M := by
  have z2 : 2 ≤ sizeLine := size600 (by decide)
  have z1 : 1 ≤ sizeLine := size600 (by decide)
  have hfin : ∀ (c : Bool) Y, fin M (.ok (.bl c) (M ++ Y)) = .ok (.bl c) M := fun c Y => fin_app (by simp)
  have e0 : ∀ d : D, encS [(v, 1)] = [.tup [v, .int 1]] := fun d => by simp [encS]
  rcases lp (M0 := M) (v0 := v) 1000 [(v, 1)] 0 [] [] b h 100000 [] none none none (by decide) with ⟨rfl, Y, e⟩ | ⟨nd', x4, x5, x6, ks, xs, Y, e, rfl⟩
  · rw [e0 v] at e
    simp only [dl] at e
    simp [F_is_after_formula, fnF, fnK, fSeq, fRet, fRetN, fAsg, fgName, fDrop, fNext, fNever, fIfS, fPar, fFor, fAndV, fOrV, fNotV, fNotW, fAnd, fOr, fNot, fTest, fTru, fIf, fChain, fOp, fUn, fCB, fCons, fNil, fTup, fLst, fCall, fVar, fC, fSl, fPart, fNoPart, fBM, fM0, fM1, mAsk, fFld, fMeth, fPropN, fCMeth, fDNew, fDGet2, fDGet, fDPut, fLc, fYes, fiList, fiTup, bind_ok, thenS_ok, asB_bl, j_ii, j_ib, j_ss, j_tt, gLt, gLe, gGt, gGe, gCmp, gAdd, gSubI, gMul, gMod, gDiv, gEq, gNe, gEqB, refD, scalEq, gLen, gAbs, gMax, gMin, gTuple, gIxS, tupOf, outS, fin_same, thenG, loopS, truD_bl, truD_tup, fgTup, fgCons, fgNil, fPar3, z1, z2, e, hfin]
  · rw [e0 v] at e
    simp only [dl] at e
    have i1 : ((ks.length : Int) ≤ 6) = (ks.length ≤ 6) := propext ⟨by omega, by omega⟩
    simp [F_is_after_formula, fnF, fnK, fSeq, fRet, fRetN, fAsg, fgName, fDrop, fNext, fNever, fIfS, fPar, fFor, fAndV, fOrV, fNotV, fNotW, fAnd, fOr, fNot, fTest, fTru, fIf, fChain, fOp, fUn, fCB, fCons, fNil, fTup, fLst, fCall, fVar, fC, fSl, fPart, fNoPart, fBM, fM0, fM1, mAsk, fFld, fMeth, fPropN, fCMeth, fDNew, fDGet2, fDGet, fDPut, fLc, fYes, fiList, fiTup, bind_ok, thenS_ok, asB_bl, j_ii, j_ib, j_ss, j_tt, gLt, gLe, gGt, gGe, gCmp, gAdd, gSubI, gMul, gMod, gDiv, gEq, gNe, gEqB, refD, scalEq, gLen, gAbs, gMax, gMin, gTuple, gIxS, tupOf, outS, fin_same, thenG, loopS, truD_bl, truD_tup, fgTup, fgCons, fgNil, fPar3, z1, z2, e, hfin, gLenD, dctOf, i1]
end K30
namespace K30
open PySem L2 G
/-! ### drawn formulas -/
def Js : List Int := [1, 2, 30, 1000000]
inductive Fo : Nat → D → Prop
  | at {h : Nat} {w : Str} {i : Int} : isAt w = true → i ∈ Js → Fo h (.tup [.str w, .int i])
  | nd {h : Nat} {w : Str} {ps : List D} : isOp w = true → 2 ≤ ps.length → ps.length ≤ 3 → (∀ p ∈ ps, Fo h p) → Fo (h + 1) (.tup [.str w, .tup ps])
mutual
def ns : D → Nat
  | .str _ => 1
  | .tup xs => nsL xs
  | _ => 0
def nsL : List D → Nat
  | [] => 0
  | d :: ds => ns d + nsL ds
end
mutual
def jb : D → List Int
  | .int i => [i]
  | .tup xs => jbL xs
  | _ => []
def jbL : List D → List Int
  | [] => []
  | d :: ds => jb d ++ jbL ds
end
theorem op_at {w : Str} (h : isOp w = true) : isAt w = false := by
  unfold isOp at h
  rw [Bool.or_eq_true, decide_eq_true_eq, decide_eq_true_eq] at h
  rcases h with rfl | rfl <;> decide
theorem js_in {i : Int} (h : i ∈ Js) : (decide (1 ≤ i) && decide (i ≤ 1000000)) = true := by
  simp [Js] at h
  rcases h with rfl | rfl | rfl | rfl <;> decide
theorem at_op {w : Str} (h : isAt w = true) : isOp w = false := by
  cases e : isOp w
  · rfl
  · rw [op_at e] at h; cases h
theorem Fo.node {h : Nat} {v : D} (f : Fo h v) : nodeV v = some true := by
  cases f with
  | «at» a b => simp only [nodeV, nodeL, at_op a, a, js_in b]; rfl
  | nd a b c d =>
    simp only [nodeV, nodeL, a, if_true]
    simp [b]
    omega
theorem Fo.mono {h k : Nat} {v : D} (f : Fo h v) (le : h ≤ k) : Fo k v := by
  induction f generalizing k with
  | «at» a b => exact .at a b
  | nd a b c d ih =>
    obtain ⟨k, rfl⟩ : ∃ j, k = j + 1 := ⟨k - 1, by omega⟩
    exact .nd a b c fun p hp => ih p hp (by omega)
theorem Fo.pos {h : Nat} {v : D} (f : Fo h v) : 1 ≤ ns v := by
  cases f with
  | «at» a b => simp [ns, nsL]
  | nd a b c d => simp [ns, nsL]
def bnd : Nat → Nat
  | 0 => 1
  | h + 1 => 1 + 3 * bnd h
theorem bnd_pos : ∀ h, 1 ≤ bnd h
  | 0 => by simp [bnd]
  | h + 1 => by simp [bnd]
theorem nsL_le {k : Nat} : ∀ {ps : List D}, (∀ p ∈ ps, ns p ≤ k) → nsL ps ≤ ps.length * k
  | [], _ => by simp [nsL]
  | p :: r, h => by
    have h1 := h p (List.mem_cons_self ..)
    have h2 := nsL_le fun q hq => h q (List.mem_cons_of_mem _ hq)
    simp only [nsL, List.length_cons, Nat.succ_mul]
    omega
theorem Fo.bnd {h : Nat} {v : D} (f : Fo h v) : ns v ≤ bnd h := by
  induction f with
  | «at» a b => simp [ns, nsL]; exact bnd_pos _
  | @nd h w ps a b c d ih =>
    have := nsL_le ih
    have h2 : ps.length * K30.bnd h ≤ 3 * K30.bnd h := Nat.mul_le_mul_right _ c
    simp only [ns, nsL, K30.bnd]
    omega
theorem jbL_mem {i : Int} : ∀ {ps : List D}, i ∈ jbL ps ↔ ∃ p ∈ ps, i ∈ jb p
  | [] => by simp [jbL]
  | p :: r => by simp [jbL, jbL_mem (ps := r)]
theorem Fo.js {h : Nat} {v : D} (f : Fo h v) : ∀ i ∈ jb v, i ∈ Js := by
  induction f with
  | «at» a b => intro i hi; simp [jb, jbL] at hi; exact hi ▸ b
  | nd a b c d ih =>
    intro i hi
    simp [jb, jbL] at hi
    obtain ⟨p, hp, hi⟩ := jbL_mem.mp hi
    exact ih p hp i hi
/-- the nodes of what waits -/
def Ns (st : List (D × Int)) : Nat := nsL (st.map (·.1))
theorem nsL_app : ∀ {a b : List D}, nsL (a ++ b) = nsL a + nsL b
  | [], b => by simp [nsL]
  | x :: a, b => by simp only [List.cons_append, nsL, nsL_app (a := a)]; omega
theorem nsL_rev : ∀ {a : List D}, nsL a.reverse = nsL a
  | [] => rfl
  | x :: a => by simp only [List.reverse_cons, nsL_app, nsL, nsL_rev (a := a)]; omega
theorem nsL_len : ∀ {a : List D}, (∀ p ∈ a, 1 ≤ ns p) → a.length ≤ nsL a
  | [], _ => by simp
  | x :: a, h => by
    have h1 := h x (List.mem_cons_self ..)
    have h2 := nsL_len fun q hq => h q (List.mem_cons_of_mem _ hq)
    simp only [nsL, List.length_cons]
    omega
theorem len_sub {α : Type} [DecidableEq α] : ∀ {m l : List α}, l.Nodup → (∀ x ∈ l, x ∈ m) → l.length ≤ m.length
  | [], l, _, h => by
    cases l with
    | nil => simp
    | cons a r => exact absurd (h a (List.mem_cons_self ..)) (by simp)
  | a :: m, l, nd, h => by
    by_cases ha : a ∈ l
    · have h1 := len_sub (m := m) (l := l.erase a) (nd.erase a) fun x hx => by
        have h2 := (nd.mem_erase_iff.mp hx)
        rcases List.mem_cons.mp (h x h2.2) with e | e
        · exact absurd e h2.1
        · exact e
      have h3 := List.length_erase_of_mem ha
      have : 0 < l.length := List.length_pos_of_mem ha
      simp only [List.length_cons]
      omega
    · have h1 := len_sub (m := m) (l := l) nd fun x hx => by
        rcases List.mem_cons.mp (h x hx) with e | e
        · exact absurd (e ▸ hx) ha
        · exact e
      simp only [List.length_cons]
      omega
def KsOk (ks : List Key) : Prop := ks.Nodup ∧ ∀ k ∈ ks, k ∈ Js.map (Sum.inl : Int → Key)
theorem KsOk.len {ks : List Key} (h : KsOk ks) : ks.length ≤ 4 := by
  have := len_sub h.1 h.2
  simpa [Js] using this
theorem hasK_iff {ks : List Key} {k : Key} : hasK ks k = true ↔ k ∈ ks := by
  simp [hasK]
theorem put_ks {ks : List Key} {xs : List D} {k : Key} {d : D} : (putD ks xs k d).1 = if hasK ks k then ks else ks ++ [k] := by
  unfold putD
  split <;> rfl
theorem nd_put {ks : List Key} {k : Key} (h : ks.Nodup) : (if hasK ks k then ks else ks ++ [k]).Nodup := by
  split
  · exact h
  · rename_i hk
    refine List.nodup_append.mpr ⟨h, by simp, fun a ha b hb => ?_⟩
    rw [List.mem_singleton.mp hb]
    exact fun e => hk (hasK_iff.mpr (e ▸ ha))
theorem KsOk.put {ks : List Key} {xs : List D} {i : Int} (h : KsOk ks) (hi : i ∈ Js) : KsOk (putT ks xs i).1 := by
  unfold putT
  rw [put_ks]
  refine ⟨nd_put h.1, fun k hk => ?_⟩
  split at hk
  · exact h.2 k hk
  · rcases List.mem_append.mp hk with hk | hk
    · exact h.2 k hk
    · rw [List.mem_singleton.mp hk]; exact List.mem_map.mpr ⟨i, hi, rfl⟩
theorem chk_fo : ∀ (n : Nat) (st : List (D × Int)) (nd : Int) (ks : List Key) (xs : List D), (∀ p ∈ st, ∃ h : Nat, Fo h p.1 ∧ p.2 + h ≤ 8) → Ns st < n → nd + Ns st ≤ 60 → 0 ≤ nd → KsOk ks → chk n st nd ks xs = some true
  | 0, _, _, _, _, _, h, _, _, _ => by omega
  | n + 1, [], nd, ks, xs, _, _, _, _, hk => by
    have := hk.len
    simp only [chk]
    rw [decide_eq_true (by omega)]
  | n + 1, (v, d) :: st, nd, ks, xs, hs, hn, hb, h0, hk => by
    obtain ⟨h, f, hd⟩ := hs (v, d) (List.mem_cons_self ..)
    have hr : ∀ p ∈ st, ∃ h : Nat, Fo h p.1 ∧ p.2 + h ≤ 8 := fun p hp => hs p (List.mem_cons_of_mem _ hp)
    have e1 : Ns ((v, d) :: st) = ns v + Ns st := by simp [Ns, nsL]
    have fp : 1 ≤ ns v := f.pos
    have hl : st.length ≤ Ns st := by
      have := nsL_len (a := st.map (·.1)) fun p hp => by
        obtain ⟨q, hq, rfl⟩ := List.mem_map.mp hp
        obtain ⟨_, g, _⟩ := hr q hq
        exact g.pos
      simpa [Ns] using this
    have hd : d + (h : Int) ≤ 8 := hd
    have c0 : (decide (60 < nd + 1) || decide (8 < d)) = false := by
      rw [decide_eq_false (by omega), decide_eq_false (by omega)]; rfl
    simp only [chk, c0, f.node]
    cases f with
    | @«at» h w i a b =>
      have hn1 : ns (.tup [.str w, .int i]) = 1 := by simp [ns, nsL]
      have := hk.len
      simp only [tupOf, a, if_true]
      rw [if_neg (by decide), if_pos (by omega)]
      exact chk_fo n st (nd + 1) _ _ hr (by omega) (by omega) (by omega) (hk.put b)
    | @nd h w ps a b c e =>
      have hn1 : ns (.tup [.str w, .tup ps]) = 1 + nsL ps := by simp [ns, nsL]
      simp only [tupOf, op_at a]
      rw [if_neg (by decide), if_neg (by decide), if_pos (by omega)]
      have e2 : Ns ((ps.map fun p => (p, d + 1)).reverse ++ st) = nsL ps + Ns st := by
        unfold Ns
        rw [List.map_append, nsL_app, List.map_reverse, nsL_rev, List.map_map]
        simp [Function.comp_def]
      refine chk_fo n _ (nd + 1) _ _ (fun p hp => ?_) (by omega) (by omega) (by omega) hk
      rcases List.mem_append.mp hp with hp | hp
      · obtain ⟨q, hq, rfl⟩ := List.mem_map.mp (List.mem_reverse.mp hp)
        exact ⟨h, e q hq, by show d + 1 + (h : Int) ≤ 8; omega⟩
      · exact hr p hp
theorem e_is {v : D} (f : Fo 3 v) (M : AH) : F_is_after_formula [v] M = .ok (.bl true) M := by
  have hb := f.bnd
  have b3 : bnd 3 = 40 := by decide
  refine e_chk (chk_fo 1000 _ 0 [] [] (fun p hp => ?_) ?_ ?_ (by omega) ⟨by simp, by simp⟩) M
  · rw [List.mem_singleton.mp hp]; exact ⟨3, f, by show (1 : Int) + ((3 : Nat) : Int) ≤ 8; decide⟩
  · simp [Ns, nsL]; omega
  · simp [Ns, nsL]; omega
end K30
namespace K30
open PySem L2 G
/-! ### words_by_job -/
def can (l : List Int) : List Int := Js.filter fun i => decide (i ∈ l)
theorem sort_can {zs l : List Int} (h1 : zs.Nodup) (h2 : ∀ i, i ∈ zs ↔ i ∈ l) (h3 : ∀ i ∈ l, i ∈ Js) : sortI zs = can l := by
  have p : (can l).Perm zs := by
    refine (List.perm_ext_iff_of_nodup (List.Pairwise.filter _ (by decide : Js.Nodup)) h1).mpr fun i => ?_
    show i ∈ Js.filter (fun i => decide (i ∈ l)) ↔ i ∈ zs
    rw [List.mem_filter, decide_eq_true_eq, h2]
    exact ⟨fun h => h.2, fun h => ⟨h3 i h, h⟩⟩
  exact (sortI_eq p (List.Pairwise.filter _ (by decide))).symm
def BoolD (o : AO) : Prop := ∃ k ys, o = .dct k ys ∧ ∀ y ∈ ys, y = D.bl true
def KLen (c : Nat) (o : AO) : Prop := ∀ k ys, o = .dct k ys → k.length ≤ c
structure WX (M0 : AH) (c : Nat) (xs : List D) (X : AH) : Prop where
  x : ∀ x ∈ xs, ∃ j, j < X.length ∧ x = .ref (M0.length + 2 + j)
  b : ∀ o ∈ X, BoolD o ∧ KLen c o
theorem val_mem {ks : List Key} {xs : List D} {k : Key} {x : D} (h : valD ks xs k = some x) : k ∈ ks ∧ x ∈ xs := by
  unfold valD at h
  obtain ⟨p, h1, h2⟩ := Option.map_eq_some_iff.mp h
  subst h2
  have h3 := List.find?_some h1
  have h4 := List.mem_of_find?_eq_some h1
  obtain ⟨a, b⟩ := p
  have := List.of_mem_zip h4
  exact ⟨(by simpa using h3 : a = k) ▸ this.1, this.2⟩
theorem put_xs {ks : List Key} {xs : List D} {k : Key} {d x : D} (h : x ∈ (putD ks xs k d).2) : x ∈ xs ∨ x = d := by
  unfold putD at h
  split at h
  · simp only at h
    obtain ⟨i, hi⟩ := List.getElem?_of_mem h
    rw [List.getElem?_zipWith] at hi
    split at hi
    · rename_i a b ha hb
      cases hi
      split
      · exact .inr rfl
      · exact .inl (List.mem_of_getElem? hb)
    · cases hi
  · simp only at h
    rcases List.mem_append.mp h with h | h
    · exact .inl h
    · exact .inr (List.mem_singleton.mp h)
theorem put_len {ks : List Key} {xs : List D} {k : Key} {d : D} : (putD ks xs k d).1.length ≤ ks.length + 1 := by
  rw [put_ks]
  split
  · omega
  · simp
def dw (v : D) (m : Nat) (x3 x4 : Option D) : AS := [some v, some (.ref m), some (.ref (m + 1)), x3, x4]
def At (c : Nat) (ks : List Key) (i : Int) : List Key := if hasK ks (.inl i) then ks else ks ++ [.inl i]
section
variable {M0 X : AH} {v0 v : D} {x3 x4 : Option D} {st : List D} {ks : List Key} {xs : List D} {c : Nat}
theorem wd_pop : mPop (.ref (M0.length + 1)) [] (M0 ++ .dct ks xs :: .lst ((v :: st).reverse) :: X) = .ok v (M0 ++ .dct ks xs :: .lst st.reverse :: X) := by
  simp [mPop]
theorem wd_ty {A : AO} {zs : List D} : tyM "list" (.ref (M0.length + 1)) (M0 ++ A :: .lst zs :: X) = true := by simp [tyM]
theorem wd_op {w : Str} {ps : List D} (hw : isOp w = true) (hl : st.length + ps.length ≤ 500) :
    L_words_by_job_1 (dw v0 M0.length x3 x4) (M0 ++ .dct ks xs :: .lst ((.tup [.str w, .tup ps] :: st).reverse) :: X) = .nx (dw v0 M0.length (some (.str w)) (some (.tup ps))) (M0 ++ .dct ks xs :: .lst ((ps.reverse ++ st).reverse) :: X) := by
  have z2 : 2 ≤ sizeLine := size600 (by decide)
  have hz : st.length + ps.length ≤ sizeLine := size600 (by omega)
  have pp := wd_pop (M0 := M0) (X := X) (v := .tup [.str w, .tup ps]) (st := st) (ks := ks) (xs := xs)
  have tt := wd_ty (M0 := M0) (X := X) (A := .dct ks xs) (zs := (.tup [.str w, .tup ps] :: st).reverse)
  have t2 := wd_ty (M0 := M0) (X := X) (A := .dct ks xs) (zs := st.reverse)
  have q : mExtT (.ref (M0.length + 1)) [.tup ps] (M0 ++ .dct ks xs :: .lst st.reverse :: X) = .ok .non (M0 ++ .dct ks xs :: .lst ((ps.reverse ++ st).reverse) :: X) := by
    simp [mExtT, tupOf, hz]
  generalize M0 ++ AO.dct ks xs :: .lst ((ps.reverse ++ st).reverse) :: X = N at q ⊢
  generalize M0 ++ AO.dct ks xs :: .lst ((.tup [.str w, .tup ps] :: st).reverse) :: X = N1 at pp tt ⊢
  generalize M0 ++ AO.dct ks xs :: .lst st.reverse :: X = N2 at pp t2 q
  simp [L_words_by_job_1, dw, fnF, fnK, fSeq, fRet, fRetN, fAsg, fgName, fDrop, fNext, fNever, fIfS, fPar, fFor, fAndV, fOrV, fNotV, fNotW, fAnd, fOr, fNot, fTest, fTru, fIf, fChain, fOp, fUn, fCB, fCons, fNil, fTup, fLst, fCall, fVar, fC, fSl, fPart, fNoPart, fBM, fM0, fM1, mAsk, fFld, fMeth, fPropN, fCMeth, fDNew, fDGet2, fDGet, fDPut, fLc, fYes, fiList, fiTup, bind_ok, thenS_ok, asB_bl, j_ii, j_ib, j_ss, j_tt, gLt, gLe, gGt, gGe, gCmp, gAdd, gSubI, gMul, gMod, gDiv, gEq, gNe, gEqB, refD, scalEq, gLen, gAbs, gMax, gMin, gTuple, gIxS, tupOf, outS, fin_same, thenG, loopS, truD_bl, truD_tup, fgTup, fgCons, fgNil, fBM0, tt, pp, in_op, hw, t2, q, z2]
theorem wd_at {w : Str} {i : Int} (hw : isAt w = true) (hk : ks.length < 500) (hx : WX M0 c xs X) (hc : c < 500) :
    ∃ xs' X', WX M0 (c + 1) xs' X' ∧ L_words_by_job_1 (dw v0 M0.length x3 x4) (M0 ++ .dct ks xs :: .lst ((.tup [.str w, .int i] :: st).reverse) :: X) = .nx (dw v0 M0.length (some (.str w)) (some (.int i))) (M0 ++ .dct (At c ks i) xs' :: .lst st.reverse :: X') := by
  have z2 : 2 ≤ sizeLine := size600 (by decide)
  have hz : ks.length < sizeLine := size600 (by omega)
  have pp := wd_pop (M0 := M0) (X := X) (v := .tup [.str w, .int i]) (st := st) (ks := ks) (xs := xs)
  have tt := wd_ty (M0 := M0) (X := X) (A := .dct ks xs) (zs := (.tup [.str w, .int i] :: st).reverse)
  -- the inner dict at j of X1, then written
  have inner : ∀ (j : Nat) (xs1 : List D), (∀ x ∈ xs1, ∃ j, j < X.length + 1 ∧ x = D.ref (M0.length + 2 + j)) → j < X.length + 1 → ∃ k ys, k.length ≤ c ∧
      (M0 ++ AO.dct (At c ks i) xs1 :: AO.lst st.reverse :: (X ++ [AO.dct [] []]))[M0.length + 2 + j]? = some (.dct k ys) ∧
      WX M0 (c + 1) xs1 ((X ++ [AO.dct [] []]).set j (.dct (putD k ys (.inr w) (.bl true)).1 (putD k ys (.inr w) (.bl true)).2)) := fun j xs1 h1 hj => by
    have hb : ∀ o ∈ X ++ [AO.dct [] []], BoolD o ∧ KLen c o := fun o ho => by
      rcases List.mem_append.mp ho with ho | ho
      · exact hx.b o ho
      · rw [List.mem_singleton.mp ho]
        exact ⟨⟨_, _, rfl, by simp⟩, fun k ys e => by cases e; simp⟩
    have hj' : j < (X ++ [AO.dct [] []]).length := by simp; omega
    have hm := List.getElem_mem hj'
    obtain ⟨⟨k, ys, e, hy⟩, hl⟩ := hb _ hm
    refine ⟨k, ys, hl k ys e, ?_, ⟨fun x hx => ?_, fun o ho => ?_⟩⟩
    · rw [List.getElem?_append_right (by omega)]
      have : M0.length + 2 + j - M0.length = j + 2 := by omega
      rw [this]
      simp only [List.getElem?_cons_succ]
      rw [List.getElem?_eq_getElem hj', e]
    · obtain ⟨j', h1, h2⟩ := h1 x hx
      exact ⟨j', by simp; omega, h2⟩
    · rcases List.mem_or_eq_of_mem_set ho with ho | rfl
      · obtain ⟨a, b⟩ := hb o ho
        exact ⟨a, fun k ys e => by have := b k ys e; omega⟩
      · refine ⟨⟨_, _, rfl, fun y hy2 => ?_⟩, fun k2 ys2 e2 => ?_⟩
        · rcases put_xs hy2 with h | h
          · exact hy y h
          · exact h
        · cases e2
          have := put_len (ks := k) (xs := ys) (k := .inr w) (d := .bl true)
          have := hl k ys e
          omega
  have hkb : keyD (.int i) = some (.inl i) := rfl
  have hkw : keyD (.str w) = some (.inr w) := rfl
  -- setdefault
  have sd : ∃ (j : Nat) (xs1 : List D), j < X.length + 1 ∧ (∀ x ∈ xs1, ∃ j, j < X.length + 1 ∧ x = D.ref (M0.length + 2 + j)) ∧
      fDSetd (fVar 1) (fVar 4) fDNew (dw v0 M0.length (some (.str w)) (some (.int i))) (M0 ++ AO.dct ks xs :: .lst st.reverse :: X) = .ok (.ref (M0.length + 2 + j)) (M0 ++ AO.dct (At c ks i) xs1 :: .lst st.reverse :: (X ++ [AO.dct [] []])) := by
    have e1 : (M0 ++ AO.dct ks xs :: .lst st.reverse :: X ++ [AO.dct [] []]) = M0 ++ AO.dct ks xs :: .lst st.reverse :: (X ++ [AO.dct [] []]) := by simp
    have e2 : (M0 ++ AO.dct ks xs :: .lst st.reverse :: X).length = M0.length + 2 + X.length := by simp; omega
    have e3 : dctOf (.ref M0.length) (M0 ++ AO.dct ks xs :: .lst st.reverse :: X) = some (ks, xs) := by simp [dctOf]
    have e4 : (M0 ++ AO.dct ks xs :: .lst st.reverse :: (X ++ [AO.dct [] []]))[M0.length]? = some (.dct ks xs) := g0
    have e5 : ∀ o, (M0 ++ AO.dct ks xs :: .lst st.reverse :: (X ++ [AO.dct [] []])).set M0.length o = M0 ++ o :: .lst st.reverse :: (X ++ [AO.dct [] []]) := fun o => u0
    cases hv : valD ks xs (.inl i) with
    | some x =>
      obtain ⟨m1, m2⟩ := val_mem hv
      obtain ⟨j, hj, rfl⟩ := hx.x x m2
      have ha : At c ks i = ks := by unfold At; rw [if_pos (hasK_iff.mpr m1)]
      refine ⟨j, xs, by omega, fun x hxx => ?_, ?_⟩
      · obtain ⟨j', a, b⟩ := hx.x x hxx
        exact ⟨j', by omega, b⟩
      · simp only [fDSetd, fVar, dw, List.getElem?_cons_succ, List.getElem?_cons_zero, bind_ok, e3, Option.isSome_some, if_true, fDNew, hkb, e1, e4, hz, hv, ha]
    | none =>
      refine ⟨X.length, (putD ks xs (.inl i) (.ref (M0.length + 2 + X.length))).2, by omega, fun x hxx => ?_, ?_⟩
      · rcases put_xs hxx with h | h
        · obtain ⟨j', a, b⟩ := hx.x x h
          exact ⟨j', by omega, b⟩
        · exact ⟨X.length, by omega, h⟩
      · have hp : (putD ks xs (.inl i) (.ref (M0.length + 2 + X.length))).1 = At c ks i := put_ks
        simp only [fDSetd, fVar, dw, List.getElem?_cons_succ, List.getElem?_cons_zero, bind_ok, e3, Option.isSome_some, if_true, fDNew, hkb, e1, e2, e4, hz, hv, e5, hp]
  obtain ⟨j, xs1, hj, h1, es⟩ := sd
  obtain ⟨k, ys, hkl, hg, hw2⟩ := inner j xs1 h1 hj
  refine ⟨xs1, _, hw2, ?_⟩
  have hz2 : k.length < sizeLine := size600 (by omega)
  have hset : (M0 ++ AO.dct (At c ks i) xs1 :: .lst st.reverse :: (X ++ [AO.dct [] []])).set (M0.length + 2 + j) (.dct (putD k ys (.inr w) (.bl true)).1 (putD k ys (.inr w) (.bl true)).2) =
      M0 ++ AO.dct (At c ks i) xs1 :: .lst st.reverse :: ((X ++ [AO.dct [] []]).set j (.dct (putD k ys (.inr w) (.bl true)).1 (putD k ys (.inr w) (.bl true)).2)) := by
    rw [List.set_append_right _ _ (by omega)]
    have : M0.length + 2 + j - M0.length = j + 2 := by omega
    rw [this]
    rfl
  generalize M0 ++ AO.dct ks xs :: .lst ((.tup [.str w, .int i] :: st).reverse) :: X = N1 at pp tt ⊢
  generalize M0 ++ AO.dct ks xs :: .lst st.reverse :: X = N2 at pp es
  generalize M0 ++ AO.dct (At c ks i) xs1 :: .lst st.reverse :: (X ++ [AO.dct [] []]) = N3 at es hg hset
  simp only [dw] at es
  generalize hf : fDSetd (fVar 1) (fVar 4) fDNew = fs at es
  simp [L_words_by_job_1, dw, fnF, fnK, fSeq, fRet, fRetN, fAsg, fgName, fDrop, fNext, fNever, fIfS, fPar, fFor, fAndV, fOrV, fNotV, fNotW, fAnd, fOr, fNot, fTest, fTru, fIf, fChain, fOp, fUn, fCB, fCons, fNil, fTup, fLst, fCall, fVar, fC, fSl, fPart, fNoPart, fBM, fM0, fM1, mAsk, fFld, fMeth, fPropN, fCMeth, fDNew, fDGet2, fDGet, fDPut, fLc, fYes, fiList, fiTup, bind_ok, thenS_ok, asB_bl, j_ii, j_ib, j_ss, j_tt, gLt, gLe, gGt, gGe, gCmp, gAdd, gSubI, gMul, gMod, gDiv, gEq, gNe, gEqB, refD, scalEq, gLen, gAbs, gMax, gMin, gTuple, gIxS, tupOf, outS, fin_same, thenG, loopS, truD_bl, truD_tup, fgTup, fgCons, fgNil, fBM0, tt, pp, in_op, at_op hw, hf, es, hkw, hg, hz2, hset, z2]
end
end K30
namespace K30
open PySem L2 G
theorem jbL_app : ∀ {a b : List D}, jbL (a ++ b) = jbL a ++ jbL b
  | [], b => by simp [jbL]
  | x :: a, b => by simp [jbL, jbL_app (a := a)]
theorem at_mem {c : Nat} {ks : List Key} {i j : Int} : (.inl j : Key) ∈ At c ks i ↔ (.inl j : Key) ∈ ks ∨ j = i := by
  unfold At
  by_cases h : hasK ks (.inl i) = true
  · rw [if_pos h]
    refine ⟨.inl, fun z => z.elim id fun e => ?_⟩
    subst e
    exact hasK_iff.mp h
  · rw [if_neg h]
    simp
theorem KsOk.at {c : Nat} {ks : List Key} {i : Int} (h : KsOk ks) (hi : i ∈ Js) : KsOk (At c ks i) := by
  have := h.put (xs := []) hi
  unfold putT at this
  rw [put_ks] at this
  exact this
theorem WX.mono {M0 : AH} {c c' : Nat} {xs : List D} {X : AH} (h : WX M0 c xs X) (l : c ≤ c') : WX M0 c' xs X := ⟨h.x, fun o ho => ⟨(h.b o ho).1, fun k ys e => Nat.le_trans ((h.b o ho).2 k ys e) l⟩⟩
theorem wl {M0 : AH} {v0 : D} : ∀ (n : Nat) (st : List D) (ks : List Key) (xs : List D) (X : AH) (c : Nat) (x3 x4 : Option D), (∀ p ∈ st, ∃ h, Fo h p) → nsL st < n → KsOk ks → WX M0 c xs X → c + nsL st ≤ 60 → ∀ fuel, n ≤ fuel →
    ∃ x3' x4' ks' xs' X', fWhile (fTru (fVar 2)) L_words_by_job_1 fuel (dw v0 M0.length x3 x4) (M0 ++ .dct ks xs :: .lst st.reverse :: X) = .nx (dw v0 M0.length x3' x4') (M0 ++ .dct ks' xs' :: .lst [] :: X') ∧ KsOk ks' ∧ WX M0 60 xs' X' ∧
      ∀ i, (.inl i : Key) ∈ ks' ↔ (.inl i : Key) ∈ ks ∨ i ∈ jbL st
  | 0, _, _, _, _, _, _, _, _, h, _, _, _, _, _ => by omega
  | n + 1, [], ks, xs, X, c, x3, x4, _, _, hk, hx, hc, fuel, hf => by
    obtain ⟨fuel, rfl⟩ : ∃ k, fuel = k + 1 := ⟨fuel - 1, by omega⟩
    have ht : fTru (fVar 2) (dw v0 M0.length x3 x4) (M0 ++ .dct ks xs :: .lst [] :: X) = .ok false (M0 ++ .dct ks xs :: .lst [] :: X) := by
      simp [fnF, fnK, fSeq, fRet, fRetN, fAsg, fgName, fDrop, fNext, fNever, fIfS, fPar, fFor, fAndV, fOrV, fNotV, fNotW, fAnd, fOr, fNot, fTest, fTru, fIf, fChain, fOp, fUn, fCB, fCons, fNil, fTup, fLst, fCall, fVar, fC, fSl, fPart, fNoPart, fBM, fM0, fM1, mAsk, fFld, fMeth, fPropN, fCMeth, fDNew, fDGet2, fDGet, fDPut, fLc, fYes, fiList, fiTup, bind_ok, thenS_ok, asB_bl, j_ii, j_ib, j_ss, j_tt, gLt, gLe, gGt, gGe, gCmp, gAdd, gSubI, gMul, gMod, gDiv, gEq, gNe, gEqB, refD, scalEq, gLen, gAbs, gMax, gMin, gTuple, gIxS, tupOf, outS, fin_same, thenG, loopS, truD_bl, truD_tup, fgTup, fgCons, fgNil, dw, truD, G.listOf]
    refine ⟨x3, x4, ks, xs, X, ?_, hk, hx.mono (by omega), fun i => by simp [jbL]⟩
    simp only [fWhile, List.reverse_nil, ht, thenS_ok]
    rfl
  | n + 1, v :: st, ks, xs, X, c, x3, x4, hs, hn, hk, hx, hc, fuel, hf => by
    obtain ⟨fuel, rfl⟩ : ∃ k, fuel = k + 1 := ⟨fuel - 1, by omega⟩
    obtain ⟨h, f⟩ := hs v (List.mem_cons_self ..)
    have hr : ∀ p ∈ st, ∃ h, Fo h p := fun p hp => hs p (List.mem_cons_of_mem _ hp)
    have fp : 1 ≤ ns v := f.pos
    have e1 : nsL (v :: st) = ns v + nsL st := by simp [nsL]
    have hl : st.length ≤ nsL st := nsL_len fun p hp => by
      obtain ⟨_, g⟩ := hr p hp
      exact g.pos
    have ht : fTru (fVar 2) (dw v0 M0.length x3 x4) (M0 ++ .dct ks xs :: .lst ((v :: st).reverse) :: X) = .ok true (M0 ++ .dct ks xs :: .lst ((v :: st).reverse) :: X) := by
      simp [fnF, fnK, fSeq, fRet, fRetN, fAsg, fgName, fDrop, fNext, fNever, fIfS, fPar, fFor, fAndV, fOrV, fNotV, fNotW, fAnd, fOr, fNot, fTest, fTru, fIf, fChain, fOp, fUn, fCB, fCons, fNil, fTup, fLst, fCall, fVar, fC, fSl, fPart, fNoPart, fBM, fM0, fM1, mAsk, fFld, fMeth, fPropN, fCMeth, fDNew, fDGet2, fDGet, fDPut, fLc, fYes, fiList, fiTup, bind_ok, thenS_ok, asB_bl, j_ii, j_ib, j_ss, j_tt, gLt, gLe, gGt, gGe, gCmp, gAdd, gSubI, gMul, gMod, gDiv, gEq, gNe, gEqB, refD, scalEq, gLen, gAbs, gMax, gMin, gTuple, gIxS, tupOf, outS, fin_same, thenG, loopS, truD_bl, truD_tup, fgTup, fgCons, fgNil, dw, truD, G.listOf]
    have hk4 := hk.len
    simp only [fWhile, ht, thenS_ok, if_true]
    cases f with
    | @«at» h w i a b =>
      obtain ⟨xs', X', hx', e⟩ := wd_at (M0 := M0) (X := X) (v0 := v0) (x3 := x3) (x4 := x4) (st := st) (ks := ks) (xs := xs) (i := i) a (by omega) hx (by omega)
      rw [e]
      obtain ⟨x3', x4', ks', xs2, X2, q1, q2, q3, q4⟩ := wl n st (At c ks i) xs' X' (c + 1) _ _ hr (by omega) (hk.at b) hx' (by omega) fuel (by omega)
      refine ⟨x3', x4', ks', xs2, X2, q1, q2, q3, fun j => ?_⟩
      rw [q4, at_mem]
      simp [jbL, jb, or_assoc]
    | @nd h w ps a b c2 d =>
      have e := wd_op (M0 := M0) (X := X) (v0 := v0) (x3 := x3) (x4 := x4) (st := st) (ks := ks) (xs := xs) (ps := ps) a (by omega)
      rw [e]
      have e2 : nsL (ps.reverse ++ st) = nsL ps + nsL st := by rw [nsL_app, nsL_rev]
      have hn1 : ns (.tup [.str w, .tup ps]) = 1 + nsL ps := by simp [ns, nsL]
      obtain ⟨x3', x4', ks', xs2, X2, q1, q2, q3, q4⟩ := wl n (ps.reverse ++ st) ks xs X c (some (.str w)) (some (.tup ps)) (fun p hp => by
        rcases List.mem_append.mp hp with hp | hp
        · exact ⟨_, d p (List.mem_reverse.mp hp)⟩
        · exact hr p hp) (by omega) hk hx (by omega) fuel (by omega)
      refine ⟨x3', x4', ks', xs2, X2, q1, q2, q3, fun j => ?_⟩
      rw [q4, jbL_app]
      have : ∀ j, j ∈ jbL ps.reverse ↔ j ∈ jbL ps := fun j => by
        rw [jbL_mem, jbL_mem]
        simp
      simp [jbL, jb, this]
theorem frzL_ex {M : AH} {n k : Nat} : ∀ {xs : List D}, (∀ x ∈ xs, ∃ d, frz M n k x = some d) → ∃ ds, frzL M n k xs = some ds
  | [], _ => ⟨[], by simp [frzL]⟩
  | x :: xs, h => by
    obtain ⟨d, hd⟩ := h x (List.mem_cons_self ..)
    obtain ⟨ds, hds⟩ := frzL_ex fun y hy => h y (List.mem_cons_of_mem _ hy)
    exact ⟨d :: ds, by simp [frzL, hd, hds]⟩
theorem e_words {v : D} (f : Fo 3 v) (M : AH) : ∃ ks ds, F_words_by_job [v] M = .ok (.dct ks ds) M ∧ KsOk ks ∧ ∀ i, (.inl i : Key) ∈ ks ↔ i ∈ jb v := by
  have hb := f.bnd
  have b3 : bnd 3 = 40 := by decide
  have z1 : 1 ≤ sizeLine := size600 (by decide)
  obtain ⟨x3, x4, ks, xs, X, e, q2, q3, q4⟩ := wl (M0 := M) (v0 := v) 100000 [v] [] [] [] 0 none none (fun p hp => by rw [List.mem_singleton.mp hp]; exact ⟨3, f⟩) (by simp [nsL]; omega) ⟨by simp, by simp⟩ ⟨by simp, by simp⟩ (by simp [nsL]; omega) 100000 (by omega)
  have hfz : ∃ ds, frz (M ++ .dct ks xs :: .lst [] :: X) M.length frzN (.ref M.length) = some (.dct ks ds) := by
    obtain ⟨ds, hds⟩ := frzL_ex (M := M ++ .dct ks xs :: .lst [] :: X) (n := M.length) (k := 11) (xs := xs) fun x hx => by
      obtain ⟨j, hj, rfl⟩ := q3.x x hx
      obtain ⟨⟨k, ys, e1, hy⟩, _⟩ := q3.b _ (List.getElem_mem hj)
      have hg : (M ++ AO.dct ks xs :: .lst [] :: X)[M.length + 2 + j]? = some (.dct k ys) := by
        rw [List.getElem?_append_right (by omega)]
        have : M.length + 2 + j - M.length = j + 2 := by omega
        rw [this]
        simp only [List.getElem?_cons_succ]
        rw [List.getElem?_eq_getElem hj, e1]
      have hc : D.cloL M.length ys = true := cloL_all fun y h => by rw [hy y h]; simp
      refine ⟨.dct k ys, ?_⟩
      unfold frz
      rw [if_neg (by simp [D.clo]; omega)]
      simp only [hg, frzL_clo hc, Option.map_some]
    refine ⟨ds, ?_⟩
    unfold frzN frz
    rw [if_neg (by simp [D.clo])]
    simp only [g0, hds, Option.map_some]
  obtain ⟨ds, hfz⟩ := hfz
  refine ⟨ks, ds, ?_, q2, fun i => by rw [q4]; simp [jbL]⟩
  have hfin : fin M (.ok (.ref M.length) (M ++ .dct ks xs :: .lst [] :: X)) = .ok (.dct ks ds) M := by
    simp only [fin, okOld_app, if_true, hfz, List.take_left]
  simp only [dw, List.reverse_cons, List.reverse_nil, List.nil_append] at e
  simp [F_words_by_job, fnF, fnK, fSeq, fRet, fRetN, fAsg, fgName, fDrop, fNext, fNever, fIfS, fPar, fFor, fAndV, fOrV, fNotV, fNotW, fAnd, fOr, fNot, fTest, fTru, fIf, fChain, fOp, fUn, fCB, fCons, fNil, fTup, fLst, fCall, fVar, fC, fSl, fPart, fNoPart, fBM, fM0, fM1, mAsk, fFld, fMeth, fPropN, fCMeth, fDNew, fDGet2, fDGet, fDPut, fLc, fYes, fiList, fiTup, bind_ok, thenS_ok, asB_bl, j_ii, j_ib, j_ss, j_tt, gLt, gLe, gGt, gGe, gCmp, gAdd, gSubI, gMul, gMod, gDiv, gEq, gNe, gEqB, refD, scalEq, gLen, gAbs, gMax, gMin, gTuple, gIxS, tupOf, outS, fin_same, thenG, loopS, truD_bl, truD_tup, fgTup, fgCons, fgNil, z1, e, hfin]
theorem keys_int : ∀ {ks : List Key}, (∀ k ∈ ks, k ∈ Js.map (Sum.inl : Int → Key)) → ∃ zs, ks = zs.map (Sum.inl : Int → Key) ∧ keysI ks = some zs
  | [], _ => ⟨[], rfl, rfl⟩
  | k :: ks, h => by
    obtain ⟨zs, e1, e2⟩ := keys_int fun q hq => h q (List.mem_cons_of_mem _ hq)
    obtain ⟨i, _, rfl⟩ := List.mem_map.mp (h k (List.mem_cons_self ..))
    exact ⟨i :: zs, by rw [e1]; rfl, by simp [keysI, e2]⟩
theorem clo_ints {n : Nat} {l : List Int} : D.cloL n (l.map .int) = true := cloL_all fun d hd => by
  obtain ⟨i, _, rfl⟩ := List.mem_map.mp hd
  simp
theorem e_jobs_of {v : D} (f : Fo 3 v) (M : AH) : F__jobs_of [v] M = .ok (.tup ((can (jb v)).map .int)) M := by
  obtain ⟨ks, ds, e, hk, hm⟩ := e_words f M
  have h4 := hk.len
  obtain ⟨zs, rfl, hz⟩ := keys_int hk.2
  have nz : zs.Nodup := by
    have := hk.1
    exact List.Pairwise.of_map (S := (· ≠ ·)) (f := (Sum.inl : Int → Key)) (fun a b h e => h (by rw [e])) this
  have hs : sortI zs = can (jb v) := sort_can nz (fun i => by rw [← hm]; simp) f.js
  have h64 : zs.length < 64 := by simp at h4; omega
  have hf : fin M (.ok (.tup ((can (jb v)).map .int)) (M ++ [.lst ((can (jb v)).map .int)])) = .ok (.tup ((can (jb v)).map .int)) M := fin_app (by simp [clo_ints])
  generalize hks : zs.map (Sum.inl : Int → Key) = ks at *
  have hkl : ks.length < 64 := by rw [← hks]; simpa using h64
  have gs : gSortDI [.dct ks ds] M = .ok (.ref M.length) (M ++ [.lst ((can (jb v)).map .int)]) := by
    simp [gSortDI, dctOf, hkl, hz, hs]
  simp [F__jobs_of, fnF, fnK, fSeq, fRet, fRetN, fAsg, fgName, fDrop, fNext, fNever, fIfS, fPar, fFor, fAndV, fOrV, fNotV, fNotW, fAnd, fOr, fNot, fTest, fTru, fIf, fChain, fOp, fUn, fCB, fCons, fNil, fTup, fLst, fCall, fVar, fC, fSl, fPart, fNoPart, fBM, fM0, fM1, mAsk, fFld, fMeth, fPropN, fCMeth, fDNew, fDGet2, fDGet, fDPut, fLc, fYes, fiList, fiTup, bind_ok, thenS_ok, asB_bl, j_ii, j_ib, j_ss, j_tt, gLt, gLe, gGt, gGe, gCmp, gAdd, gSubI, gMul, gMod, gDiv, gEq, gNe, gEqB, refD, scalEq, gLen, gAbs, gMax, gMin, gTuple, gIxS, tupOf, outS, fin_same, thenG, loopS, truD_bl, truD_tup, fgTup, fgCons, fgNil, e, gs, G.listOf, hf]
theorem e_named {v : D} (f : Fo 3 v) (M : AH) : F_jobs_named [v] M = .ok (.tup ((can (jb v)).map .int)) M := by
  have h1 := fun M => e_is f M
  have h2 := e_jobs_of f M
  have hf : fin M (.ok (.tup ((can (jb v)).map .int)) M) = .ok (.tup ((can (jb v)).map .int)) M := fin_same (by simp [clo_ints])
  simp [F_jobs_named, F__check_formula, fnF, fnK, fSeq, fRet, fRetN, fAsg, fgName, fDrop, fNext, fNever, fIfS, fPar, fFor, fAndV, fOrV, fNotV, fNotW, fAnd, fOr, fNot, fTest, fTru, fIf, fChain, fOp, fUn, fCB, fCons, fNil, fTup, fLst, fCall, fVar, fC, fSl, fPart, fNoPart, fBM, fM0, fM1, mAsk, fFld, fMeth, fPropN, fCMeth, fDNew, fDGet2, fDGet, fDPut, fLc, fYes, fiList, fiTup, bind_ok, thenS_ok, asB_bl, j_ii, j_ib, j_ss, j_tt, gLt, gLe, gGt, gGe, gCmp, gAdd, gSubI, gMul, gMod, gDiv, gEq, gNe, gEqB, refD, scalEq, gLen, gAbs, gMax, gMin, gTuple, gIxS, tupOf, outS, fin_same, thenG, loopS, truD_bl, truD_tup, fgTup, fgCons, fgNil, h1, h2, hf]
end K30
namespace K30
open PySem L2 G
/-! ### _law_after_jobs -/
def addN : List Int → List Int → List Int := fun found l => found ++ l.filter fun i => !decide (i ∈ found)
theorem add_mem {a l : List Int} {i : Int} : i ∈ addN a l ↔ i ∈ a ∨ i ∈ l := by
  unfold addN
  rw [List.mem_append, List.mem_filter]
  by_cases h : i ∈ a <;> simp [h]
theorem add_nd {a l : List Int} (h1 : a.Nodup) (h2 : l.Nodup) : (addN a l).Nodup := by
  unfold addN
  refine List.nodup_append.mpr ⟨h1, List.Pairwise.filter _ h2, fun x hx y hy => ?_⟩
  rw [List.mem_filter] at hy
  intro e
  subst e
  simp [hx] at hy
theorem can_mem {l : List Int} {i : Int} (h : ∀ i ∈ l, i ∈ Js) : i ∈ can l ↔ i ∈ l := by
  show i ∈ Js.filter (fun i => decide (i ∈ l)) ↔ i ∈ l
  rw [List.mem_filter, decide_eq_true_eq]
  exact ⟨fun h => h.2, fun z => ⟨h i z, z⟩⟩
theorem can_nd {l : List Int} : (can l).Nodup := List.Pairwise.filter _ (by decide : Js.Nodup)
theorem can_len {l : List Int} : (can l).length ≤ 4 := List.length_filter_le _ _
theorem any_int {a : List Int} {i : Int} : (a.map D.int).any (fun d => eqF d (.int i)) = decide (i ∈ a) := by
  induction a with
  | nil => simp
  | cons x r ih =>
    rw [List.map_cons, List.any_cons, ih]
    show (decide (x = i) || decide (i ∈ r)) = _
    by_cases h : x = i
    · subst h; simp
    · have : ¬ i = x := fun e => h e.symm
      simp [h, this]
def yI (a : List Int) : D → Option D
  | .int i => if i ∈ a then none else some (.int i)
  | _ => none
theorem ints_of {l : List Int} : intsOf (l.map D.int) = some l := by
  induction l with
  | nil => rfl
  | cons x r ih => simp [intsOf, ih]
theorem fm_y {a : List Int} : ∀ l : List Int, (l.map D.int).filterMap (yI a) = (l.filter fun i => !decide (i ∈ a)).map .int
  | [] => rfl
  | i :: r => by
    by_cases h : i ∈ a
    · simp only [List.map_cons, List.filterMap_cons, yI, h, if_true, fm_y r]
      simp [h]
    · simp only [List.map_cons, List.filterMap_cons, yI, h, if_false, fm_y r]
      simp [h]
theorem flat_ints {a : List Int} : (a.map D.int).all flatD = true := by
  induction a with
  | nil => rfl
  | cons x r ih => simp [flatD, ih]
theorem e_step {rec : FD} {M0 X : AH} {v0 p : D} {a l : List Int} {x3 : Option D} (hr : ∀ M, rec [p] M = .ok (.lst (l.map .int)) M) (hl : l.length ≤ 4) (ha : a.length ≤ 300) :
    ∃ Y, L__law_after_jobs_1 rec [some v0, some (.ref M0.length), some p, x3] (M0 ++ .lst (a.map .int) :: X) = .nx [some v0, some (.ref M0.length), some p, x3] (M0 ++ .lst ((addN a l).map .int) :: Y) := by
  have hlc := lc_fm (chk := fun _ => true) (g := fgName 3) (t := fTest (fOp (gIn true) (fVar 3) (fVar 1))) (e := fVar 3) (δ := [some v0, some (.ref M0.length), some p, none]) (M := M0 ++ .lst (a.map .int) :: X)
    (yI a) rfl (l.map .int) [] (size600 (by simp; omega)) fun d hd => by
      obtain ⟨i, _, rfl⟩ := List.mem_map.mp hd
      refine ⟨[some v0, some (.ref M0.length), some p, some (.int i)], rfl, ?_⟩
      have hin : gIn true (.int i) (.ref M0.length) (M0 ++ .lst (a.map .int) :: X) = .ok (.bl (!decide (i ∈ a))) (M0 ++ .lst (a.map .int) :: X) := by
        simp only [gIn, tupOf, G.listOf, g0, flat_ints, any_int]
        simp [flatD]
      by_cases h : i ∈ a
      · simp [h] at hin
        simp [yI, h, fnF, fnK, fSeq, fRet, fRetN, fAsg, fgName, fDrop, fNext, fNever, fIfS, fPar, fFor, fAndV, fOrV, fNotV, fNotW, fAnd, fOr, fNot, fTest, fTru, fIf, fChain, fOp, fUn, fCB, fCons, fNil, fTup, fLst, fCall, fVar, fC, fSl, fPart, fNoPart, fBM, fM0, fM1, mAsk, fFld, fMeth, fPropN, fCMeth, fDNew, fDGet2, fDGet, fDPut, fLc, fYes, fiList, fiTup, bind_ok, thenS_ok, asB_bl, j_ii, j_ib, j_ss, j_tt, gLt, gLe, gGt, gGe, gCmp, gAdd, gSubI, gMul, gMod, gDiv, gEq, gNe, gEqB, refD, scalEq, gLen, gAbs, gMax, gMin, gTuple, gIxS, tupOf, outS, fin_same, thenG, loopS, truD_bl, truD_tup, fgTup, fgCons, fgNil, hin]
      · simp [h] at hin
        simp [yI, h, fnF, fnK, fSeq, fRet, fRetN, fAsg, fgName, fDrop, fNext, fNever, fIfS, fPar, fFor, fAndV, fOrV, fNotV, fNotW, fAnd, fOr, fNot, fTest, fTru, fIf, fChain, fOp, fUn, fCB, fCons, fNil, fTup, fLst, fCall, fVar, fC, fSl, fPart, fNoPart, fBM, fM0, fM1, mAsk, fFld, fMeth, fPropN, fCMeth, fDNew, fDGet2, fDGet, fDPut, fLc, fYes, fiList, fiTup, bind_ok, thenS_ok, asB_bl, j_ii, j_ib, j_ss, j_tt, gLt, gLe, gGt, gGe, gCmp, gAdd, gSubI, gMul, gMod, gDiv, gEq, gNe, gEqB, refD, scalEq, gLen, gAbs, gMax, gMin, gTuple, gIxS, tupOf, outS, fin_same, thenG, loopS, truD_bl, truD_tup, fgTup, fgCons, fgNil, hin]
  rw [fm_y, List.nil_append] at hlc
  have hz : (a.map D.int).length + ((l.filter fun i => !decide (i ∈ a)).map D.int).length ≤ sizeLine := size600 (by
    have := List.length_filter_le (fun i => !decide (i ∈ a)) l
    simp only [List.length_map]
    omega)
  have hadd : (addN a l).map D.int = a.map .int ++ (l.filter fun i => !decide (i ∈ a)).map .int := by simp [addN]
  refine ⟨X ++ [.lst ((l.filter fun i => !decide (i ∈ a)).map .int)], ?_⟩
  rw [hadd]
  generalize (l.filter fun i => !decide (i ∈ a)).map D.int = Z at *
  have tt : tyM "list" (.ref M0.length) (M0 ++ .lst (a.map .int) :: X) = true := ty_lst
  have q2 : mExtend (.ref M0.length) [.ref (M0 ++ AO.lst (a.map .int) :: X).length] ((M0 ++ AO.lst (a.map .int) :: X) ++ [AO.lst Z]) = .ok .non (M0 ++ .lst (a.map .int ++ Z) :: (X ++ [.lst Z])) := by
    have hlt : M0.length < (M0 ++ AO.lst (a.map .int) :: X).length := by simp
    have a1 : ((M0 ++ AO.lst (a.map .int) :: X) ++ [AO.lst Z])[M0.length]? = some (.lst (a.map .int)) := by rw [List.getElem?_append_left hlt, g0]
    have a2 : ((M0 ++ AO.lst (a.map .int) :: X) ++ [AO.lst Z])[(M0 ++ AO.lst (a.map .int) :: X).length]? = some (.lst Z) := List.getElem?_concat_length
    have a3 : ((M0 ++ AO.lst (a.map .int) :: X) ++ [AO.lst Z]).set M0.length (.lst (a.map .int ++ Z)) = M0 ++ .lst (a.map .int ++ Z) :: (X ++ [AO.lst Z]) := by
      rw [List.set_append_left _ _ hlt, u0, List.append_assoc]; rfl
    simp only [mExtend, a1, G.listOf, a2, hz, if_true, a3]
  generalize M0 ++ AO.lst (a.map .int) :: X = M at *
  simp [L__law_after_jobs_1, fnF, fnK, fSeq, fRet, fRetN, fAsg, fgName, fDrop, fNext, fNever, fIfS, fPar, fFor, fAndV, fOrV, fNotV, fNotW, fAnd, fOr, fNot, fTest, fTru, fIf, fChain, fOp, fUn, fCB, fCons, fNil, fTup, fLst, fCall, fVar, fC, fSl, fPart, fNoPart, fBM, fM0, fM1, mAsk, fFld, fMeth, fPropN, fCMeth, fDNew, fDGet2, fDGet, fDPut, fLc, fYes, fiList, fiTup, bind_ok, thenS_ok, asB_bl, j_ii, j_ib, j_ss, j_tt, gLt, gLe, gGt, gGe, gCmp, gAdd, gSubI, gMul, gMod, gDiv, gEq, gNe, gEqB, refD, scalEq, gLen, gAbs, gMax, gMin, gTuple, gIxS, tupOf, outS, fin_same, thenG, loopS, truD_bl, truD_tup, fgTup, fgCons, fgNil, fBM, tt, hr, itmOf, wipeD, hlc, q2]
theorem addN_len {a l : List Int} : (addN a l).length ≤ a.length + l.length := by
  have := List.length_filter_le (fun i => !decide (i ∈ a)) l
  simp only [addN, List.length_append]
  omega
theorem isTup_op {w : Str} {b : Bool} {M} : gIn b (.str w) (.tup [.str (Str.ofString "and"), .str (Str.ofString "or")]) M = .ok (.bl (b != isOp w)) M := in_op
theorem e_after : ∀ (h : Nat) (v : D), Fo h v → ∀ M, F__law_after_jobs_n (h + 1) [v] M = .ok (.lst ((can (jb v)).map .int)) M := by
  intro h
  induction h with
  | zero =>
    intro v f M
    cases f with
    | @«at» h w i a b =>
      have z1 : 1 ≤ sizeLine := size600 (by decide)
      have z2 : 2 ≤ sizeLine := size600 (by decide)
      have hc : can (jb (.tup [.str w, .int i])) = [i] := by
        simp [jb, jbL]
        have : ∀ i ∈ Js, can [i] = [i] := by decide
        exact this i b
      rw [hc]
      have hf : fin M (.ok (.ref (M.length + 1)) (M ++ [.lst [], .lst [.int i]])) = .ok (.lst [.int i]) M := by
        have : frz (M ++ [.lst [], .lst [.int i]]) M.length frzN (.ref (M.length + 1)) = some (.lst [.int i]) := by
          unfold frzN frz
          rw [if_neg (by simp [D.clo])]
          simp [frzL_clo]
        simp only [fin, okOld_app, if_true, this, List.take_left]
      simp [F__law_after_jobs_n, F__law_after_jobs_b, fnF, fnK, fSeq, fRet, fRetN, fAsg, fgName, fDrop, fNext, fNever, fIfS, fPar, fFor, fAndV, fOrV, fNotV, fNotW, fAnd, fOr, fNot, fTest, fTru, fIf, fChain, fOp, fUn, fCB, fCons, fNil, fTup, fLst, fCall, fVar, fC, fSl, fPart, fNoPart, fBM, fM0, fM1, mAsk, fFld, fMeth, fPropN, fCMeth, fDNew, fDGet2, fDGet, fDPut, fLc, fYes, fiList, fiTup, bind_ok, thenS_ok, asB_bl, j_ii, j_ib, j_ss, j_tt, gLt, gLe, gGt, gGe, gCmp, gAdd, gSubI, gMul, gMod, gDiv, gEq, gNe, gEqB, refD, scalEq, gLen, gAbs, gMax, gMin, gTuple, gIxS, tupOf, outS, fin_same, thenG, loopS, truD_bl, truD_tup, fgTup, fgCons, fgNil, in_op, at_op a, atI, ixN, z1, z2, hf]
  | succ h ih =>
    intro v f M
    cases f with
    | @«at» h w i a b =>
      have z1 : 1 ≤ sizeLine := size600 (by decide)
      have z2 : 2 ≤ sizeLine := size600 (by decide)
      have hc : can (jb (.tup [.str w, .int i])) = [i] := by
        simp [jb, jbL]
        have : ∀ i ∈ Js, can [i] = [i] := by decide
        exact this i b
      rw [hc]
      have hf : fin M (.ok (.ref (M.length + 1)) (M ++ [.lst [], .lst [.int i]])) = .ok (.lst [.int i]) M := by
        have : frz (M ++ [.lst [], .lst [.int i]]) M.length frzN (.ref (M.length + 1)) = some (.lst [.int i]) := by
          unfold frzN frz
          rw [if_neg (by simp [D.clo])]
          simp [frzL_clo]
        simp only [fin, okOld_app, if_true, this, List.take_left]
      rw [F__law_after_jobs_n]
      simp [F__law_after_jobs_b, fnF, fnK, fSeq, fRet, fRetN, fAsg, fgName, fDrop, fNext, fNever, fIfS, fPar, fFor, fAndV, fOrV, fNotV, fNotW, fAnd, fOr, fNot, fTest, fTru, fIf, fChain, fOp, fUn, fCB, fCons, fNil, fTup, fLst, fCall, fVar, fC, fSl, fPart, fNoPart, fBM, fM0, fM1, mAsk, fFld, fMeth, fPropN, fCMeth, fDNew, fDGet2, fDGet, fDPut, fLc, fYes, fiList, fiTup, bind_ok, thenS_ok, asB_bl, j_ii, j_ib, j_ss, j_tt, gLt, gLe, gGt, gGe, gCmp, gAdd, gSubI, gMul, gMod, gDiv, gEq, gNe, gEqB, refD, scalEq, gLen, gAbs, gMax, gMin, gTuple, gIxS, tupOf, outS, fin_same, thenG, loopS, truD_bl, truD_tup, fgTup, fgCons, fgNil, in_op, at_op a, atI, ixN, z1, z2, hf]
    | @nd h' w ps a b c d =>
      have z0 : 0 ≤ sizeLine := Nat.zero_le _
      have z2 : 2 ≤ sizeLine := size600 (by decide)
      rw [F__law_after_jobs_n]
      generalize hrec : F__law_after_jobs_n (h + 1) = rec at *
      obtain ⟨δ', M', h1, x2, x3, found, Y, rfl, rfl, nf, lf, mf⟩ := for_ex (chk := fun _ => true) (g := fgName 2) (b := L__law_after_jobs_1 rec) (id : D → D)
        (fun rest δ M' => ∃ x2 x3 found Y, δ = [some (.tup [.str w, .tup ps]), some (.ref M.length), x2, x3] ∧ M' = M ++ .lst (found.map .int) :: Y ∧ found.Nodup ∧ (∀ p ∈ rest, Fo h p) ∧ rest.length * 4 + found.length ≤ 12 ∧ (∀ i, i ∈ jbL ps ↔ i ∈ found ∨ i ∈ jbL rest))
        (fun _ _ _ _ => rfl)
        (fun p r δ M' ⟨x2, x3, found, Y, e1, e2, nf, hp, hl, hm⟩ => by
          subst e1
          subst e2
          have fp := hp p (List.mem_cons_self ..)
          simp only [List.length_cons] at hl
          obtain ⟨Y', e⟩ := e_step (rec := rec) (M0 := M) (X := Y) (v0 := .tup [.str w, .tup ps]) (p := p) (a := found) (l := can (jb p)) (x3 := x3) (fun M => ih p fp M) can_len (by omega)
          have al := addN_len (a := found) (l := can (jb p))
          have cl := can_len (l := jb p)
          refine ⟨_, _, _, _, rfl, .inl e, some p, x3, _, Y', rfl, rfl, add_nd nf can_nd, (fun q hq => hp q (List.mem_cons_of_mem _ hq)), by omega, fun i => ?_⟩
          rw [hm, add_mem, can_mem fp.js]
          simp [jbL, or_assoc])
        ps [some (.tup [.str w, .tup ps]), some (.ref M.length), none, none] (M ++ [.lst []]) ⟨none, none, [], [], rfl, rfl, by simp, d, by simp; omega, by simp⟩
      obtain ⟨lf, mf⟩ := mf
      rw [List.map_id] at h1
      have hj : jb (.tup [.str w, .tup ps]) = jbL ps := by simp [jb, jbL]
      have hs : sortI found = can (jbL ps) := sort_can nf (fun i => by rw [mf]; simp [jbL]) (by rw [← hj]; exact (Fo.nd a b c d).js)
      rw [hj]
      have hf : fin M (.ok (.ref (M ++ AO.lst (found.map .int) :: Y).length) (M ++ AO.lst (found.map .int) :: Y ++ [.lst ((can (jbL ps)).map .int)])) = .ok (.lst ((can (jbL ps)).map .int)) M := by
        have q : frz (M ++ AO.lst (found.map .int) :: Y ++ [.lst ((can (jbL ps)).map .int)]) M.length frzN (.ref (M ++ AO.lst (found.map .int) :: Y).length) = some (.lst ((can (jbL ps)).map .int)) := by
          unfold frzN frz
          rw [if_neg (by simp [D.clo])]
          simp only [List.getElem?_concat_length, frzL_clo clo_ints, Option.map_some]
        have q2 : okOld M (M ++ AO.lst (found.map .int) :: Y ++ [.lst ((can (jbL ps)).map .int)]) = true := by rw [List.append_assoc]; exact okOld_app _ _
        simp only [fin, q2, if_true, q]
        simp
      have gs : gSortL [.ref M.length] (M ++ AO.lst (found.map .int) :: Y) = .ok (.ref (M ++ AO.lst (found.map .int) :: Y).length) (M ++ AO.lst (found.map .int) :: Y ++ [.lst ((can (jbL ps)).map .int)]) := by
        simp only [gSortL, G.listOf, g0, ints_of, hs]
      generalize M ++ AO.lst (found.map .int) :: Y = N at *
      simp [F__law_after_jobs_b, fnF, fnK, fSeq, fRet, fRetN, fAsg, fgName, fDrop, fNext, fNever, fIfS, fPar, fFor, fAndV, fOrV, fNotV, fNotW, fAnd, fOr, fNot, fTest, fTru, fIf, fChain, fOp, fUn, fCB, fCons, fNil, fTup, fLst, fCall, fVar, fC, fSl, fPart, fNoPart, fBM, fM0, fM1, mAsk, fFld, fMeth, fPropN, fCMeth, fDNew, fDGet2, fDGet, fDPut, fLc, fYes, fiList, fiTup, bind_ok, thenS_ok, asB_bl, j_ii, j_ib, j_ss, j_tt, gLt, gLe, gGt, gGe, gCmp, gAdd, gSubI, gMul, gMod, gDiv, gEq, gNe, gEqB, refD, scalEq, gLen, gAbs, gMax, gMin, gTuple, gIxS, tupOf, outS, fin_same, thenG, loopS, truD_bl, truD_tup, fgTup, fgCons, fgNil, in_op, a, atI, ixN, z0, z2, h1, gs, hf]
theorem e_after3 {v : D} (f : Fo 3 v) (M : AH) : F__law_after_jobs [v] M = .ok (.lst ((can (jb v)).map .int)) M := e_after 4 v (f.mono (by decide)) M
end K30
namespace K30
open PySem L2 G
/-! ### drawing -/
theorem at_nth {xs : List D} {r : Int} (h0 : 0 ≤ r) (h1 : r < xs.length) : ∃ x ∈ xs, atI xs r = some x := by
  obtain ⟨j, rfl⟩ := Int.eq_ofNat_of_zero_le h0
  have hj : j < xs.length := by omega
  exact ⟨xs[j], List.getElem_mem hj, atI_nat (List.getElem?_eq_getElem hj)⟩
theorem log_small {n : Nat} (h0 : 0 < n) (h : n ≤ 100) : ((n : Int)).natAbs.log2 < 9000 := by
  have : n.log2 < 7 := (Nat.log2_lt (by omega)).mpr (by omega)
  simpa using (by omega : n.log2 < 9000)
theorem e_pick {d l : Nat} {M : AH} {xs : List D} (h : Dc d M) (hl : M[l]? = some (.lst xs)) (hne : l ≠ d) (h0 : 0 < xs.length) (hx : xs.length ≤ 100) (hc : ∀ x ∈ xs, D.clo M.length x = true) :
    ∃ x ∈ xs, ∃ M', Mv d M M' ∧ F__law_pick [.ref d, .ref l] M = .ok x M' := by
  obtain ⟨r, M', r0, r1, m, e⟩ := e_roll (n := (xs.length : Int)) h (by omega) (log_small h0 hx)
  obtain ⟨x, hm, ha⟩ := at_nth r0 r1
  have hl' : M'[l]? = some (.lst xs) := by rw [m.old hne, hl]
  have hf := fin_mv0 (v := x) m h.lt (hc x hm)
  exact ⟨x, hm, M', m, by simp [F__law_pick, fnF, fnK, fSeq, fRet, fRetN, fAsg, fgName, fDrop, fNext, fNever, fIfS, fPar, fFor, fAndV, fOrV, fNotV, fNotW, fAnd, fOr, fNot, fTest, fTru, fIf, fChain, fOp, fUn, fCB, fCons, fNil, fTup, fLst, fCall, fVar, fC, fSl, fPart, fNoPart, fBM, fM0, fM1, mAsk, fFld, fMeth, fPropN, fCMeth, fDNew, fDGet2, fDGet, fDPut, fLc, fYes, fiList, fiTup, bind_ok, thenS_ok, asB_bl, j_ii, j_ib, j_ss, j_tt, gLt, gLe, gGt, gGe, gCmp, gAdd, gSubI, gMul, gMod, gDiv, gEq, gNe, gEqB, refD, scalEq, gLen, gAbs, gMax, gMin, gTuple, gIxS, tupOf, outS, fin_same, thenG, loopS, truD_bl, truD_tup, fgTup, fgCons, fgNil, tupOf, G.listOf, hl, e, hl', ha, hf]⟩
theorem e_pickL {d : Nat} {M : AH} {xs : List D} (h : Dc d M) (h0 : 0 < xs.length) (hx : xs.length ≤ 100) (hc : ∀ x ∈ xs, D.clo M.length x = true) :
    ∃ x ∈ xs, ∃ M', Mv d M M' ∧ F__law_pick [.ref d, .lst xs] M = .ok x M' := by
  obtain ⟨r, M', r0, r1, m, e⟩ := e_roll (n := (xs.length : Int)) h (by omega) (log_small h0 hx)
  obtain ⟨x, hm, ha⟩ := at_nth r0 r1
  have hf := fin_mv0 (v := x) m h.lt (hc x hm)
  exact ⟨x, hm, M', m, by simp [F__law_pick, fnF, fnK, fSeq, fRet, fRetN, fAsg, fgName, fDrop, fNext, fNever, fIfS, fPar, fFor, fAndV, fOrV, fNotV, fNotW, fAnd, fOr, fNot, fTest, fTru, fIf, fChain, fOp, fUn, fCB, fCons, fNil, fTup, fLst, fCall, fVar, fC, fSl, fPart, fNoPart, fBM, fM0, fM1, mAsk, fFld, fMeth, fPropN, fCMeth, fDNew, fDGet2, fDGet, fDPut, fLc, fYes, fiList, fiTup, bind_ok, thenS_ok, asB_bl, j_ii, j_ib, j_ss, j_tt, gLt, gLe, gGt, gGe, gCmp, gAdd, gSubI, gMul, gMod, gDiv, gEq, gNe, gEqB, refD, scalEq, gLen, gAbs, gMax, gMin, gTuple, gIxS, tupOf, outS, fin_same, thenG, loopS, truD_bl, truD_tup, fgTup, fgCons, fgNil, tupOf, G.listOf, e, ha, hf]⟩
def wds : List D := [.str (Str.ofString "begun"), .str (Str.ofString "over"), .str (Str.ofString "well"), .str (Str.ofString "ill"), .str (Str.ofString "late"), .str (Str.ofString "left")]
def ops : List D := [.str (Str.ofString "and"), .str (Str.ofString "and"), .str (Str.ofString "or")]
theorem wds_at {x : D} (h : x ∈ wds) : ∃ w, x = .str w ∧ isAt w = true := by
  simp only [wds, List.mem_cons, List.not_mem_nil, or_false] at h
  rcases h with rfl | rfl | rfl | rfl | rfl | rfl <;> exact ⟨_, rfl, by decide⟩
theorem ops_op {x : D} (h : x ∈ ops) : ∃ w, x = .str w ∧ isOp w = true := by
  simp only [ops, List.mem_cons, List.not_mem_nil, or_false] at h
  rcases h with rfl | rfl | rfl <;> exact ⟨_, rfl, by decide⟩
theorem e_atom {d l : Nat} {M : AH} (h : Dc d M) (hl : M[l]? = some (.lst (Js.map .int))) (hne : l ≠ d) : ∃ v M', Fo 0 v ∧ Mv d M M' ∧ F__law_after_atom [.ref d, .ref l] M = .ok v M' := by
  have z2 : 2 ≤ sizeLine := size600 (by decide)
  have z6 : 6 ≤ sizeLine := size600 (by decide)
  have hlt := h.lt
  have hll : l < M.length := (List.getElem?_eq_some_iff.mp hl).1
  obtain ⟨x, hx, M1', n1, e1⟩ := e_pick (d := d) (l := M.length) (xs := wds) (h.app [.lst wds]) (by simp) (by omega) (by decide) (by decide) (fun x hx => by
    obtain ⟨w, rfl, _⟩ := wds_at hx
    simp)
  obtain ⟨M1, m1, rfl⟩ := n1.app hlt
  have h1 := m1.dc hlt
  have l1 := m1.len
  obtain ⟨y, hy, M2', n2, e2⟩ := e_pick (d := d) (l := l) (xs := Js.map .int) (h1.app [.lst wds]) (by rw [List.getElem?_append_left (by omega), m1.old hne, hl]) hne (by decide) (by decide) (fun x hx => by
    obtain ⟨i, _, rfl⟩ := List.mem_map.mp hx
    simp)
  obtain ⟨M2, m2, rfl⟩ := n2.app h1.lt
  obtain ⟨w, rfl, hw⟩ := wds_at hx
  obtain ⟨i, hi, rfl⟩ := List.mem_map.mp hy
  have hf := fin_mv (v := .tup [.str w, .int i]) [.lst wds] (m1.tr m2) hlt (by simp)
  refine ⟨_, M2, .at hw hi, m1.tr m2, ?_⟩
  simp only [wds] at e1 e2 hf
  simp [F__law_after_atom, fnF, fnK, fSeq, fRet, fRetN, fAsg, fgName, fDrop, fNext, fNever, fIfS, fPar, fFor, fAndV, fOrV, fNotV, fNotW, fAnd, fOr, fNot, fTest, fTru, fIf, fChain, fOp, fUn, fCB, fCons, fNil, fTup, fLst, fCall, fVar, fC, fSl, fPart, fNoPart, fBM, fM0, fM1, mAsk, fFld, fMeth, fPropN, fCMeth, fDNew, fDGet2, fDGet, fDPut, fLc, fYes, fiList, fiTup, bind_ok, thenS_ok, asB_bl, j_ii, j_ib, j_ss, j_tt, gLt, gLe, gGt, gGe, gCmp, gAdd, gSubI, gMul, gMod, gDiv, gEq, gNe, gEqB, refD, scalEq, gLen, gAbs, gMax, gMin, gTuple, gIxS, tupOf, outS, fin_same, thenG, loopS, truD_bl, truD_tup, fgTup, fgCons, fgNil, z2, z6, e1, e2, hf]
theorem rng1_ok {e : FE} {δ : AS} {M M1 : AH} {t : Nat} {j : Int} (he : e δ M = .ok (.int j) M1) (hj : j = t) (ht : t ≤ 100) : fiRng1 e δ M = .ok ((List.range t).map fun (i : Nat) => D.int (0 + (i : Int) * 1), fun _ => true) M1 := by
  subst hj
  have h1 : -(2 ^ 62 : Int) ≤ (t : Int) ∧ (t : Int) < 2 ^ 62 := ⟨by omega, by omega⟩
  unfold fiRng1
  rw [he, bind_ok]
  simp only [h1, and_self, if_true, rngD, Int.toNat_natCast]
end K30
namespace K30
open PySem L2 G
theorem e_drawn (k : Nat) : ∀ (n : Nat), k ≤ n → ∀ {d l : Nat} {M : AH}, Dc d M → M[l]? = some (.lst (Js.map .int)) → l ≠ d → ∃ v M', Fo k v ∧ Mv d M M' ∧ F__law_after_drawn_n (n + 1) [.ref d, .ref l, .int k] M = .ok v M' := by
  induction k with
  | zero =>
    intro n _ d l M h hl hne
    obtain ⟨v, M', f, m, e⟩ := e_atom h hl hne
    have hc : D.clo M.length v = true := by cases f; simp
    have hf := fin_mv0 (v := v) m h.lt hc
    rw [F__law_after_drawn_n]
    exact ⟨v, M', f, m, by simp [F__law_after_drawn_b, fnF, fnK, fSeq, fRet, fRetN, fAsg, fgName, fDrop, fNext, fNever, fIfS, fPar, fFor, fAndV, fOrV, fNotV, fNotW, fAnd, fOr, fNot, fTest, fTru, fIf, fChain, fOp, fUn, fCB, fCons, fNil, fTup, fLst, fCall, fVar, fC, fSl, fPart, fNoPart, fBM, fM0, fM1, mAsk, fFld, fMeth, fPropN, fCMeth, fDNew, fDGet2, fDGet, fDPut, fLc, fYes, fiList, fiTup, bind_ok, thenS_ok, asB_bl, j_ii, j_ib, j_ss, j_tt, gLt, gLe, gGt, gGe, gCmp, gAdd, gSubI, gMul, gMod, gDiv, gEq, gNe, gEqB, refD, scalEq, gLen, gAbs, gMax, gMin, gTuple, gIxS, tupOf, outS, fin_same, thenG, loopS, truD_bl, truD_tup, fgTup, fgCons, fgNil, e, hf]⟩
  | succ k ih =>
    intro n hn d l M h hl hne
    obtain ⟨n, rfl⟩ : ∃ j, n = j + 1 := ⟨n - 1, by omega⟩
    have z2 : 2 ≤ sizeLine := size600 (by decide)
    have z3 : 3 ≤ sizeLine := size600 (by decide)
    have hlt := h.lt
    have hll : l < M.length := (List.getElem?_eq_some_iff.mp hl).1
    obtain ⟨r, M1, r0, r1, m1, e1⟩ := e_roll (n := 3) h (by decide) (by decide)
    have h1 := m1.dc hlt
    have l1 := m1.len
    have hk : ¬ ((k : Int) + 1 ≤ 0) := by omega
    rw [F__law_after_drawn_n]
    generalize hrec : F__law_after_drawn_n (n + 1) = rec
    by_cases hr : r = 0
    · subst hr
      obtain ⟨v, M', f, m, e⟩ := e_atom (l := l) h1 (by rw [m1.old hne, hl]) hne
      have hc : D.clo M.length v = true := by cases f; simp
      have hf := fin_mv0 (v := v) (m1.tr m) h.lt hc
      exact ⟨v, M', f.mono (by omega), m1.tr m, by simp [F__law_after_drawn_b, fnF, fnK, fSeq, fRet, fRetN, fAsg, fgName, fDrop, fNext, fNever, fIfS, fPar, fFor, fAndV, fOrV, fNotV, fNotW, fAnd, fOr, fNot, fTest, fTru, fIf, fChain, fOp, fUn, fCB, fCons, fNil, fTup, fLst, fCall, fVar, fC, fSl, fPart, fNoPart, fBM, fM0, fM1, mAsk, fFld, fMeth, fPropN, fCMeth, fDNew, fDGet2, fDGet, fDPut, fLc, fYes, fiList, fiTup, bind_ok, thenS_ok, asB_bl, j_ii, j_ib, j_ss, j_tt, gLt, gLe, gGt, gGe, gCmp, gAdd, gSubI, gMul, gMod, gDiv, gEq, gNe, gEqB, refD, scalEq, gLen, gAbs, gMax, gMin, gTuple, gIxS, tupOf, outS, fin_same, thenG, loopS, truD_bl, truD_tup, fgTup, fgCons, fgNil, hk, e1, e, hf]⟩
    · obtain ⟨q, M2, q0, q1, m2, e2⟩ := e_roll (n := 2) h1 (by decide) (by decide)
      have h2 := m2.dc h1.lt
      have l2 := m2.len
      obtain ⟨t, ht, t2, t3⟩ : ∃ t : Nat, (2 : Int) + q = t ∧ 2 ≤ t ∧ t ≤ 3 := ⟨(2 + q).toNat, by omega, by omega, by omega⟩
      obtain ⟨ps, M3, p1, p2, p3, p4⟩ := lc_exm (chk := fun _ => true) (g := fgName 4) (t := fYes) (e := fCall rec (fCons (fVar 0) (fCons (fVar 1) (fCons (fOp gSubI (fVar 2) (fC (.int 1))) fNil))))
        (δ := [some (.ref d), some (.ref l), some (.int (k + 1)), none, none]) (fun i : Nat => D.int (0 + (i : Int) * 1)) (id : D → D) (fun M' => Mv d M2 M') (fun _ v => Fo k v)
        (fun _ _ => rfl)
        (fun i M3 m3 => by
          obtain ⟨v, M4, f, m4, e⟩ := ih n (by omega) (d := d) (l := l) (m3.dc h2.lt) (by rw [m3.old hne, m2.old hne, m1.old hne, hl]) hne
          rw [hrec] at e
          have : (k : Int) + 1 - 1 = k := by omega
          exact ⟨_, M3, rfl, M3, v, M4, rfl, by simp [fnF, fnK, fSeq, fRet, fRetN, fAsg, fgName, fDrop, fNext, fNever, fIfS, fPar, fFor, fAndV, fOrV, fNotV, fNotW, fAnd, fOr, fNot, fTest, fTru, fIf, fChain, fOp, fUn, fCB, fCons, fNil, fTup, fLst, fCall, fVar, fC, fSl, fPart, fNoPart, fBM, fM0, fM1, mAsk, fFld, fMeth, fPropN, fCMeth, fDNew, fDGet2, fDGet, fDPut, fLc, fYes, fiList, fiTup, bind_ok, thenS_ok, asB_bl, j_ii, j_ib, j_ss, j_tt, gLt, gLe, gGt, gGe, gCmp, gAdd, gSubI, gMul, gMod, gDiv, gEq, gNe, gEqB, refD, scalEq, gLen, gAbs, gMax, gMin, gTuple, gIxS, tupOf, outS, fin_same, thenG, loopS, truD_bl, truD_tup, fgTup, fgCons, fgNil, this, e], f, m3.tr m4⟩)
        (List.range t) [] M2 (size600 (by simp; omega)) h2.mv
      have hlen : (ps.map (·.2)).length = t := by
        have := congrArg List.length p1
        simpa using this
      have hall : ∀ m ∈ ps.map (·.2), Fo k m := fun m hm => by
        obtain ⟨p, hp, rfl⟩ := List.mem_map.mp hm
        exact p2 p hp
      have hmm : (ps.map fun p => id p.2) = ps.map (·.2) := rfl
      rw [hmm, List.nil_append] at p4
      generalize ps.map (·.2) = ds at p4 hlen hall
      have h3 := p3.dc h2.lt
      obtain ⟨x, hx, M4', n4, e4⟩ := e_pick (d := d) (l := M3.length + 1) (xs := ops) (h3.app [.lst ds, .lst ops]) (by simp) (by have := h3.lt; omega) (by decide) (by decide) (fun x hx => by
        obtain ⟨w, rfl, _⟩ := ops_op hx
        simp)
      obtain ⟨M4, m4, rfl⟩ := n4.app h3.lt
      obtain ⟨w, rfl, hw⟩ := ops_op hx
      have l3 := p3.len
      have l4 := m4.len
      have hclo : ∀ {j : Nat} {v : D}, Fo j v → ∀ n, D.clo n v = true := fun {j v} f n => by
        induction f with
        | «at» => simp
        | nd a b c d ih => simp; exact cloL_all ih
      have hcl : D.cloL M.length ds = true := cloL_all fun x hx => hclo (hall x hx) _
      have mm := ((m1.tr m2).tr p3).tr m4
      have hf := fin_mv (v := .tup [.str w, .tup ds]) [.lst ds, .lst ops] mm hlt (by simp [hcl])
      refine ⟨.tup [.str w, .tup ds], M4, .nd hw (by omega) (by omega) hall, mm, ?_⟩
      have hg : (M4 ++ [AO.lst ds, .lst ops])[M3.length]? = some (.lst ds) := by rw [← l4]; simp
      simp only [ops] at e4 hf hg
      have hrg := rng1_ok (e := fOp gAdd (fC (.int 2)) (fCall F__law_roll (fCons (fVar 0) (fCons (fC (.int 2)) fNil)))) (δ := [some (.ref d), some (.ref l), some (.int (k + 1)), none, none]) (M := M1) (M1 := M2) (j := 2 + q) (by simp [fnF, fnK, fSeq, fRet, fRetN, fAsg, fgName, fDrop, fNext, fNever, fIfS, fPar, fFor, fAndV, fOrV, fNotV, fNotW, fAnd, fOr, fNot, fTest, fTru, fIf, fChain, fOp, fUn, fCB, fCons, fNil, fTup, fLst, fCall, fVar, fC, fSl, fPart, fNoPart, fBM, fM0, fM1, mAsk, fFld, fMeth, fPropN, fCMeth, fDNew, fDGet2, fDGet, fDPut, fLc, fYes, fiList, fiTup, bind_ok, thenS_ok, asB_bl, j_ii, j_ib, j_ss, j_tt, gLt, gLe, gGt, gGe, gCmp, gAdd, gSubI, gMul, gMod, gDiv, gEq, gNe, gEqB, refD, scalEq, gLen, gAbs, gMax, gMin, gTuple, gIxS, tupOf, outS, fin_same, thenG, loopS, truD_bl, truD_tup, fgTup, fgCons, fgNil, e2]) ht (by omega)
      generalize hw2 : fOp gAdd (fC (.int 2)) (fCall F__law_roll (fCons (fVar 0) (fCons (fC (.int 2)) fNil))) = ee at hrg
      generalize ((List.range t).map fun (i : Nat) => D.int (0 + (i : Int) * 1)) = R at hrg p4
      simp [F__law_after_drawn_b, hw2, fnF, fnK, fSeq, fRet, fRetN, fAsg, fgName, fDrop, fNext, fNever, fIfS, fPar, fFor, fAndV, fOrV, fNotV, fNotW, fAnd, fOr, fNot, fTest, fTru, fIf, fChain, fOp, fUn, fCB, fCons, fNil, fTup, fLst, fCall, fVar, fC, fSl, fPart, fNoPart, fBM, fM0, fM1, mAsk, fFld, fMeth, fPropN, fCMeth, fDNew, fDGet2, fDGet, fDPut, fLc, fYes, fiList, fiTup, bind_ok, thenS_ok, asB_bl, j_ii, j_ib, j_ss, j_tt, gLt, gLe, gGt, gGe, gCmp, gAdd, gSubI, gMul, gMod, gDiv, gEq, gNe, gEqB, refD, scalEq, gLen, gAbs, gMax, gMin, gTuple, gIxS, tupOf, outS, fin_same, thenG, loopS, truD_bl, truD_tup, fgTup, fgCons, fgNil, hk, e1, hr, hrg, wipeD, p4, z2, z3, e4, G.listOf, hg, hf]
theorem e_drawn3 {d l : Nat} {M : AH} (h : Dc d M) (hl : M[l]? = some (.lst (Js.map .int))) (hne : l ≠ d) : ∃ v M', Fo 3 v ∧ Mv d M M' ∧ F__law_after_drawn [.ref d, .ref l, .int 3] M = .ok v M' := e_drawn 3 4 (by decide) h hl hne
end K30
namespace K30
open PySem L2 G
/-! ### bent values -/
abbrev s_ (x : String) : D := .str (Str.ofString x)
def one : D := .tup [s_ "begun", .int 1]
def many : D := .tup [s_ "and", .tup [.tup [s_ "or", .tuq (List.replicate 19 one)], .tup [s_ "or", .tuq (List.replicate 19 one)], .tup [s_ "or", .tuq (List.replicate 18 one)]]]
def deepD (f : D) : Nat → D
  | 0 => f
  | n + 1 => .tup [s_ "and", .tup [deepD f n, one]]
def lefts (l : List Int) : List D := l.map fun i => .tup [s_ "left", .int i]
/-- the bent values but those at 0, 3, 21 and 22 -/
def bt1 (f : D) : List D := [.tup [s_ "not", f], .tup [s_ "and", .tup [f]]]
def bt2 (w : Str) (b f : D) : List D := [.tup [s_ "and", .tup [f, .non]], .tup [s_ "or", .tup []], .tup [s_ "or", .tuq (List.replicate 21 one)],
  .tup [s_ "gone", .int 1], .tup [s_ "waiting", .int 1], .tup [s_ "well", .int 0], .tup [s_ "well", .int 1000001], .tup [s_ "well", .bl true], .tup [s_ "well", s_ "1"], .tup [s_ "well"],
  deepD f 8, .tup [s_ "and", .tup (lefts [1, 2, 3, 4, 5, 6, 7])], .tup [s_ "well", .int 1, .int 2], .non, s_ "well(1)", .tup [s_ "or", .tup [many, one]], .tuq [.str w, b, f]]
def bentD (w : Str) (b : D) (f : D) : List D := [.lst [.str w, b]] ++ bt1 f ++ [.tup [s_ "or", .lst [f, f]]] ++ bt2 w b f ++ [.dct [] [], .lst [], .tup []]
theorem o_and : isOp (Str.ofString "and") = true := by decide
theorem o_or : isOp (Str.ofString "or") = true := by decide
theorem o_not : isOp (Str.ofString "not") = false := by decide
theorem a_not : isAt (Str.ofString "not") = false := by decide
theorem a_and : isAt (Str.ofString "and") = false := by decide
theorem a_or : isAt (Str.ofString "or") = false := by decide
theorem o_one : isOp (Str.ofString "begun") = false := by decide
theorem a_one : isAt (Str.ofString "begun") = true := by decide
theorem n_one : nodeV one = some true := by decide
theorem t_one : tupOf one = some [s_ "begun", .int 1] := rfl
theorem t_tup {xs : List D} : tupOf (.tup xs) = some xs := rfl
theorem n_deep {f : D} {n : Nat} : nodeV (deepD f (n + 1)) = some true := by simp [deepD, nodeV, nodeL, o_and]
theorem t_deep {f : D} {n : Nat} : tupOf (deepD f (n + 1)) = some [s_ "and", .tup [deepD f n, one]] := rfl
theorem put_len0 {ks : List Key} {xs : List D} {i : Int} : (putT ks xs i).1.length ≤ ks.length + 1 := by
  unfold putT
  exact put_len
theorem chk_deep {f : D} : ∀ (n k : Nat) (d nd : Int) (ks : List Key) (xs : List D), d + n = 9 → 0 ≤ nd → nd + 2 * n ≤ 50 → ks.length + n ≤ 100 → 0 < k → chk (2 * n + k) [(deepD f n, d)] nd ks xs = some false
  | 0, k, d, nd, ks, xs, h1, h2, h3, h4, h5 => by
    obtain ⟨k, rfl⟩ : ∃ j, k = j + 1 := ⟨k - 1, by omega⟩
    have : (8 : Int) < d := by simp at h1; omega
    simp [chk, this]
  | n + 1, k, d, nd, ks, xs, h1, h2, h3, h4, h5 => by
    have e : 2 * (n + 1) + k = (2 * n + k) + 1 + 1 := by omega
    have c1 : ¬ (60 : Int) < nd + 1 := by omega
    have c2 : ¬ (8 : Int) < d := by omega
    have c3 : ¬ (60 : Int) < nd + 1 + 1 := by omega
    have l := put_len0 (ks := ks) (xs := xs) (i := 1)
    have hk : ks.length < 500 := by omega
    rw [e]
    have ih := chk_deep (f := f) n k (d + 1) (nd + 1 + 1) (putT ks xs 1).1 (putT ks xs 1).2 (by push_cast at h1; omega) (by omega) (by omega) (by omega) h5
    by_cases c4 : (8 : Int) < d + 1
    · simp [chk, c1, c2, c3, c4, n_deep, t_deep, a_and, t_tup, n_one, t_one, a_one, hk]
    · simp [chk, c1, c2, c3, c4, n_deep, t_deep, a_and, t_tup, n_one, t_one, a_one, hk, ih]
theorem e_bent_bad {w : Str} {b f : D} (hf : f = .tup [.str w, b]) : ∀ v ∈ bentD w b f, chk 1000 [(v, 1)] 0 [] [] = some false := by
  have hd := chk_deep (f := f) 8 984 1 0 [] [] (by decide) (by decide) (by decide) (by decide) (by decide)
  intro v hv
  simp only [bentD, bt1, bt2, List.cons_append, List.nil_append, List.mem_cons, List.not_mem_nil, or_false] at hv
  rcases hv with rfl | rfl | rfl | rfl | rfl | rfl | rfl | rfl | rfl | rfl | rfl | rfl | rfl | rfl | rfl | rfl | rfl | rfl | rfl | rfl | rfl | rfl | rfl | rfl
  all_goals first | exact hd | (decide +kernel) | (simp [chk, nodeV, nodeL, o_and, o_or, o_not, a_not, a_and, a_or, tupOf]; done)
end K30
namespace K30
open PySem L2 G
theorem frzL_app {M : AH} {n k : Nat} {ys ys' : List D} (h2 : frzL M n k ys = some ys') : ∀ {xs xs' : List D}, frzL M n k xs = some xs' → frzL M n k (xs ++ ys) = some (xs' ++ ys')
  | [], xs', h => by simp [frzL] at h; subst h; simpa using h2
  | x :: xs, xs', h => by
    simp only [frzL] at h
    split at h
    · rename_i d' ds' e1 e2
      cases h
      rw [List.cons_append, frzL]
      simp [e1, frzL_app h2 e2]
    · cases h
theorem frzL_one {M : AH} {n k : Nat} {x x' : D} (h : frz M n k x = some x') : frzL M n k [x] = some [x'] := by simp [frzL, h]
theorem frz_lst {M : AH} {n k i : Nat} {xs xs' : List D} (h : n ≤ i) (e : M[i]? = some (.lst xs)) (h2 : frzL M n k xs = some xs') : frz M n (k + 1) (.ref i) = some (.lst xs') := by
  unfold frz
  rw [if_neg (by simp [D.clo]; omega)]
  simp [e, h2]
theorem frz_dct {M : AH} {n k i : Nat} (h : n ≤ i) (e : M[i]? = some (.dct [] [])) : frz M n (k + 1) (.ref i) = some (.dct [] []) := by
  unfold frz
  rw [if_neg (by simp [D.clo]; omega)]
  simp [e, frzL]
theorem frz_tp {M : AH} {n k : Nat} {xs xs' : List D} (h2 : frzL M n k xs = some xs') (hn : D.cloL n xs = false) : frz M n (k + 1) (.tup xs) = some (.tup xs') := by
  unfold frz
  rw [if_neg (by simp [D.clo, hn])]
  simp [h2]
def bx1 (f : D) (i j : Nat) : List D := [.ref i, .tup [s_ "not", f], .tup [s_ "and", .tup [f]], .tup [s_ "or", .ref j], .tup [s_ "and", .tup [f, .non]], .tup [s_ "or", .tup []], .tup [s_ "or", .tuq (List.replicate 21 one)]]
def bx2 : List D := [.tup [s_ "gone", .int 1], .tup [s_ "waiting", .int 1], .tup [s_ "well", .int 0], .tup [s_ "well", .int 1000001], .tup [s_ "well", .bl true], .tup [s_ "well", s_ "1"], .tup [s_ "well"]]
def bx3 (f : D) : List D := [deepD f 8, .tup [s_ "and", .tup (lefts [1, 2, 3, 4, 5, 6, 7])], .tup [s_ "well", .int 1, .int 2], .non, s_ "well(1)"]
def bx4 (w : Str) (b f : D) (i j : Nat) : List D := [.tup [s_ "or", .tup [many, one]], .tuq [.str w, b, f], .ref i, .ref j, .tup []]
theorem zz {n : Nat} (h : n ≤ 600) : n ≤ sizeLine := size600 h
theorem mulT_one {k : Nat} {M : AH} (h2 : 2 ≤ k) (h : k ≤ 1000) : gMulT (.tup [one]) (.int k) M = .ok (.tuq (List.replicate k one)) M := by
  have h2' : (2 : Int) ≤ k := by omega
  have h' : (k : Int) ≤ 1000 := by omega
  have e : (List.replicate k [one]).flatten = List.replicate k one := by
    clear h2 h h2' h'
    induction k with
    | zero => rfl
    | succ k ih => rw [List.replicate_succ, List.flatten_cons, ih]; rfl
  simp [gMulT, tupOf, h2', h', e]
theorem e_loop {d : Nat} {f : D} {M : AH} : ∃ x4, fForL (fun _ => true) (fgName 4) L__law_bent_1 (rngD 0 1 8) [some (.ref d), some f, some one, some f, none, none, none, none] M = .nx [some (.ref d), some f, some one, some (deepD f 8), x4, none, none, none] M := by
  have z2 : 2 ≤ sizeLine := zz (by decide)
  obtain ⟨δ', M', h1, x4, n, rfl, rfl, hn⟩ := for_ex (chk := fun _ => true) (g := fgName 4) (b := L__law_bent_1) (fun i : Nat => D.int (0 + (i : Int) * 1))
    (fun rest δ M' => ∃ x4 n, δ = [some (.ref d), some f, some one, some (deepD f n), x4, none, none, none] ∧ M' = M ∧ n + rest.length = 8)
    (fun _ _ _ _ => rfl)
    (fun i r δ M' ⟨x4, n, h, h', hn⟩ => by
      subst h
      subst h'
      simp only [List.length_cons] at hn
      exact ⟨_, _, [some (.ref d), some f, some one, some (deepD f (n + 1)), some (.int (0 + (i : Int) * 1)), none, none, none], _, rfl, .inl (by simp [L__law_bent_1, fnF, fnK, fSeq, fRet, fRetN, fAsg, fgName, fDrop, fNext, fNever, fIfS, fPar, fFor, fAndV, fOrV, fNotV, fNotW, fAnd, fOr, fNot, fTest, fTru, fIf, fChain, fOp, fUn, fCB, fCons, fNil, fTup, fLst, fCall, fVar, fC, fSl, fPart, fNoPart, fBM, fM0, fM1, mAsk, fFld, fMeth, fPropN, fCMeth, fDNew, fDGet2, fDGet, fDPut, fLc, fYes, fiList, fiTup, bind_ok, thenS_ok, asB_bl, j_ii, j_ib, j_ss, j_tt, gLt, gLe, gGt, gGe, gCmp, gAdd, gSubI, gMul, gMod, gDiv, gEq, gNe, gEqB, refD, scalEq, gLen, gAbs, gMax, gMin, gTuple, gIxS, tupOf, outS, fin_same, thenG, loopS, truD_bl, truD_tup, fgTup, fgCons, fgNil, z2, deepD]), _, n + 1, rfl, rfl, by omega⟩)
    (List.range 8) [some (.ref d), some f, some one, some f, none, none, none, none] M ⟨none, 0, rfl, rfl, by simp⟩
  have : n = 8 := by simpa using hn
  subst this
  exact ⟨x4, h1⟩
theorem e_left {δ1 : AS} {M : AH} {a0 a1 a2 a3 a4 a5 a7 : Option D} : fLcL (fun _ => true) (fgName 6) fYes (fTup (fCons (fC (.str (Str.ofString "left"))) (fCons (fVar 6) fNil))) [a0, a1, a2, a3, a4, a5, none, a7] (rngD 1 1 7) [] M = .ok (lefts [1, 2, 3, 4, 5, 6, 7]) M := by
  have z2 : 2 ≤ sizeLine := zz (by decide)
  have e : rngD 1 1 7 = ([1, 2, 3, 4, 5, 6, 7] : List Int).map D.int := by rfl
  rw [e, lc_map (fun x => .tup [s_ "left", x]) rfl _ (zz (by decide)) fun x hx => ⟨[a0, a1, a2, a3, a4, a5, some x, a7], rfl, rfl, by simp [fnF, fnK, fSeq, fRet, fRetN, fAsg, fgName, fDrop, fNext, fNever, fIfS, fPar, fFor, fAndV, fOrV, fNotV, fNotW, fAnd, fOr, fNot, fTest, fTru, fIf, fChain, fOp, fUn, fCB, fCons, fNil, fTup, fLst, fCall, fVar, fC, fSl, fPart, fNoPart, fBM, fM0, fM1, mAsk, fFld, fMeth, fPropN, fCMeth, fDNew, fDGet2, fDGet, fDPut, fLc, fYes, fiList, fiTup, bind_ok, thenS_ok, asB_bl, j_ii, j_ib, j_ss, j_tt, gLt, gLe, gGt, gGe, gCmp, gAdd, gSubI, gMul, gMod, gDiv, gEq, gNe, gEqB, refD, scalEq, gLen, gAbs, gMax, gMin, gTuple, gIxS, tupOf, outS, fin_same, thenG, loopS, truD_bl, truD_tup, fgTup, fgCons, fgNil, z2]⟩]
  rfl
end K30
namespace K30
open PySem L2 G
theorem rg8 {δ : AS} {M : AH} : fiRng1 (fC (.int 8)) δ M = .ok (rngD 0 1 8, fun _ => true) M := by
  have h1 : -(2 ^ 62 : Int) ≤ 8 ∧ (8 : Int) < 2 ^ 62 := by decide
  simp only [fiRng1, fC, bind_ok, h1, and_self, if_true]
  rfl
theorem rg18 {δ : AS} {M : AH} : fiRng2 (fC (.int 1)) (fC (.int 8)) δ M = .ok (rngD 1 1 7, fun _ => true) M := by
  have h1 : -(2 ^ 62 : Int) ≤ 1 ∧ (1 : Int) < 2 ^ 62 ∧ -(2 ^ 62 : Int) ≤ 8 ∧ (8 : Int) < 2 ^ 62 := by decide
  simp only [fiRng2, fC, bind_ok, h1, and_self, if_true]
  rfl
def hp (w : Str) (b f : D) (n : Nat) : AH := [.lst [.str w, b], .lst [f, f], .lst (bx1 f n (n + 1)), .lst bx2, .lst (bx1 f n (n + 1) ++ bx2), .lst (lefts [1, 2, 3, 4, 5, 6, 7]), .lst (bx3 f), .lst (bx1 f n (n + 1) ++ bx2 ++ bx3 f), .dct [] [], .lst [], .lst (bx4 w b f (n + 8) (n + 9)), .lst (bx1 f n (n + 1) ++ bx2 ++ bx3 f ++ bx4 w b f (n + 8) (n + 9))]
theorem e_frz {w : Str} {b f : D} {M : AH} (hf : f = .tup [.str w, b]) (hc : ∀ n, D.clo n f = true) : fin M (.ok (.ref (M.length + 11)) (M ++ hp w b f M.length)) = .ok (.lst (bentD w b f)) M := by
  have hb : ∀ n, D.clo n b = true := fun n => by have := hc n; rw [hf] at this; simpa using this
  have ho : ∀ n, D.clo n one = true := fun n => by simp [one]
  have hR : ∀ n k, D.cloL n (List.replicate k one) = true := fun n k => cloL_all fun d hd => by rw [List.eq_of_mem_replicate hd]; exact ho n
  have hd : ∀ n k, D.clo n (deepD f k) = true := fun n k => by
    induction k with
    | zero => exact hc n
    | succ k ih => simp [deepD, ih, ho]
  have hl : ∀ n, D.cloL n (lefts [1, 2, 3, 4, 5, 6, 7]) = true := fun n => by simp [lefts]
  have hm : ∀ n, D.clo n many = true := fun n => by simp [many, hR, ho]
  have i0 : ∀ j, (M ++ hp w b f M.length)[M.length + j]? = (hp w b f M.length)[j]? := fun j => by rw [List.getElem?_append_right (by omega)]; congr 1; omega
  have f0 : frz (M ++ hp w b f M.length) M.length 11 (.ref M.length) = some (.lst [.str w, b]) := frz_lst (by omega) (i0 0) (frzL_clo (by simp [hb]))
  have f1 : frz (M ++ hp w b f M.length) M.length 11 (.tup [s_ "or", .ref (M.length + 1)]) = some (.tup [s_ "or", .lst [f, f]]) := by
    refine frz_tp (k := 10) ?_ (by simp [D.clo])
    exact frzL_app (xs := [s_ "or"]) (xs' := [s_ "or"]) (frzL_one (frz_lst (k := 9) (by omega) (by rw [i0 1]; rfl) (frzL_clo (by simp [hc])))) (frzL_clo (by simp))
  have f2 : frz (M ++ hp w b f M.length) M.length 11 (.ref (M.length + 8)) = some (.dct [] []) := frz_dct (by omega) (by rw [i0 8]; rfl)
  have f3 : frz (M ++ hp w b f M.length) M.length 11 (.ref (M.length + 9)) = some (.lst []) := frz_lst (by omega) (by rw [i0 9]; rfl) (by simp [frzL])
  have hz : bx1 f M.length (M.length + 1) ++ bx2 ++ bx3 f ++ bx4 w b f (M.length + 8) (M.length + 9) =
      [.ref M.length] ++ (bt1 f ++ ([.tup [s_ "or", .ref (M.length + 1)]] ++ (bt2 w b f ++ ([.ref (M.length + 8)] ++ ([.ref (M.length + 9)] ++ [.tup []]))))) := by
    simp [bx1, bx2, bx3, bx4, bt1, bt2]
  have hL : frzL (M ++ hp w b f M.length) M.length 11 (bx1 f M.length (M.length + 1) ++ bx2 ++ bx3 f ++ bx4 w b f (M.length + 8) (M.length + 9)) = some (bentD w b f) := by
    rw [hz]
    have := frzL_app (frzL_app (frzL_app (frzL_app (frzL_app (frzL_app (frzL_clo (M := M ++ hp w b f M.length) (n := M.length) (k := 11) (ds := [.tup []]) (by simp)) (frzL_one f3)) (frzL_one f2)) (frzL_clo (ds := bt2 w b f) (by simp [bt2, hc, hd, hl, hm, hR, hb, ho]))) (frzL_one f1)) (frzL_clo (ds := bt1 f) (by simp [bt1, hc]))) (frzL_one f0)
    rw [this]
    simp [bentD]
  have hq : frz (M ++ hp w b f M.length) M.length frzN (.ref (M.length + 11)) = some (.lst (bentD w b f)) := frz_lst (k := 11) (by omega) (by rw [i0 11]; rfl) hL
  simp only [fin, okOld_app, if_true, hq, List.take_left]
theorem e_bent {d : Nat} {w : Str} {b f : D} {M : AH} (hf : f = .tup [.str w, b]) (hc : ∀ n, D.clo n f = true) : F__law_bent [.ref d, f] M = .ok (.lst (bentD w b f)) M := by
  obtain ⟨x4, e1⟩ := e_loop (d := d) (f := f) (M := M)
  have ht : ∀ M, gList [f] M = .ok (.ref M.length) (M ++ [.lst [.str w, b]]) := fun M => by subst hf; rfl
  have z0 : 0 ≤ sizeLine := Nat.zero_le _
  have z1 : 1 ≤ sizeLine := zz (by decide)
  have z2 : 2 ≤ sizeLine := zz (by decide)
  have z3 : 3 ≤ sizeLine := zz (by decide)
  have z5 : 5 ≤ sizeLine := zz (by decide)
  have z7 : 7 ≤ sizeLine := zz (by decide)
  have z14 : 14 ≤ sizeLine := zz (by decide)
  have z19 : 19 ≤ sizeLine := zz (by decide)
  have z24 : 24 ≤ sizeLine := zz (by decide)
  have m21 : ∀ M, gMulT (.tup [one]) (.int 21) M = .ok (.tuq (List.replicate 21 one)) M := fun M => mulT_one (k := 21) (M := M) (by decide) (by decide)
  have m19 : ∀ M, gMulT (.tup [one]) (.int 19) M = .ok (.tuq (List.replicate 19 one)) M := fun M => mulT_one (k := 19) (M := M) (by decide) (by decide)
  have m18 : ∀ M, gMulT (.tup [one]) (.int 18) M = .ok (.tuq (List.replicate 18 one)) M := fun M => mulT_one (k := 18) (M := M) (by decide) (by decide)
  have ad : ∀ M, gAdd f (.tup [f]) M = .ok (.tuq [.str w, b, f]) M := fun M => by subst hf; simp [gAdd, tupOf, z3]
  have hfin := e_frz (M := M) hf hc
  have adL : ∀ {N : AH} {i j : Nat} {xs ys : List D}, N[i]? = some (.lst xs) → N[j]? = some (.lst ys) → xs.length + ys.length ≤ sizeLine → gAdd (.ref i) (.ref j) N = .ok (.ref N.length) (N ++ [.lst (xs ++ ys)]) := fun {N i j xs ys} h1 h2 h3 => by
    simp only [gAdd, tupOf, G.listOf, h1, h2, h3, if_true]
  let N1 : AH := M ++ [.lst [.str w, b], .lst [f, f], .lst (bx1 f M.length (M.length + 1))]
  let N2 : AH := N1 ++ [.lst bx2]
  let N3 : AH := N2 ++ [.lst (bx1 f M.length (M.length + 1) ++ bx2)]
  let N4 : AH := N3 ++ [.lst (lefts [1, 2, 3, 4, 5, 6, 7]), .lst (bx3 f)]
  let N5 : AH := N4 ++ [.lst (bx1 f M.length (M.length + 1) ++ bx2 ++ bx3 f)]
  let N6 : AH := N5 ++ [.dct [] [], .lst [], .lst (bx4 w b f (M.length + 8) (M.length + 9))]
  have a1 : gAdd (.ref (M.length + 2)) (.ref (M.length + 3)) N2 = .ok (.ref (M.length + 4)) N3 := by
    have := adL (N := N2) (i := M.length + 2) (j := M.length + 3) (xs := bx1 f M.length (M.length + 1)) (ys := bx2) (by simp [N2, N1]) (by simp [N2, N1]) (by simpa [bx1, bx2] using z14)
    simpa [N3, N2, N1] using this
  have a2 : gAdd (.ref (M.length + 4)) (.ref (M.length + 6)) N4 = .ok (.ref (M.length + 7)) N5 := by
    have := adL (N := N4) (i := M.length + 4) (j := M.length + 6) (xs := bx1 f M.length (M.length + 1) ++ bx2) (ys := bx3 f) (by simp [N4, N3, N2, N1]) (by simp [N4, N3, N2, N1]) (by simpa [bx1, bx2, bx3] using z19)
    simpa [N5, N4, N3, N2, N1] using this
  have a3 : gAdd (.ref (M.length + 7)) (.ref (M.length + 10)) N6 = .ok (.ref (M.length + 11)) (M ++ hp w b f M.length) := by
    have := adL (N := N6) (i := M.length + 7) (j := M.length + 10) (xs := bx1 f M.length (M.length + 1) ++ bx2 ++ bx3 f) (ys := bx4 w b f (M.length + 8) (M.length + 9)) (by simp [N6, N5, N4, N3, N2, N1]) (by simp [N6, N5, N4, N3, N2, N1]) (by simpa [bx1, bx2, bx3, bx4] using z24)
    simpa [N6, N5, N4, N3, N2, N1, hp] using this
  simp only [N6, N5, N4, N3, N2, N1, bx1, bx2, bx3, bx4, one, many, List.append_assoc, List.cons_append, List.nil_append] at a1 a2 a3 e1 m21 m19 m18
  have el := fun a0 a1 a2 a3 a4 a5 a7 M => e_left (δ1 := []) (M := M) (a0 := a0) (a1 := a1) (a2 := a2) (a3 := a3) (a4 := a4) (a5 := a5) (a7 := a7)
  generalize List.replicate 21 (D.tup [s_ "begun", .int 1]) = R21 at *
  generalize List.replicate 19 (D.tup [s_ "begun", .int 1]) = R19 at *
  generalize List.replicate 18 (D.tup [s_ "begun", .int 1]) = R18 at *
  clear adL z14 z19 z24
  simp [F__law_bent, fnF, fnK, fSeq, fRet, fRetN, fAsg, fgName, fDrop, fNext, fNever, fIfS, fPar, fFor, fAndV, fOrV, fNotV, fNotW, fAnd, fOr, fNot, fTest, fTru, fIf, fChain, fOp, fUn, fCB, fCons, fNil, fTup, fLst, fCall, fVar, fC, fSl, fPart, fNoPart, fBM, fM0, fM1, mAsk, fFld, fMeth, fPropN, fCMeth, fDNew, fDGet2, fDGet, fDPut, fLc, fYes, fiList, fiTup, bind_ok, thenS_ok, asB_bl, j_ii, j_ib, j_ss, j_tt, gLt, gLe, gGt, gGe, gCmp, gSubI, gMul, gMod, gDiv, gEq, gNe, gEqB, refD, scalEq, gLen, gAbs, gMax, gMin, gTuple, gIxS, tupOf, outS, fin_same, thenG, loopS, truD_bl, truD_tup, fgTup, fgCons, fgNil, z0, z1, z2, z3, z5, z7, rg8, e1, ht, m21, m19, m18, a1, rg18, wipeD, el, a2, G.listOf, ad, a3, hfin]
end K30
namespace K30
open PySem L2 G
/-! ### sameness -/
theorem gNe_self {x y : D} {M : AH} {a : PyData} (r : refD x = true) (hx : pyOf x M = some a) (hy : pyOf y M = some a) (hs : SeqAt.shaped a = true) : gNe x y M = .ok (.bl false) M := by
  have hr : PyData.eqv a a = true := by
    unfold SeqAt.shaped at hs
    rw [Bool.and_eq_true] at hs
    exact SeqAt.eqv_refl a hs.1
  simp [gNe, gEqB, r, hx, hy, hs, hr]
theorem py_strs : ∀ xs : List Str, pyL (xs.map .str) = some (xs.map .str)
  | [] => rfl
  | x :: r => by simp [pyL, pyD, py_strs r]
theorem py_ints : ∀ xs : List Int, pyL (xs.map .int) = some (xs.map .int)
  | [] => rfl
  | x :: r => by simp [pyL, pyD, py_ints r]
theorem lay_strs : ∀ xs : List Str, xs.all PyData.strOk = true → PyData.canLayAll0 (xs.map .str) = true ∧ PyData.depthAll (xs.map .str) ≤ 0
  | [], _ => by simp [PyData.canLayAll0, PyData.depthAll]
  | x :: r, h => by
    rw [List.all_cons, Bool.and_eq_true] at h
    have ih := lay_strs r h.2
    simp only [List.map_cons, PyData.canLayAll0, PyData.canLay0, PyData.depthAll, PyData.depth, h.1, ih.1]
    have := ih.2
    exact ⟨by simp, by omega⟩
theorem lay_ints : ∀ xs : List Int, PyData.canLayAll0 (xs.map .int) = true ∧ PyData.depthAll (xs.map .int) ≤ 0
  | [] => by simp [PyData.canLayAll0, PyData.depthAll]
  | x :: r => by
    have ih := lay_ints r
    simp only [List.map_cons, PyData.canLayAll0, PyData.canLay0, PyData.depthAll, PyData.depth, ih.1]
    have := ih.2
    exact ⟨by simp, by omega⟩
theorem sh_strs {xs : List Str} (h : xs.all PyData.strOk = true) : SeqAt.shaped (.tuple (xs.map .str)) = true := by
  have := lay_strs xs h
  unfold SeqAt.shaped
  rw [Bool.and_eq_true]
  refine ⟨?_, decide_eq_true ?_⟩
  · rw [PyData.canLay0]; exact this.1
  · rw [PyData.depth]; omega
theorem sh_ints {xs : List Int} : SeqAt.shaped (.tuple (xs.map .int)) = true := by
  have := lay_ints xs
  unfold SeqAt.shaped
  rw [Bool.and_eq_true]
  refine ⟨?_, decide_eq_true ?_⟩
  · rw [PyData.canLay0]; exact this.1
  · rw [PyData.depth]; omega
theorem ne_strs {xs : List Str} {M : AH} (h : xs.all PyData.strOk = true) : gNe (.tuq (xs.map .str)) (.tup (xs.map .str)) M = .ok (.bl false) M :=
  gNe_self (a := .tuple (xs.map .str)) rfl (by simp [pyOf, pyD, py_strs]) (by simp [pyOf, pyD, py_strs]) (sh_strs h)
theorem ne_ints {xs : List Int} {M : AH} : gNe (.tup (xs.map .int)) (.tup (xs.map .int)) M = .ok (.bl false) M :=
  gNe_self (a := .tuple (xs.map .int)) rfl (by simp [pyOf, pyD, py_ints]) (by simp [pyOf, pyD, py_ints]) sh_ints
theorem ne_nil {i j : Nat} {M : AH} (h1 : M[i]? = some (.lst [])) (h2 : M[j]? = some (.lst [])) : gNe (.ref i) (.ref j) M = .ok (.bl false) M :=
  gNe_self (a := .list []) rfl (by simp [pyOf, h1, pyL]) (by simp [pyOf, h2, pyL]) (by decide +kernel)
theorem ne_five {i j : Nat} {M : AH} (h1 : M[i]? = some (.lst (List.replicate 5 (.bl true)))) (h2 : M[j]? = some (.lst (List.replicate 5 (.bl true)))) : gNe (.ref i) (.ref j) M = .ok (.bl false) M :=
  gNe_self (a := .list (List.replicate 5 (.bool true))) rfl (by simp [pyOf, h1, pyL, pyD, List.replicate]) (by simp [pyOf, h2, pyL, pyD, List.replicate]) (by decide +kernel)
/-! ### states -/
def o_ (x : String) : Str := Str.ofString x
def sts : List Str := [o_ "waiting", o_ "begun", o_ "left", o_ "well", o_ "ill", o_ "late", o_ "gone"]
def wdl : List Str := [o_ "begun", o_ "over", o_ "well", o_ "ill", o_ "late", o_ "left"]
def isSt (w : Str) : Bool := sts.any fun s => decide (s = w)
theorem any_str {a : List Str} {w : Str} : (a.map D.str).any (fun d => eqF d (.str w)) = a.any fun s => decide (s = w) := by
  rw [List.any_map]
  rfl
theorem flat_strs {a : List Str} : (a.map D.str).all flatD = true := by
  rw [List.all_map]
  induction a with
  | nil => rfl
  | cons x r ih => simp [ih, flatD]
theorem in_strs {n : Bool} {w : Str} {y : D} {a : List Str} {M : AH} (h : tupOf y = some (a.map .str)) : gIn n (.str w) y M = .ok (.bl (n != a.any fun s => decide (s = w))) M := by
  rcases tup_cases h with rfl | rfl <;> simp only [gIn, tupOf, flat_strs, any_str] <;> simp [flatD]
theorem in_ref {n : Bool} {w : Str} {i : Nat} {a : List Str} {M : AH} (h : M[i]? = some (.lst (a.map .str))) : gIn n (.str w) (.ref i) M = .ok (.bl (n != a.any fun s => decide (s = w))) M := by
  simp only [gIn, tupOf, G.listOf, h, flat_strs, any_str]
  simp [flatD]
theorem in_st {w : Str} {M : AH} : gIn false (.str w) (.tuq [.str (Str.ofString "waiting"), .str (Str.ofString "begun"), .str (Str.ofString "left"), .str (Str.ofString "well"), .str (Str.ofString "ill"), .str (Str.ofString "late"), .str (Str.ofString "gone")]) M = .ok (.bl (isSt w)) M := by
  have := in_strs (n := false) (w := w) (y := .tuq (sts.map .str)) (a := sts) (M := M) rfl
  simpa [sts, o_, isSt] using this
theorem e_isst (w : Str) (M : AH) : F_is_state [.str w] M = .ok (.bl (isSt w)) M := by
  simp [F_is_state, fnF, fnK, fSeq, fRet, fRetN, fAsg, fgName, fDrop, fNext, fNever, fIfS, fPar, fFor, fAndV, fOrV, fNotV, fNotW, fAnd, fOr, fNot, fTest, fTru, fIf, fChain, fOp, fUn, fCB, fCons, fNil, fTup, fLst, fCall, fVar, fC, fSl, fPart, fNoPart, fBM, fM0, fM1, mAsk, fFld, fMeth, fPropN, fCMeth, fDNew, fDGet2, fDGet, fDPut, fLc, fYes, fiList, fiTup, bind_ok, thenS_ok, asB_bl, j_ii, j_ib, j_ss, j_tt, gLt, gLe, gGt, gGe, gCmp, gAdd, gSubI, gMul, gMod, gDiv, gEq, gNe, gEqB, refD, scalEq, gLen, gAbs, gMax, gMin, gTuple, gIxS, tupOf, outS, fin_same, thenG, loopS, truD_bl, truD_tup, fgTup, fgCons, fgNil, in_st]
theorem js_non {M} : gIsi [.non, .ty "str"] M = .ok (.bl false) M := rfl
theorem js_int {x M} : gIsi [.int x, .ty "str"] M = .ok (.bl false) M := rfl
theorem js_tup {x M} : gIsi [.tup x, .ty "str"] M = .ok (.bl false) M := rfl
theorem js_bl {x M} : gIsi [.bl x, .ty "str"] M = .ok (.bl false) M := rfl
theorem js_lst {i : Nat} {xs : List D} {M : AH} (h : M[i]? = some (.lst xs)) : gIsi [.ref i, .ty "str"] M = .ok (.bl false) M := by simp [gIsi, tyD, h, kinds, isK]
theorem js_dct {i : Nat} {ks} {xs : List D} {M : AH} (h : M[i]? = some (.dct ks xs)) : gIsi [.ref i, .ty "str"] M = .ok (.bl false) M := by simp [gIsi, tyD, h, kinds, isK]
theorem e_isno {v : D} {M : AH} (h : gIsi [v, .ty "str"] M = .ok (.bl false) M) : F_is_state [v] M = .ok (.bl false) M := by
  simp [F_is_state, fnF, fnK, fSeq, fRet, fRetN, fAsg, fgName, fDrop, fNext, fNever, fIfS, fPar, fFor, fAndV, fOrV, fNotV, fNotW, fAnd, fOr, fNot, fTest, fTru, fIf, fChain, fOp, fUn, fCB, fCons, fNil, fTup, fLst, fCall, fVar, fC, fSl, fPart, fNoPart, fBM, fM0, fM1, mAsk, fFld, fMeth, fPropN, fCMeth, fDNew, fDGet2, fDGet, fDPut, fLc, fYes, fiList, fiTup, bind_ok, thenS_ok, asB_bl, j_ii, j_ib, j_ss, j_tt, gLt, gLe, gGt, gGe, gCmp, gAdd, gSubI, gMul, gMod, gDiv, gEq, gNe, gEqB, refD, scalEq, gLen, gAbs, gMax, gMin, gTuple, gIxS, tupOf, outS, fin_same, thenG, loopS, truD_bl, truD_tup, fgTup, fgCons, fgNil, h]
theorem fin_exc {M : AH} {c : String} : fin M (.exc c none M) = .exc c none M := by simp [fin, okOld_refl]
theorem fin_non {M : AH} : fin M (.ok .non M) = .ok .non M := fin_same (by simp)
theorem e_chks {v : D} {M : AH} (h : F_is_state [v] M = .ok (.bl true) M) : F__check_state [v] M = .ok .non M := by
  simp [F__check_state, fnF, fnK, fSeq, fRet, fRetN, fAsg, fgName, fDrop, fNext, fNever, fIfS, fPar, fFor, fAndV, fOrV, fNotV, fNotW, fAnd, fOr, fNot, fTest, fTru, fIf, fChain, fOp, fUn, fCB, fCons, fNil, fTup, fLst, fCall, fVar, fC, fSl, fPart, fNoPart, fBM, fM0, fM1, mAsk, fFld, fMeth, fPropN, fCMeth, fDNew, fDGet2, fDGet, fDPut, fLc, fYes, fiList, fiTup, bind_ok, thenS_ok, asB_bl, j_ii, j_ib, j_ss, j_tt, gLt, gLe, gGt, gGe, gCmp, gAdd, gSubI, gMul, gMod, gDiv, gEq, gNe, gEqB, refD, scalEq, gLen, gAbs, gMax, gMin, gTuple, gIxS, tupOf, outS, fin_same, thenG, loopS, truD_bl, truD_tup, fgTup, fgCons, fgNil, h, fin_non]
theorem e_chkx {v : D} {M : AH} (h : F_is_state [v] M = .ok (.bl false) M) : F__check_state [v] M = .exc "InvalidJob" none M := by
  simp [F__check_state, fnF, fnK, fSeq, fRet, fRetN, fAsg, fgName, fDrop, fNext, fNever, fIfS, fPar, fFor, fAndV, fOrV, fNotV, fNotW, fAnd, fOr, fNot, fTest, fTru, fIf, fChain, fOp, fUn, fCB, fCons, fNil, fTup, fLst, fCall, fVar, fC, fSl, fPart, fNoPart, fBM, fM0, fM1, mAsk, fFld, fMeth, fPropN, fCMeth, fDNew, fDGet2, fDGet, fDPut, fLc, fYes, fiList, fiTup, bind_ok, thenS_ok, asB_bl, j_ii, j_ib, j_ss, j_tt, gLt, gLe, gGt, gGe, gCmp, gAdd, gSubI, gMul, gMod, gDiv, gEq, gNe, gEqB, refD, scalEq, gLen, gAbs, gMax, gMin, gTuple, gIxS, tupOf, outS, fin_same, thenG, loopS, truD_bl, truD_tup, fgTup, fgCons, fgNil, h, fRaiseN, fin_exc]
theorem e_state_sts {w : Str} (h : w ∈ sts) : isSt w = true := by
  unfold isSt
  rw [List.any_eq_true]
  exact ⟨w, h, by simp⟩
def holds (x w : Str) : Bool := if x = o_ "begun" then (true != [o_ "waiting", o_ "left"].any fun s => decide (s = w)) else if x = o_ "over" then (true != [o_ "waiting", o_ "begun"].any fun s => decide (s = w)) else decide (w = x)
def endsB (w : Str) : List Str := if w = o_ "waiting" then [o_ "left", o_ "well", o_ "ill", o_ "late", o_ "gone"] else if w = o_ "begun" then [o_ "well", o_ "ill", o_ "late", o_ "gone"] else [w]
def nexts (w : Str) : List Str := if w = o_ "waiting" then [o_ "begun", o_ "left"] else if w = o_ "begun" then [o_ "well", o_ "ill", o_ "late", o_ "gone"] else []
def atoms (w : Str) : List Str := wdl.filter fun x => holds x w
end K30
namespace K30
open PySem L2 G
theorem tlx : ∀ {a b : Str}, (tl a = tl b) = (a = b) := fun {a b} => propext ⟨fun h => by
  obtain ⟨a⟩ := a
  obtain ⟨b⟩ := b
  obtain ⟨a⟩ := a
  obtain ⟨b⟩ := b
  simp [tl] at h
  rw [h], fun h => by rw [h]⟩
theorem q_str (a b : Str) (M : AH) : gEq (.str a) (.str b) M = .ok (.bl (decide (a = b))) M := by
  have e : scalEq (.str a) (.str b) = some (decide (a = b)) := by
    simp only [scalEq, tlx]
  simp only [gEq, gEqB, refD, e, Bool.or_self]
  simp
theorem n_ob : ¬ Str.ofString "over" = Str.ofString "begun" := by decide
theorem n_bw : ¬ Str.ofString "begun" = Str.ofString "waiting" := by decide
theorem e_holds (x w : Str) (M : AH) : F__law_atom_holds [.str x, .str w] M = .ok (.bl (holds x w)) M := by
  have i1 : gIn true (.str w) (.tup [.str (Str.ofString "waiting"), .str (Str.ofString "left")]) M = .ok (.bl (true != [o_ "waiting", o_ "left"].any fun s => decide (s = w))) M := in_strs (n := true) (w := w) (y := .tup ([o_ "waiting", o_ "left"].map .str)) (a := [o_ "waiting", o_ "left"]) (M := M) rfl
  have i2 : gIn true (.str w) (.tup [.str (Str.ofString "waiting"), .str (Str.ofString "begun")]) M = .ok (.bl (true != [o_ "waiting", o_ "begun"].any fun s => decide (s = w))) M := in_strs (n := true) (w := w) (y := .tup ([o_ "waiting", o_ "begun"].map .str)) (a := [o_ "waiting", o_ "begun"]) (M := M) rfl
  have z2 : 2 ≤ sizeLine := zz (by decide)
  generalize hc1 : (true != [o_ "waiting", o_ "left"].any fun s => decide (s = w)) = c1 at i1
  generalize hc2 : (true != [o_ "waiting", o_ "begun"].any fun s => decide (s = w)) = c2 at i2
  have e : holds x w = if x = Str.ofString "begun" then c1 else if x = Str.ofString "over" then c2 else decide (w = x) := by
    rw [← hc1, ← hc2]; rfl
  rw [e]
  by_cases h1 : x = Str.ofString "begun"
  · simp [F__law_atom_holds, fnF, fnK, fSeq, fRet, fRetN, fAsg, fgName, fDrop, fNext, fNever, fIfS, fPar, fFor, fAndV, fOrV, fNotV, fNotW, fAnd, fOr, fNot, fTest, fTru, fIf, fChain, fOp, fUn, fCB, fCons, fNil, fTup, fLst, fCall, fVar, fC, fSl, fPart, fNoPart, fBM, fM0, fM1, mAsk, fFld, fMeth, fPropN, fCMeth, fDNew, fDGet2, fDGet, fDPut, fLc, fYes, fiList, fiTup, bind_ok, thenS_ok, asB_bl, j_ii, j_ib, j_ss, j_tt, gLt, gLe, gGt, gGe, gCmp, gAdd, gSubI, gMul, gMod, gDiv, gLen, gAbs, gMax, gMin, gTuple, gIxS, tupOf, outS, fin_same, thenG, loopS, truD_bl, truD_tup, fgTup, fgCons, fgNil, q_str, h1, i1, z2]
  · by_cases h2 : x = Str.ofString "over"
    · simp [F__law_atom_holds, fnF, fnK, fSeq, fRet, fRetN, fAsg, fgName, fDrop, fNext, fNever, fIfS, fPar, fFor, fAndV, fOrV, fNotV, fNotW, fAnd, fOr, fNot, fTest, fTru, fIf, fChain, fOp, fUn, fCB, fCons, fNil, fTup, fLst, fCall, fVar, fC, fSl, fPart, fNoPart, fBM, fM0, fM1, mAsk, fFld, fMeth, fPropN, fCMeth, fDNew, fDGet2, fDGet, fDPut, fLc, fYes, fiList, fiTup, bind_ok, thenS_ok, asB_bl, j_ii, j_ib, j_ss, j_tt, gLt, gLe, gGt, gGe, gCmp, gAdd, gSubI, gMul, gMod, gDiv, gLen, gAbs, gMax, gMin, gTuple, gIxS, tupOf, outS, fin_same, thenG, loopS, truD_bl, truD_tup, fgTup, fgCons, fgNil, q_str, h1, h2, i2, z2, n_ob]
    · simp [F__law_atom_holds, fnF, fnK, fSeq, fRet, fRetN, fAsg, fgName, fDrop, fNext, fNever, fIfS, fPar, fFor, fAndV, fOrV, fNotV, fNotW, fAnd, fOr, fNot, fTest, fTru, fIf, fChain, fOp, fUn, fCB, fCons, fNil, fTup, fLst, fCall, fVar, fC, fSl, fPart, fNoPart, fBM, fM0, fM1, mAsk, fFld, fMeth, fPropN, fCMeth, fDNew, fDGet2, fDGet, fDPut, fLc, fYes, fiList, fiTup, bind_ok, thenS_ok, asB_bl, j_ii, j_ib, j_ss, j_tt, gLt, gLe, gGt, gGe, gCmp, gAdd, gSubI, gMul, gMod, gDiv, gLen, gAbs, gMax, gMin, gTuple, gIxS, tupOf, outS, fin_same, thenG, loopS, truD_bl, truD_tup, fgTup, fgCons, fgNil, q_str, h1, h2, z2]
theorem clo_strs {n : Nat} {l : List Str} : D.cloL n (l.map .str) = true := cloL_all fun d hd => by
  obtain ⟨i, _, rfl⟩ := List.mem_map.mp hd
  simp
theorem e_behind (w : Str) (M : AH) : F__law_ends_behind [.str w] M = .ok (.lst ((endsB w).map .str)) M := by
  have z5 : 5 ≤ sizeLine := zz (by decide)
  have z4 : 4 ≤ sizeLine := zz (by decide)
  have z1 : 1 ≤ sizeLine := zz (by decide)
  have hf := fin_lst (M := M) (xs := (endsB w).map .str) clo_strs
  by_cases h1 : w = Str.ofString "waiting"
  · simp [endsB, o_, h1] at hf
    simp [F__law_ends_behind, fnF, fnK, fSeq, fRet, fRetN, fAsg, fgName, fDrop, fNext, fNever, fIfS, fPar, fFor, fAndV, fOrV, fNotV, fNotW, fAnd, fOr, fNot, fTest, fTru, fIf, fChain, fOp, fUn, fCB, fCons, fNil, fTup, fLst, fCall, fVar, fC, fSl, fPart, fNoPart, fBM, fM0, fM1, mAsk, fFld, fMeth, fPropN, fCMeth, fDNew, fDGet2, fDGet, fDPut, fLc, fYes, fiList, fiTup, bind_ok, thenS_ok, asB_bl, j_ii, j_ib, j_ss, j_tt, gLt, gLe, gGt, gGe, gCmp, gAdd, gSubI, gMul, gMod, gDiv, gLen, gAbs, gMax, gMin, gTuple, gIxS, tupOf, outS, fin_same, thenG, loopS, truD_bl, truD_tup, fgTup, fgCons, fgNil, q_str, h1, z5, z4, z1, endsB, o_, hf]
  · by_cases h2 : w = Str.ofString "begun"
    · simp [endsB, o_, h1, h2, n_bw] at hf
      simp [F__law_ends_behind, fnF, fnK, fSeq, fRet, fRetN, fAsg, fgName, fDrop, fNext, fNever, fIfS, fPar, fFor, fAndV, fOrV, fNotV, fNotW, fAnd, fOr, fNot, fTest, fTru, fIf, fChain, fOp, fUn, fCB, fCons, fNil, fTup, fLst, fCall, fVar, fC, fSl, fPart, fNoPart, fBM, fM0, fM1, mAsk, fFld, fMeth, fPropN, fCMeth, fDNew, fDGet2, fDGet, fDPut, fLc, fYes, fiList, fiTup, bind_ok, thenS_ok, asB_bl, j_ii, j_ib, j_ss, j_tt, gLt, gLe, gGt, gGe, gCmp, gAdd, gSubI, gMul, gMod, gDiv, gLen, gAbs, gMax, gMin, gTuple, gIxS, tupOf, outS, fin_same, thenG, loopS, truD_bl, truD_tup, fgTup, fgCons, fgNil, q_str, h1, h2, z5, z4, z1, endsB, o_, n_bw, hf]
    · simp [endsB, o_, h1, h2, n_bw] at hf
      simp [F__law_ends_behind, fnF, fnK, fSeq, fRet, fRetN, fAsg, fgName, fDrop, fNext, fNever, fIfS, fPar, fFor, fAndV, fOrV, fNotV, fNotW, fAnd, fOr, fNot, fTest, fTru, fIf, fChain, fOp, fUn, fCB, fCons, fNil, fTup, fLst, fCall, fVar, fC, fSl, fPart, fNoPart, fBM, fM0, fM1, mAsk, fFld, fMeth, fPropN, fCMeth, fDNew, fDGet2, fDGet, fDPut, fLc, fYes, fiList, fiTup, bind_ok, thenS_ok, asB_bl, j_ii, j_ib, j_ss, j_tt, gLt, gLe, gGt, gGe, gCmp, gAdd, gSubI, gMul, gMod, gDiv, gLen, gAbs, gMax, gMin, gTuple, gIxS, tupOf, outS, fin_same, thenG, loopS, truD_bl, truD_tup, fgTup, fgCons, fgNil, q_str, h1, h2, z5, z4, z1, endsB, o_, n_bw, hf]
theorem fin_tq {l : List Str} {M : AH} : fin M (.ok (.tuq (l.map .str)) M) = .ok (.tuq (l.map .str)) M := fin_same (by simp [clo_strs])
theorem e_ends {w : Str} (h : w ∈ sts) (M : AH) : F_ends_of [.str w] M = .ok (.tuq ((endsB w).map .str)) M := by
  have hc := e_chks (v := .str w) (M := M) (by rw [e_isst, e_state_sts h])
  have hx : gKIx (.dck [Str.ofString "waiting", Str.ofString "begun", Str.ofString "left", Str.ofString "well", Str.ofString "ill", Str.ofString "late", Str.ofString "gone"] [(.tuq [(.str (Str.ofString "left")), (.str (Str.ofString "well")), (.str (Str.ofString "ill")), (.str (Str.ofString "late")), (.str (Str.ofString "gone"))]), (.tuq [(.str (Str.ofString "well")), (.str (Str.ofString "ill")), (.str (Str.ofString "late")), (.str (Str.ofString "gone"))]), (.tuq [(.str (Str.ofString "left"))]), (.tuq [(.str (Str.ofString "well"))]), (.tuq [(.str (Str.ofString "ill"))]), (.tuq [(.str (Str.ofString "late"))]), (.tuq [(.str (Str.ofString "gone"))])]) (.str w) M = .ok (.tuq ((endsB w).map .str)) M := by
    simp only [sts, List.mem_cons, List.not_mem_nil, or_false] at h
    rcases h with rfl | rfl | rfl | rfl | rfl | rfl | rfl <;> rfl
  generalize hg : (gKIx : D → D → AH → Res D) = g at hx
  simp [F_ends_of, fnF, fnK, fSeq, fRet, fRetN, fAsg, fgName, fDrop, fNext, fNever, fIfS, fPar, fFor, fAndV, fOrV, fNotV, fNotW, fAnd, fOr, fNot, fTest, fTru, fIf, fChain, fOp, fUn, fCB, fCons, fNil, fTup, fLst, fCall, fVar, fC, fSl, fPart, fNoPart, fBM, fM0, fM1, mAsk, fFld, fMeth, fPropN, fCMeth, fDNew, fDGet2, fDGet, fDPut, fLc, fYes, fiList, fiTup, bind_ok, thenS_ok, asB_bl, j_ii, j_ib, j_ss, j_tt, gLt, gLe, gGt, gGe, gCmp, gAdd, gSubI, gMul, gMod, gDiv, gEq, gNe, gEqB, refD, scalEq, gLen, gAbs, gMax, gMin, gTuple, gIxS, tupOf, outS, fin_same, thenG, loopS, truD_bl, truD_tup, fgTup, fgCons, fgNil, hc, hg, hx, fin_tq]
theorem e_atoms {w : Str} (h : w ∈ sts) (M : AH) : F_atoms_of [.str w] M = .ok (.tuq ((atoms w).map .str)) M := by
  have hc := e_chks (v := .str w) (M := M) (by rw [e_isst, e_state_sts h])
  have hx : gKIx (.dck [Str.ofString "waiting", Str.ofString "begun", Str.ofString "left", Str.ofString "well", Str.ofString "ill", Str.ofString "late", Str.ofString "gone"] [(.tuq []), (.tuq [(.str (Str.ofString "begun"))]), (.tuq [(.str (Str.ofString "over")), (.str (Str.ofString "left"))]), (.tuq [(.str (Str.ofString "begun")), (.str (Str.ofString "over")), (.str (Str.ofString "well"))]), (.tuq [(.str (Str.ofString "begun")), (.str (Str.ofString "over")), (.str (Str.ofString "ill"))]), (.tuq [(.str (Str.ofString "begun")), (.str (Str.ofString "over")), (.str (Str.ofString "late"))]), (.tuq [(.str (Str.ofString "begun")), (.str (Str.ofString "over"))])]) (.str w) M = .ok (.tuq ((atoms w).map .str)) M := by
    simp only [sts, List.mem_cons, List.not_mem_nil, or_false] at h
    rcases h with rfl | rfl | rfl | rfl | rfl | rfl | rfl <;> rfl
  generalize hg : (gKIx : D → D → AH → Res D) = g at hx
  simp [F_atoms_of, fnF, fnK, fSeq, fRet, fRetN, fAsg, fgName, fDrop, fNext, fNever, fIfS, fPar, fFor, fAndV, fOrV, fNotV, fNotW, fAnd, fOr, fNot, fTest, fTru, fIf, fChain, fOp, fUn, fCB, fCons, fNil, fTup, fLst, fCall, fVar, fC, fSl, fPart, fNoPart, fBM, fM0, fM1, mAsk, fFld, fMeth, fPropN, fCMeth, fDNew, fDGet2, fDGet, fDPut, fLc, fYes, fiList, fiTup, bind_ok, thenS_ok, asB_bl, j_ii, j_ib, j_ss, j_tt, gLt, gLe, gGt, gGe, gCmp, gAdd, gSubI, gMul, gMod, gDiv, gEq, gNe, gEqB, refD, scalEq, gLen, gAbs, gMax, gMin, gTuple, gIxS, tupOf, outS, fin_same, thenG, loopS, truD_bl, truD_tup, fgTup, fgCons, fgNil, hc, hg, hx, fin_tq]
def fol (w o : Str) : Bool := (nexts w).any fun s => decide (s = o)
theorem e_follow {w o : Str} (h : w ∈ sts) (ho : o ∈ sts) (M : AH) : F_may_follow [.str w, .str o] M = .ok (.bl (fol w o)) M := by
  have hc := e_chks (v := .str w) (M := M) (by rw [e_isst, e_state_sts h])
  have hc2 := e_chks (v := .str o) (M := M) (by rw [e_isst, e_state_sts ho])
  have hx : ∃ y, tupOf y = some ((nexts w).map .str) ∧ ∀ δ, fKGet (fC (.dck [Str.ofString "waiting", Str.ofString "begun"] [(.tuq [(.str (Str.ofString "begun")), (.str (Str.ofString "left"))]), (.tuq [(.str (Str.ofString "well")), (.str (Str.ofString "ill")), (.str (Str.ofString "late")), (.str (Str.ofString "gone"))])])) (fVar 0) (fTup fNil) (some (.str w) :: δ) M = .ok y M := by
    simp only [sts, List.mem_cons, List.not_mem_nil, or_false] at h
    rcases h with rfl | rfl | rfl | rfl | rfl | rfl | rfl <;> exact ⟨_, rfl, fun _ => rfl⟩
  obtain ⟨y, hy, hx⟩ := hx
  generalize hg : fKGet (fC (.dck [Str.ofString "waiting", Str.ofString "begun"] [(.tuq [(.str (Str.ofString "begun")), (.str (Str.ofString "left"))]), (.tuq [(.str (Str.ofString "well")), (.str (Str.ofString "ill")), (.str (Str.ofString "late")), (.str (Str.ofString "gone"))])])) (fVar 0) (fTup fNil) = g at hx
  have hi := in_strs (n := false) (w := o) (M := M) hy
  simp [F_may_follow, hg, fnF, fnK, fSeq, fRet, fRetN, fAsg, fgName, fDrop, fNext, fNever, fIfS, fPar, fFor, fAndV, fOrV, fNotV, fNotW, fAnd, fOr, fNot, fTest, fTru, fIf, fChain, fOp, fUn, fCB, fCons, fNil, fTup, fLst, fCall, fVar, fC, fSl, fPart, fNoPart, fBM, fM0, fM1, mAsk, fFld, fMeth, fPropN, fCMeth, fDNew, fDGet2, fDGet, fDPut, fLc, fYes, fiList, fiTup, bind_ok, thenS_ok, asB_bl, j_ii, j_ib, j_ss, j_tt, gLt, gLe, gGt, gGe, gCmp, gAdd, gSubI, gMul, gMod, gDiv, gEq, gNe, gEqB, refD, scalEq, gLen, gAbs, gMax, gMin, gTuple, gIxS, tupOf, outS, fin_same, thenG, loopS, truD_bl, truD_tup, fgTup, fgCons, fgNil, hc, hc2, hx, hi, fol]
end K30
namespace K30
open PySem L2 G
theorem gNe_str {r : Str} {M : AH} : gNe (.str r) (.str r) M = .ok (.bl false) M := by simp [gNe, gEqB, refD, scalEq]
theorem e_all (M : AH) : F__law_all_states [] M = .ok (.lst (sts.map .str)) M := by
  have z7 : 7 ≤ sizeLine := zz (by decide)
  have hf := fin_lst (M := M) (xs := sts.map .str) clo_strs
  simp [sts, o_] at hf
  simp [F__law_all_states, fnF, fnK, fSeq, fRet, fRetN, fAsg, fgName, fDrop, fNext, fNever, fIfS, fPar, fFor, fAndV, fOrV, fNotV, fNotW, fAnd, fOr, fNot, fTest, fTru, fIf, fChain, fOp, fUn, fCB, fCons, fNil, fTup, fLst, fCall, fVar, fC, fSl, fPart, fNoPart, fBM, fM0, fM1, mAsk, fFld, fMeth, fPropN, fCMeth, fDNew, fDGet2, fDGet, fDPut, fLc, fYes, fiList, fiTup, bind_ok, thenS_ok, asB_bl, j_ii, j_ib, j_ss, j_tt, gLt, gLe, gGt, gGe, gCmp, gAdd, gSubI, gMul, gMod, gDiv, gEq, gNe, gEqB, refD, scalEq, gLen, gAbs, gMax, gMin, gTuple, gIxS, tupOf, outS, fin_same, thenG, loopS, truD_bl, truD_tup, fgTup, fgCons, fgNil, z7, sts, o_, hf]
theorem e_rep (b : Bool) (M : AH) : gRepr [.bl b] M = .ok (.str (if b then Str.ofString "True" else Str.ofString "False")) M := rfl
theorem e_in1 {w o : Str} {m nx : Nat} {x2 : Option D} {M : AH} (h : w ∈ sts) (ho : o ∈ sts) (hn : M[nx]? = some (.lst ((nexts w).map .str))) :
    L__law_states_right_1 [some (.ref m), some (.str w), x2, some (.ref nx), some (.str o)] M = .nx [some (.ref m), some (.str w), x2, some (.ref nx), some (.str o)] M := by
  have e1 := e_follow h ho M
  have e2 := in_ref (n := false) (w := o) hn
  have : (false != (nexts w).any fun s => decide (s = o)) = fol w o := by simp [fol]
  rw [this] at e2
  simp [L__law_states_right_1, fnF, fnK, fSeq, fRet, fRetN, fAsg, fgName, fDrop, fNext, fNever, fIfS, fPar, fFor, fAndV, fOrV, fNotV, fNotW, fAnd, fOr, fNot, fTest, fTru, fIf, fChain, fOp, fUn, fCB, fCons, fNil, fTup, fLst, fCall, fVar, fC, fSl, fPart, fNoPart, fBM, fM0, fM1, mAsk, fFld, fMeth, fPropN, fCMeth, fDNew, fDGet2, fDGet, fDPut, fLc, fYes, fiList, fiTup, bind_ok, thenS_ok, asB_bl, j_ii, j_ib, j_ss, j_tt, gLt, gLe, gGt, gGe, gCmp, gAdd, gSubI, gMul, gMod, gDiv, gLen, gAbs, gMax, gMin, gTuple, gIxS, tupOf, outS, fin_same, thenG, loopS, truD_bl, truD_tup, fgTup, fgCons, fgNil, e1, e_rep, e2, gNe_str]
def fNx : FE := fDGet2 (fDisp [((fC (.str (Str.ofString "waiting"))), (fLst (fCons (fC (.str (Str.ofString "begun"))) (fCons (fC (.str (Str.ofString "left"))) fNil)))), ((fC (.str (Str.ofString "begun"))), (fLst (fCons (fC (.str (Str.ofString "well"))) (fCons (fC (.str (Str.ofString "ill"))) (fCons (fC (.str (Str.ofString "late"))) (fCons (fC (.str (Str.ofString "gone"))) fNil))))))]) (fVar 1) (fLst fNil)
theorem e_nx {w : Str} {x0 x2 x3 x4 : Option D} {M : AH} : ∃ nx Y, fNx [x0, some (.str w), x2, x3, x4] M = .ok (.ref nx) (M ++ Y) ∧ (M ++ Y)[nx]? = some (.lst ((nexts w).map .str)) := by
  have z0 : 0 ≤ sizeLine := Nat.zero_le _
  have z2 : 2 ≤ sizeLine := zz (by decide)
  have z4 : 4 ≤ sizeLine := zz (by decide)
  have nwb : ¬ Str.ofString "waiting" = Str.ofString "begun" := by decide
  let Y : AH := [.dct [.inr (Str.ofString "waiting"), .inr (Str.ofString "begun")] [.ref (M.length + 1), .ref (M.length + 2)], .lst [s_ "begun", s_ "left"], .lst [s_ "well", s_ "ill", s_ "late", s_ "gone"], .lst []]
  have hv : ∀ d, ((valD [.inr (Str.ofString "waiting"), .inr (Str.ofString "begun")] [.ref (M.length + 1), .ref (M.length + 2)] (.inr w)).getD d) = if w = Str.ofString "waiting" then .ref (M.length + 1) else if w = Str.ofString "begun" then .ref (M.length + 2) else d := fun d => by
    by_cases h1 : w = Str.ofString "waiting"
    · simp [valD, h1]
    · by_cases h2 : w = Str.ofString "begun"
      · simp [valD, h2, nwb, n_bw]
      · have h1' : ¬ Str.ofString "waiting" = w := fun e => h1 e.symm
        have h2' : ¬ Str.ofString "begun" = w := fun e => h2 e.symm
        simp [valD, h1, h2, h1', h2']
  have he : fNx [x0, some (.str w), x2, x3, x4] M = .ok (if w = Str.ofString "waiting" then .ref (M.length + 1) else if w = Str.ofString "begun" then .ref (M.length + 2) else .ref (M.length + 3)) (M ++ Y) := by
    rw [← hv]
    simp [fNx, fnF, fnK, fSeq, fRet, fRetN, fAsg, fgName, fDrop, fNext, fNever, fIfS, fPar, fFor, fAndV, fOrV, fNotV, fNotW, fAnd, fOr, fNot, fTest, fTru, fIf, fChain, fOp, fUn, fCB, fCons, fNil, fTup, fLst, fCall, fVar, fC, fSl, fPart, fNoPart, fBM, fM0, fM1, mAsk, fFld, fMeth, fPropN, fCMeth, fDNew, fDGet2, fDGet, fDPut, fLc, fYes, fiList, fiTup, bind_ok, thenS_ok, asB_bl, j_ii, j_ib, j_ss, j_tt, gLt, gLe, gGt, gGe, gCmp, gAdd, gSubI, gMul, gMod, gDiv, gEq, gNe, gEqB, refD, scalEq, gLen, gAbs, gMax, gMin, gTuple, gIxS, tupOf, outS, fin_same, thenG, loopS, truD_bl, truD_tup, fgTup, fgCons, fgNil, fDisp, fPairs, keysP, keyD, mergeD, putD, hasK, dctOf, z0, z2, z4, nwb, n_bw, Y]
  refine ⟨if w = Str.ofString "waiting" then M.length + 1 else if w = Str.ofString "begun" then M.length + 2 else M.length + 3, Y, ?_, ?_⟩
  · rw [he]
    by_cases h1 : w = Str.ofString "waiting"
    · simp [h1]
    · by_cases h2 : w = Str.ofString "begun"
      · simp [h2, n_bw]
      · simp [h1, h2]
  · by_cases h1 : w = Str.ofString "waiting"
    · simp [h1, Y, nexts, o_]
    · by_cases h2 : w = Str.ofString "begun"
      · simp [h2, n_bw, Y, nexts, o_]
      · simp [h1, h2, Y, nexts, o_]
def yA (w : Str) : D → Option D
  | .str x => if holds x w then some (.str x) else none
  | _ => none
theorem fm_a {w : Str} : ∀ l : List Str, (l.map D.str).filterMap (yA w) = (l.filter fun x => holds x w).map .str
  | [] => rfl
  | i :: r => by
    by_cases h : holds i w = true
    · simp only [List.map_cons, List.filterMap_cons, yA, h, if_true, fm_a r]
      simp [h]
    · simp only [List.map_cons, List.filterMap_cons, yA, h, fm_a r]
      simp [h]
theorem ok_ends : ∀ w ∈ sts, (endsB w).all PyData.strOk = true := by decide +kernel
theorem ok_atoms : ∀ w ∈ sts, (atoms w).all PyData.strOk = true := by decide +kernel
theorem e_in2 {w : Str} {x2 x3 x4 : Option D} {M : AH} (h : w ∈ sts) (hm : M[0]? = some (.lst (wdl.map .str))) :
    ∃ x2' x3' x4' M', L__law_states_right_2 [some (.ref 0), some (.str w), x2, x3, x4] M = .nx [some (.ref 0), some (.str w), x2', x3', x4'] M' ∧ M'[0]? = some (.lst (wdl.map .str)) := by
  have h0 : 0 < M.length := (List.getElem?_eq_some_iff.mp hm).1
  have e1 := e_ends h M
  have e2 := e_behind w M
  have e3 := ne_strs (M := M) (ok_ends w h)
  have e4 := e_isst w M
  rw [e_state_sts h] at e4
  have e5 := e_atoms h M
  have e6 := lc_fm (chk := stands 0 (wdl.map .str)) (g := fgName 2) (t := fTru (fCall F__law_atom_holds (fCons (fVar 2) (fCons (fVar 1) fNil)))) (e := fVar 2) (δ := [some (.ref 0), some (.str w), none, x3, x4]) (M := M) (yA w)
    (by unfold stands; rw [hm]; exact D.beqL_refl _) (wdl.map .str) [] (zz (by decide)) fun d hd => by
      obtain ⟨x, _, rfl⟩ := List.mem_map.mp hd
      refine ⟨[some (.ref 0), some (.str w), some (.str x), x3, x4], rfl, ?_⟩
      by_cases hh : holds x w = true
      · simp only [yA, hh, if_true]
        simp [fnF, fnK, fSeq, fRet, fRetN, fAsg, fgName, fDrop, fNext, fNever, fIfS, fPar, fFor, fAndV, fOrV, fNotV, fNotW, fAnd, fOr, fNot, fTest, fTru, fIf, fChain, fOp, fUn, fCB, fCons, fNil, fTup, fLst, fCall, fVar, fC, fSl, fPart, fNoPart, fBM, fM0, fM1, mAsk, fFld, fMeth, fPropN, fCMeth, fDNew, fDGet2, fDGet, fDPut, fLc, fYes, fiList, fiTup, bind_ok, thenS_ok, asB_bl, j_ii, j_ib, j_ss, j_tt, gLt, gLe, gGt, gGe, gCmp, gAdd, gSubI, gMul, gMod, gDiv, gEq, gNe, gEqB, refD, scalEq, gLen, gAbs, gMax, gMin, gTuple, gIxS, tupOf, outS, fin_same, thenG, loopS, truD_bl, truD_tup, fgTup, fgCons, fgNil, e_holds, hh]
      · simp only [yA, hh]
        simp [fnF, fnK, fSeq, fRet, fRetN, fAsg, fgName, fDrop, fNext, fNever, fIfS, fPar, fFor, fAndV, fOrV, fNotV, fNotW, fAnd, fOr, fNot, fTest, fTru, fIf, fChain, fOp, fUn, fCB, fCons, fNil, fTup, fLst, fCall, fVar, fC, fSl, fPart, fNoPart, fBM, fM0, fM1, mAsk, fFld, fMeth, fPropN, fCMeth, fDNew, fDGet2, fDGet, fDPut, fLc, fYes, fiList, fiTup, bind_ok, thenS_ok, asB_bl, j_ii, j_ib, j_ss, j_tt, gLt, gLe, gGt, gGe, gCmp, gAdd, gSubI, gMul, gMod, gDiv, gEq, gNe, gEqB, refD, scalEq, gLen, gAbs, gMax, gMin, gTuple, gIxS, tupOf, outS, fin_same, thenG, loopS, truD_bl, truD_tup, fgTup, fgCons, fgNil, e_holds, hh]
  rw [fm_a, List.nil_append] at e6
  have e7 := fun M => ne_strs (M := M) (ok_atoms w h)
  obtain ⟨nx, Y, e8, e9⟩ := e_nx (w := w) (x0 := some (.ref 0)) (x2 := x2) (x3 := x3) (x4 := x4) (M := M ++ [.lst ((atoms w).map .str)])
  obtain ⟨δ', M', h1, ⟨x4', rfl⟩, rfl, _⟩ := for_ex (chk := fun _ => true) (g := fgName 4) (b := L__law_states_right_1) D.str
    (fun rest δ M' => (∃ x4', δ = [some (.ref 0), some (.str w), x2, some (.ref nx), x4']) ∧ M' = M ++ [.lst ((atoms w).map .str)] ++ Y ∧ ∀ b ∈ rest, b ∈ sts)
    (fun r δ M' h => rfl)
    (fun b r δ M' ⟨⟨x4', hd⟩, hM, hr⟩ => by
      subst hd
      subst hM
      exact ⟨_, _, _, _, rfl, .inl (e_in1 h (hr b (List.mem_cons_self ..)) e9), ⟨_, rfl⟩, rfl, fun q hq => hr q (List.mem_cons_of_mem _ hq)⟩)
    sts [some (.ref 0), some (.str w), x2, some (.ref nx), x4] (M ++ [.lst ((atoms w).map .str)] ++ Y) ⟨⟨_, rfl⟩, rfl, fun _ hb => hb⟩
  refine ⟨x2, some (.ref nx), x4', M ++ [.lst ((atoms w).map .str)] ++ Y, ?_, by rw [List.append_assoc, List.getElem?_append_left h0, hm]⟩
  have e10 := e_all (M ++ [.lst ((atoms w).map .str)] ++ Y)
  have hA : (wdl.filter fun x => holds x w) = atoms w := rfl
  rw [hA] at e6
  generalize hfn : fNx = fn at e8
  unfold fNx at hfn
  generalize hw1 : (atoms w).map D.str = A1 at *
  generalize hw2 : (endsB w).map D.str = A2 at *
  generalize hw3 : sts.map D.str = A3 at *
  generalize hw4 : wdl.map D.str = A4 at *
  simp only [List.append_assoc, List.cons_append, List.nil_append] at e8
  simp [L__law_states_right_2, hfn, fnF, fnK, fSeq, fRet, fRetN, fAsg, fgName, fDrop, fNext, fNever, fIfS, fPar, fFor, fAndV, fOrV, fNotV, fNotW, fAnd, fOr, fNot, fTest, fTru, fIf, fChain, fOp, fUn, fCB, fCons, fNil, fTup, fLst, fCall, fVar, fC, fSl, fPart, fNoPart, fBM, fM0, fM1, mAsk, fFld, fMeth, fPropN, fCMeth, fDNew, fDGet, fDPut, fLc, fYes, fiList, fiTup, bind_ok, thenS_ok, asB_bl, j_ii, j_ib, j_ss, j_tt, gLt, gLe, gGt, gGe, gCmp, gAdd, gSubI, gMul, gMod, gDiv, gLen, gAbs, gMax, gMin, gTuple, gIxS, tupOf, outS, fin_same, thenG, loopS, truD_bl, truD_tup, fgTup, fgCons, fgNil, e1, e2, G.listOf, e3, e4, gIsB, e5, hm, wipeD, e6, e7, e8, itmOf]

  simp only [List.append_assoc, List.cons_append, List.nil_append] at e10 h1 ⊢
  simp [e10, h1, bind_ok, itmOf, thenS_ok]
theorem e_states : F__law_states_right [] [] = .ok (.bl true) [] := by
  have z6 : 6 ≤ sizeLine := zz (by decide)
  have e1 := e_all []
  have e2 := ne_strs (xs := sts) (M := []) (by decide +kernel)
  have e3 := e_all [.lst (wdl.map .str)]
  obtain ⟨δ', M', h1, _, hm, _⟩ := for_ex (chk := fun _ => true) (g := fgName 1) (b := L__law_states_right_2) D.str
    (fun rest δ M' => (∃ x1 x2 x3 x4, δ = [some (.ref 0), x1, x2, x3, x4]) ∧ M'[0]? = some (.lst (wdl.map .str)) ∧ ∀ b ∈ rest, b ∈ sts)
    (fun r δ M' h => rfl)
    (fun b r δ M' ⟨⟨x1, x2, x3, x4, hd⟩, hM, hr⟩ => by
      subst hd
      obtain ⟨x2', x3', x4', M2, e, hm2⟩ := e_in2 (x2 := x2) (x3 := x3) (x4 := x4) (hr b (List.mem_cons_self ..)) hM
      exact ⟨_, _, _, _, rfl, .inl e, ⟨_, _, _, _, rfl⟩, hm2, fun q hq => hr q (List.mem_cons_of_mem _ hq)⟩)
    sts [some (.ref 0), none, none, none, none] [.lst (wdl.map .str)] ⟨⟨_, _, _, _, rfl⟩, rfl, fun _ hb => hb⟩
  have hf : fin [] (.ok (.bl true) M') = .ok (.bl true) [] := by
    have := fin_app (M := []) (xs := M') (d := .bl true) (by simp)
    simpa using this
  have hs : (D.tuq [s_ "waiting", s_ "begun", s_ "left", s_ "well", s_ "ill", s_ "late", s_ "gone"]) = .tuq (sts.map .str) := rfl
  have hw : (AO.lst [s_ "begun", s_ "over", s_ "well", s_ "ill", s_ "late", s_ "left"]) = .lst (wdl.map .str) := rfl
  generalize hw3 : sts.map D.str = A3 at *
  generalize hw4 : wdl.map D.str = A4 at *
  simp only [s_] at hs hw
  simp [F__law_states_right, fnF, fnK, fSeq, fRet, fRetN, fAsg, fgName, fDrop, fNext, fNever, fIfS, fPar, fFor, fAndV, fOrV, fNotV, fNotW, fAnd, fOr, fNot, fTest, fTru, fIf, fChain, fOp, fUn, fCB, fCons, fNil, fTup, fLst, fCall, fVar, fC, fSl, fPart, fNoPart, fBM, fM0, fM1, mAsk, fFld, fMeth, fPropN, fCMeth, fDNew, fDGet2, fDGet, fDPut, fLc, fYes, fiList, fiTup, bind_ok, thenS_ok, asB_bl, j_ii, j_ib, j_ss, j_tt, gLt, gLe, gGt, gGe, gCmp, gAdd, gSubI, gMul, gMod, gDiv, gLen, gAbs, gMax, gMin, gTuple, gIxS, tupOf, outS, fin_same, thenG, loopS, truD_bl, truD_tup, fgTup, fgCons, fgNil, hs, hw, e1, G.listOf, e2, z6, e3, itmOf, h1, hf]
end K30
namespace K30
open PySem L2 G
theorem bind_exc {α β : Type} {c : String} {p : Option (List String × List D)} {M : AH} {k : α → AH → Res β} : (Res.exc c p M : Res α).bind k = .exc c p M := rfl
theorem thenS_exc {α : Type} {c : String} {p : Option (List String × List D)} {M : AH} {δ : AS} {k : α → AH → SRes} : (Res.exc c p M : Res α).thenS δ k = .exc c p δ M := rfl
theorem e_refused {lam : LamD} {M : AH} {c : String} (h : lam M = .exc c none M) (hc : c = "InvalidFormula" ∨ c = "InvalidJob") : F__law_is_refused lam M = .ok (.bl true) M := by
  have t : tkOf [("InvalidFormula", true), ("InvalidJob", true)] c = some true := by rcases hc with rfl | rfl <;> rfl
  simp [F__law_is_refused, fnL, fTry, fAct, fnF, fnK, fSeq, fRet, fRetN, fAsg, fgName, fDrop, fNext, fNever, fIfS, fPar, fFor, fAndV, fOrV, fNotV, fNotW, fAnd, fOr, fNot, fTest, fTru, fIf, fChain, fOp, fUn, fCB, fCons, fNil, fTup, fLst, fCall, fVar, fC, fSl, fPart, fNoPart, fBM, fM0, fM1, mAsk, fFld, fMeth, fPropN, fCMeth, fDNew, fDGet2, fDGet, fDPut, fLc, fYes, fiList, fiTup, bind_ok, thenS_ok, asB_bl, j_ii, j_ib, j_ss, j_tt, gLt, gLe, gGt, gGe, gCmp, gAdd, gSubI, gMul, gMod, gDiv, gEq, gNe, gEqB, refD, scalEq, gLen, gAbs, gMax, gMin, gTuple, gIxS, tupOf, outS, fin_same, thenG, loopS, truD_bl, truD_tup, fgTup, fgCons, fgNil, h, thenS_exc, runHd, t, noExc, fin_bl]
theorem x_named {v : D} {M : AH} (h : F_is_after_formula [v] M = .ok (.bl false) M) : F_jobs_named [v] M = .exc "InvalidFormula" none M := by
  simp [F_jobs_named, F__check_formula, fnF, fnK, fSeq, fRet, fRetN, fAsg, fgName, fDrop, fNext, fNever, fIfS, fPar, fFor, fAndV, fOrV, fNotV, fNotW, fAnd, fOr, fNot, fTest, fTru, fIf, fChain, fOp, fUn, fCB, fCons, fNil, fTup, fLst, fCall, fVar, fC, fSl, fPart, fNoPart, fBM, fM0, fM1, mAsk, fFld, fMeth, fPropN, fCMeth, fDNew, fDGet2, fDGet, fDPut, fLc, fYes, fiList, fiTup, bind_ok, thenS_ok, asB_bl, j_ii, j_ib, j_ss, j_tt, gLt, gLe, gGt, gGe, gCmp, gAdd, gSubI, gMul, gMod, gDiv, gEq, gNe, gEqB, refD, scalEq, gLen, gAbs, gMax, gMin, gTuple, gIxS, tupOf, outS, fin_same, thenG, loopS, truD_bl, truD_tup, fgTup, fgCons, fgNil, h, fRaiseN, fin_exc, bind_exc, thenS_exc]
theorem x_ends {v : D} {M : AH} (h : F_is_state [v] M = .ok (.bl false) M) : F_ends_of [v] M = .exc "InvalidJob" none M := by
  have := e_chkx h
  simp [F_ends_of, fnF, fnK, fSeq, fRet, fRetN, fAsg, fgName, fDrop, fNext, fNever, fIfS, fPar, fFor, fAndV, fOrV, fNotV, fNotW, fAnd, fOr, fNot, fTest, fTru, fIf, fChain, fOp, fUn, fCB, fCons, fNil, fTup, fLst, fCall, fVar, fC, fSl, fPart, fNoPart, fBM, fM0, fM1, mAsk, fFld, fMeth, fPropN, fCMeth, fDNew, fDGet2, fDGet, fDPut, fLc, fYes, fiList, fiTup, bind_ok, thenS_ok, asB_bl, j_ii, j_ib, j_ss, j_tt, gLt, gLe, gGt, gGe, gCmp, gAdd, gSubI, gMul, gMod, gDiv, gEq, gNe, gEqB, refD, scalEq, gLen, gAbs, gMax, gMin, gTuple, gIxS, tupOf, outS, fin_same, thenG, loopS, truD_bl, truD_tup, fgTup, fgCons, fgNil, this, fin_exc, bind_exc, thenS_exc]
theorem x_atoms {v : D} {M : AH} (h : F_is_state [v] M = .ok (.bl false) M) : F_atoms_of [v] M = .exc "InvalidJob" none M := by
  have := e_chkx h
  simp [F_atoms_of, fnF, fnK, fSeq, fRet, fRetN, fAsg, fgName, fDrop, fNext, fNever, fIfS, fPar, fFor, fAndV, fOrV, fNotV, fNotW, fAnd, fOr, fNot, fTest, fTru, fIf, fChain, fOp, fUn, fCB, fCons, fNil, fTup, fLst, fCall, fVar, fC, fSl, fPart, fNoPart, fBM, fM0, fM1, mAsk, fFld, fMeth, fPropN, fCMeth, fDNew, fDGet2, fDGet, fDPut, fLc, fYes, fiList, fiTup, bind_ok, thenS_ok, asB_bl, j_ii, j_ib, j_ss, j_tt, gLt, gLe, gGt, gGe, gCmp, gAdd, gSubI, gMul, gMod, gDiv, gEq, gNe, gEqB, refD, scalEq, gLen, gAbs, gMax, gMin, gTuple, gIxS, tupOf, outS, fin_same, thenG, loopS, truD_bl, truD_tup, fgTup, fgCons, fgNil, this, fin_exc, bind_exc, thenS_exc]
theorem x_fol1 {v u : D} {M : AH} (h : F_is_state [v] M = .ok (.bl false) M) : F_may_follow [v, u] M = .exc "InvalidJob" none M := by
  have := e_chkx h
  simp [F_may_follow, fnF, fnK, fSeq, fRet, fRetN, fAsg, fgName, fDrop, fNext, fNever, fIfS, fPar, fFor, fAndV, fOrV, fNotV, fNotW, fAnd, fOr, fNot, fTest, fTru, fIf, fChain, fOp, fUn, fCB, fCons, fNil, fTup, fLst, fCall, fVar, fC, fSl, fPart, fNoPart, fBM, fM0, fM1, mAsk, fFld, fMeth, fPropN, fCMeth, fDNew, fDGet2, fDGet, fDPut, fLc, fYes, fiList, fiTup, bind_ok, thenS_ok, asB_bl, j_ii, j_ib, j_ss, j_tt, gLt, gLe, gGt, gGe, gCmp, gAdd, gSubI, gMul, gMod, gDiv, gEq, gNe, gEqB, refD, scalEq, gLen, gAbs, gMax, gMin, gTuple, gIxS, tupOf, outS, fin_same, thenG, loopS, truD_bl, truD_tup, fgTup, fgCons, fgNil, this, fin_exc, bind_exc, thenS_exc]
theorem x_fol2 {v u : D} {M : AH} (h0 : F_is_state [v] M = .ok (.bl true) M) (h : F_is_state [u] M = .ok (.bl false) M) : F_may_follow [v, u] M = .exc "InvalidJob" none M := by
  have h1 := e_chks h0
  have := e_chkx h
  simp [F_may_follow, fnF, fnK, fSeq, fRet, fRetN, fAsg, fgName, fDrop, fNext, fNever, fIfS, fPar, fFor, fAndV, fOrV, fNotV, fNotW, fAnd, fOr, fNot, fTest, fTru, fIf, fChain, fOp, fUn, fCB, fCons, fNil, fTup, fLst, fCall, fVar, fC, fSl, fPart, fNoPart, fBM, fM0, fM1, mAsk, fFld, fMeth, fPropN, fCMeth, fDNew, fDGet2, fDGet, fDPut, fLc, fYes, fiList, fiTup, bind_ok, thenS_ok, asB_bl, j_ii, j_ib, j_ss, j_tt, gLt, gLe, gGt, gGe, gCmp, gAdd, gSubI, gMul, gMod, gDiv, gEq, gNe, gEqB, refD, scalEq, gLen, gAbs, gMax, gMin, gTuple, gIxS, tupOf, outS, fin_same, thenG, loopS, truD_bl, truD_tup, fgTup, fgCons, fgNil, h1, this, fin_exc, bind_exc, thenS_exc]
def wlist (q : Nat) : List D := [.non, .int 0, s_ "over", s_ "Well", s_ "", .tup [s_ "well"], .ref q, .ref (q + 1), .bl true]
theorem e_word {x : D} {q : Nat} {M : AH} (h : x ∈ wlist q) (h1 : M[q]? = some (.lst [])) (h2 : M[q + 1]? = some (.dct [] [])) : F_is_state [x] M = .ok (.bl false) M := by
  simp only [wlist, List.mem_cons, List.not_mem_nil, or_false] at h
  rcases h with rfl | rfl | rfl | rfl | rfl | rfl | rfl | rfl | rfl
  · exact e_isno js_non
  · exact e_isno js_int
  · exact (e_isst _ _).trans (by congr 2)
  · exact (e_isst _ _).trans (by congr 2)
  · exact (e_isst _ _).trans (by congr 2)
  · exact e_isno js_tup
  · exact e_isno (js_lst h1)
  · exact e_isno (js_dct h2)
  · exact e_isno js_bl
theorem e_dice {ns : List Int} {i : Int} {M : AH} (h0 : 0 ≤ i) : ∃ x y z : Int, F__law_dice [.lsk (ns.map .int), .int i] M = .ok (.ref M.length) (M ++ [.lst [.int x, .int y, .int z]]) := by
  have z3 : 3 ≤ sizeLine := size600 (by decide)
  have p16 : CPow 10 16 := by unfold CPow; decide
  have p60 : CPow 10 60 := by unfold CPow; decide
  have mu : CMul 1000000000000000000000000000000000000000000000000000000000000 1000000000000000000000000000000000000000000000000000000000000 ∨ CMulW 1000000000000000000000000000000000000000000000000000000000000 1000000000000000000000000000000000000000000000000000000000000 := .inr (by unfold CMulW; decide +kernel)
  have c1 : ∀ i, CMul 71 i ∨ CMulW 71 i := fun i => cm_l (by decide)
  have c2 : ∀ i, CMul i 59 ∨ CMulW i 59 := fun i => cm_r (by decide)
  have c3 : ∀ i, CMul 821 i ∨ CMulW 821 i := fun i => cm_l (by decide)
  have c4 : ∀ i, CMul 37 i ∨ CMulW 37 i := fun i => cm_l (by decide)
  by_cases hi : i < ns.length
  · obtain ⟨j, rfl⟩ := Int.eq_ofNat_of_zero_le h0
    have hj : j < ns.length := by omega
    have ha : atI (ns.map D.int) j = some (.int ns[j]) := atI_nat (by rw [List.getElem?_map, List.getElem?_eq_getElem hj]; rfl)
    simp [F__law_dice, fnF, fnK, fSeq, fRet, fRetN, fAsg, fgName, fDrop, fNext, fNever, fIfS, fPar, fFor, fAndV, fOrV, fNotV, fNotW, fAnd, fOr, fNot, fTest, fTru, fIf, fChain, fOp, fUn, fCB, fCons, fNil, fTup, fLst, fCall, fVar, fC, fSl, fPart, fNoPart, fBM, fM0, fM1, mAsk, fFld, fMeth, fPropN, fCMeth, fDNew, fDGet2, fDGet, fDPut, fLc, fYes, fiList, fiTup, bind_ok, thenS_ok, asB_bl, j_ii, j_ib, j_ss, j_tt, gLt, gLe, gGt, gGe, gCmp, gAdd, gSubI, gMul, gMod, gDiv, gEq, gNe, gEqB, refD, scalEq, gLen, gAbs, gMax, gMin, gTuple, gIxS, tupOf, outS, fin_same, thenG, loopS, truD_bl, truD_tup, fgTup, fgCons, fgNil, tupOf, G.listOf, gIxS, ha, gInt, gPow, hj, z3, p16, p60, mu, c1, c2, c3, c4]
  · simp [F__law_dice, fnF, fnK, fSeq, fRet, fRetN, fAsg, fgName, fDrop, fNext, fNever, fIfS, fPar, fFor, fAndV, fOrV, fNotV, fNotW, fAnd, fOr, fNot, fTest, fTru, fIf, fChain, fOp, fUn, fCB, fCons, fNil, fTup, fLst, fCall, fVar, fC, fSl, fPart, fNoPart, fBM, fM0, fM1, mAsk, fFld, fMeth, fPropN, fCMeth, fDNew, fDGet2, fDGet, fDPut, fLc, fYes, fiList, fiTup, bind_ok, thenS_ok, asB_bl, j_ii, j_ib, j_ss, j_tt, gLt, gLe, gGt, gGe, gCmp, gAdd, gSubI, gMul, gMod, gDiv, gEq, gNe, gEqB, refD, scalEq, gLen, gAbs, gMax, gMin, gTuple, gIxS, tupOf, outS, fin_same, thenG, loopS, truD_bl, truD_tup, fgTup, fgCons, fgNil, tupOf, G.listOf, gIxS, gInt, gPow, hi, z3, p16, p60, mu, c1, c2, c3, c4]
theorem Fo.clo {h : Nat} {v : D} (f : Fo h v) (n : Nat) : D.clo n v = true := by
  induction f with
  | «at» => simp
  | nd a b c d ih => simp; exact cloL_all ih
theorem Fo.form {h : Nat} {v : D} (f : Fo h v) : ∃ w b, v = .tup [.str w, b] := by
  cases f <;> exact ⟨_, _, rfl⟩
end K30
namespace K30
open PySem L2 G
theorem mul5 {j : Nat} {N : AH} (h : N[j]? = some (.lst [.bl true])) : gMul (.ref j) (.int 5) N = .ok (.ref N.length) (N ++ [.lst (List.replicate 5 (.bl true))]) := by
  have z5 : 5 ≤ sizeLine := zz (by decide)
  have c : (5 : Int) < 2 ^ 63 ∧ -(2 ^ 63) ≤ (5 : Int) ∧ [D.bl true].length * (5 : Int).toNat ≤ sizeLine := ⟨by decide, by decide, z5⟩
  simp only [gMul, h, c, and_self, if_true]
  rfl
theorem e_filter {B : List D} {δ : AS} {M : AH} {a0 a1 a2 a3 a4 a6 a7 a8 a9 a10 a11 : Option D} (hB : ∀ x ∈ B, ∀ M, F_is_after_formula [x] M = .ok (.bl false) M) (hl : B.length ≤ 500) :
    fLcL (fun _ => true) (fgName 5) (fTest (fOp (gIsB true) (fCall F_is_after_formula (fCons (fVar 5) fNil)) (fC (.bl false)))) (fVar 5) [a0, a1, a2, a3, a4, none, a6, a7, a8, a9, a10, a11] B [] M = .ok [] M := by
  have := lc_fm (chk := fun _ => true) (g := fgName 5) (t := fTest (fOp (gIsB true) (fCall F_is_after_formula (fCons (fVar 5) fNil)) (fC (.bl false)))) (e := fVar 5) (δ := [a0, a1, a2, a3, a4, none, a6, a7, a8, a9, a10, a11]) (M := M) (fun _ => none) rfl B [] (zz (by simp; omega)) fun x hx => by
    have e := hB x hx
    exact ⟨[a0, a1, a2, a3, a4, some x, a6, a7, a8, a9, a10, a11], rfl, by simp [fnF, fnK, fSeq, fRet, fRetN, fAsg, fgName, fDrop, fNext, fNever, fIfS, fPar, fFor, fAndV, fOrV, fNotV, fNotW, fAnd, fOr, fNot, fTest, fTru, fIf, fChain, fOp, fUn, fCB, fCons, fNil, fTup, fLst, fCall, fVar, fC, fSl, fPart, fNoPart, fBM, fM0, fM1, mAsk, fFld, fMeth, fPropN, fCMeth, fDNew, fDGet2, fDGet, fDPut, fLc, fYes, fiList, fiTup, bind_ok, thenS_ok, asB_bl, j_ii, j_ib, j_ss, j_tt, gLt, gLe, gGt, gGe, gCmp, gAdd, gSubI, gMul, gMod, gDiv, gEq, gNe, gEqB, refD, scalEq, gLen, gAbs, gMax, gMin, gTuple, gIxS, tupOf, outS, fin_same, thenG, loopS, truD_bl, truD_tup, fgTup, fgCons, fgNil, e, gIsB]⟩
  rw [this]
  simp
def fTold : FS := (fSeq (fAsg (fLst (fCons (fLam F__law_is_refused (fCall F_jobs_named (fCons (fVar 6) fNil))) fNil)) (fgName 8))
    (fSeq (fDrop (fBM "list" mAppend (fVar 8) (fCons (fLam F__law_is_refused (fCall F_ends_of (fCons (fVar 7) fNil))) fNil)))
    (fSeq (fDrop (fBM "list" mAppend (fVar 8) (fCons (fLam F__law_is_refused (fCall F_atoms_of (fCons (fVar 7) fNil))) fNil)))
    (fSeq (fDrop (fBM "list" mAppend (fVar 8) (fCons (fLam F__law_is_refused (fCall F_may_follow (fCons (fC (.str (Str.ofString "waiting"))) (fCons (fVar 7) fNil)))) fNil)))
    (fSeq (fDrop (fBM "list" mAppend (fVar 8) (fCons (fLam F__law_is_refused (fCall F_may_follow (fCons (fVar 7) (fCons (fC (.str (Str.ofString "left"))) fNil)))) fNil)))
    (fSeq (fIfS (fOr (fTest (fOp gNe (fVar 8) (fOp gMul (fLst (fCons (fC (.bl true)) fNil)) (fC (.int 5))))) (fTest (fOp (gIsB true) (fCall F_is_state (fCons (fVar 7) fNil)) (fC (.bl false))))) (fSeq (fRet (fC (.bl false))) fNext) fNext) fNext))))))
theorem e_told {ns : List Int} {x1 x2 x3 x4 x5 x8 x9 x10 x11 : Option D} {odd word : D} {q : Nat} {N : AH} (h1 : ∀ M, F_is_after_formula [odd] M = .ok (.bl false) M) (hw : word ∈ wlist q) (n1 : N[q]? = some (.lst [])) (n2 : N[q + 1]? = some (.dct [] [])) :
    ∃ M', fTold
      [some (.lsk (ns.map .int)), x1, x2, x3, x4, x5, some odd, some word, x8, x9, x10, x11] N = .nx [some (.lsk (ns.map .int)), x1, x2, x3, x4, x5, some odd, some word, some (.ref N.length), x9, x10, x11] M' := by
  have z1 : 1 ≤ sizeLine := zz (by decide)
  have s0 : 0 < sizeLine := zz (n := 1) (by decide)
  have s1 : 1 < sizeLine := zz (n := 2) (by decide)
  have s2 : 2 < sizeLine := zz (n := 3) (by decide)
  have s3 : 3 < sizeLine := zz (n := 4) (by decide)
  have s4 : 4 < sizeLine := zz (n := 5) (by decide)
  have lt1 : q < N.length := (List.getElem?_eq_some_iff.mp n1).1
  have lt2 : q + 1 < N.length := (List.getElem?_eq_some_iff.mp n2).1
  have st : ∀ Y : AH, F_is_state [word] (N ++ Y) = .ok (.bl false) (N ++ Y) := fun Y => e_word hw (by rw [List.getElem?_append_left lt1, n1]) (by rw [List.getElem?_append_left lt2, n2])
  have wt : ∀ M, F_is_state [s_ "waiting"] M = .ok (.bl true) M := fun M => (e_isst _ _).trans (by congr 2)
  have r1 : ∀ δ, F__law_is_refused (fCall F_jobs_named (fCons (fVar 6) fNil) ([some (.lsk (ns.map .int)), x1, x2, x3, x4, x5, some odd, some word] ++ δ)) N = .ok (.bl true) N := fun δ => e_refused (c := "InvalidFormula") (by simp [fnF, fnK, fSeq, fRet, fRetN, fAsg, fgName, fDrop, fNext, fNever, fIfS, fPar, fFor, fAndV, fOrV, fNotV, fNotW, fAnd, fOr, fNot, fTest, fTru, fIf, fChain, fOp, fUn, fCB, fCons, fNil, fTup, fLst, fCall, fVar, fC, fSl, fPart, fNoPart, fBM, fM0, fM1, mAsk, fFld, fMeth, fPropN, fCMeth, fDNew, fDGet2, fDGet, fDPut, fLc, fYes, fiList, fiTup, bind_ok, thenS_ok, asB_bl, j_ii, j_ib, j_ss, j_tt, gLt, gLe, gGt, gGe, gCmp, gAdd, gSubI, gMul, gMod, gDiv, gEq, gNe, gEqB, refD, scalEq, gLen, gAbs, gMax, gMin, gTuple, gIxS, tupOf, outS, fin_same, thenG, loopS, truD_bl, truD_tup, fgTup, fgCons, fgNil, x_named (h1 N)]) (.inl rfl)
  have r2 : ∀ δ Y, F__law_is_refused (fCall F_ends_of (fCons (fVar 7) fNil) ([some (.lsk (ns.map .int)), x1, x2, x3, x4, x5, some odd, some word] ++ δ)) (N ++ Y) = .ok (.bl true) (N ++ Y) := fun δ Y => e_refused (c := "InvalidJob") (by simp [fnF, fnK, fSeq, fRet, fRetN, fAsg, fgName, fDrop, fNext, fNever, fIfS, fPar, fFor, fAndV, fOrV, fNotV, fNotW, fAnd, fOr, fNot, fTest, fTru, fIf, fChain, fOp, fUn, fCB, fCons, fNil, fTup, fLst, fCall, fVar, fC, fSl, fPart, fNoPart, fBM, fM0, fM1, mAsk, fFld, fMeth, fPropN, fCMeth, fDNew, fDGet2, fDGet, fDPut, fLc, fYes, fiList, fiTup, bind_ok, thenS_ok, asB_bl, j_ii, j_ib, j_ss, j_tt, gLt, gLe, gGt, gGe, gCmp, gAdd, gSubI, gMul, gMod, gDiv, gEq, gNe, gEqB, refD, scalEq, gLen, gAbs, gMax, gMin, gTuple, gIxS, tupOf, outS, fin_same, thenG, loopS, truD_bl, truD_tup, fgTup, fgCons, fgNil, x_ends (st Y)]) (.inr rfl)
  have r3 : ∀ δ Y, F__law_is_refused (fCall F_atoms_of (fCons (fVar 7) fNil) ([some (.lsk (ns.map .int)), x1, x2, x3, x4, x5, some odd, some word] ++ δ)) (N ++ Y) = .ok (.bl true) (N ++ Y) := fun δ Y => e_refused (c := "InvalidJob") (by simp [fnF, fnK, fSeq, fRet, fRetN, fAsg, fgName, fDrop, fNext, fNever, fIfS, fPar, fFor, fAndV, fOrV, fNotV, fNotW, fAnd, fOr, fNot, fTest, fTru, fIf, fChain, fOp, fUn, fCB, fCons, fNil, fTup, fLst, fCall, fVar, fC, fSl, fPart, fNoPart, fBM, fM0, fM1, mAsk, fFld, fMeth, fPropN, fCMeth, fDNew, fDGet2, fDGet, fDPut, fLc, fYes, fiList, fiTup, bind_ok, thenS_ok, asB_bl, j_ii, j_ib, j_ss, j_tt, gLt, gLe, gGt, gGe, gCmp, gAdd, gSubI, gMul, gMod, gDiv, gEq, gNe, gEqB, refD, scalEq, gLen, gAbs, gMax, gMin, gTuple, gIxS, tupOf, outS, fin_same, thenG, loopS, truD_bl, truD_tup, fgTup, fgCons, fgNil, x_atoms (st Y)]) (.inr rfl)
  have r4 : ∀ δ Y, F__law_is_refused (fCall F_may_follow (fCons (fC (.str (Str.ofString "waiting"))) (fCons (fVar 7) fNil)) ([some (.lsk (ns.map .int)), x1, x2, x3, x4, x5, some odd, some word] ++ δ)) (N ++ Y) = .ok (.bl true) (N ++ Y) := fun δ Y => e_refused (c := "InvalidJob") (by simp [fnF, fnK, fSeq, fRet, fRetN, fAsg, fgName, fDrop, fNext, fNever, fIfS, fPar, fFor, fAndV, fOrV, fNotV, fNotW, fAnd, fOr, fNot, fTest, fTru, fIf, fChain, fOp, fUn, fCB, fCons, fNil, fTup, fLst, fCall, fVar, fC, fSl, fPart, fNoPart, fBM, fM0, fM1, mAsk, fFld, fMeth, fPropN, fCMeth, fDNew, fDGet2, fDGet, fDPut, fLc, fYes, fiList, fiTup, bind_ok, thenS_ok, asB_bl, j_ii, j_ib, j_ss, j_tt, gLt, gLe, gGt, gGe, gCmp, gAdd, gSubI, gMul, gMod, gDiv, gEq, gNe, gEqB, refD, scalEq, gLen, gAbs, gMax, gMin, gTuple, gIxS, tupOf, outS, fin_same, thenG, loopS, truD_bl, truD_tup, fgTup, fgCons, fgNil, x_fol2 (wt _) (st Y)]) (.inr rfl)
  have r5 : ∀ δ Y, F__law_is_refused (fCall F_may_follow (fCons (fVar 7) (fCons (fC (.str (Str.ofString "left"))) fNil)) ([some (.lsk (ns.map .int)), x1, x2, x3, x4, x5, some odd, some word] ++ δ)) (N ++ Y) = .ok (.bl true) (N ++ Y) := fun δ Y => e_refused (c := "InvalidJob") (by simp [fnF, fnK, fSeq, fRet, fRetN, fAsg, fgName, fDrop, fNext, fNever, fIfS, fPar, fFor, fAndV, fOrV, fNotV, fNotW, fAnd, fOr, fNot, fTest, fTru, fIf, fChain, fOp, fUn, fCB, fCons, fNil, fTup, fLst, fCall, fVar, fC, fSl, fPart, fNoPart, fBM, fM0, fM1, mAsk, fFld, fMeth, fPropN, fCMeth, fDNew, fDGet2, fDGet, fDPut, fLc, fYes, fiList, fiTup, bind_ok, thenS_ok, asB_bl, j_ii, j_ib, j_ss, j_tt, gLt, gLe, gGt, gGe, gCmp, gAdd, gSubI, gMul, gMod, gDiv, gEq, gNe, gEqB, refD, scalEq, gLen, gAbs, gMax, gMin, gTuple, gIxS, tupOf, outS, fin_same, thenG, loopS, truD_bl, truD_tup, fgTup, fgCons, fgNil, x_fol1 (st Y)]) (.inr rfl)
  simp only [List.cons_append, List.nil_append] at r1 r2 r3 r4 r5
  have m5 := mul5 (j := N.length + 1) (N := N ++ [.lst (List.replicate 5 (.bl true)), .lst [.bl true]]) (by simp)
  have n5 := ne_five (i := N.length) (j := N.length + 2) (M := N ++ [.lst (List.replicate 5 (.bl true)), .lst [.bl true], .lst (List.replicate 5 (.bl true))]) (by simp) (by simp)
  have st5 := st [.lst (List.replicate 5 (.bl true)), .lst [.bl true], .lst (List.replicate 5 (.bl true))]
  simp only [List.replicate_succ, List.replicate_zero, List.append_assoc, List.cons_append, List.nil_append, List.length_append, List.length_cons, List.length_nil] at m5 n5 st5
  refine ⟨N ++ [.lst (List.replicate 5 (.bl true)), .lst [.bl true], .lst (List.replicate 5 (.bl true))], ?_⟩
  simp [fTold, fnF, fnK, fSeq, fRet, fRetN, fAsg, fgName, fDrop, fNext, fNever, fIfS, fPar, fFor, fAndV, fOrV, fNotV, fNotW, fAnd, fOr, fNot, fTest, fTru, fIf, fChain, fOp, fUn, fCB, fCons, fNil, fTup, fLst, fCall, fVar, fC, fSl, fPart, fNoPart, fBM, fM0, fM1, mAsk, fFld, fMeth, fPropN, fCMeth, fDNew, fDGet2, fDGet, fDPut, fLc, fYes, fiList, fiTup, bind_ok, thenS_ok, asB_bl, j_ii, j_ib, j_ss, j_tt, gLt, gLe, gGt, gGe, gCmp, gAdd, gSubI, gMod, gDiv, gLen, gAbs, gMax, gMin, gTuple, gIxS, tupOf, outS, fin_same, thenG, loopS, truD_bl, truD_tup, fgTup, fgCons, fgNil, fLam, r1, r2, r3, r4, r5, z1, tyM, mAppend, s0, s1, s2, s3, s4, m5, n5, st5, gIsB, List.replicate]
end K30
namespace K30
open PySem L2 G
theorem e_body {ns : List Int} {i : Int} {x2 x3 x4 x5 x6 x7 x8 x9 x10 x11 : Option D} {M : AH} (h0 : 0 ≤ i) :
    ∃ y1 y2 y3 y4 y5 y6 y7 y8 y9 y10 y11 M', L_law_1 [some (.lsk (ns.map .int)), some (.int i), x2, x3, x4, x5, x6, x7, x8, x9, x10, x11] M = .nx [some (.lsk (ns.map .int)), y1, y2, y3, y4, y5, y6, y7, y8, y9, y10, y11] M' := by
  have z0 : 0 ≤ sizeLine := Nat.zero_le _
  have z1 : 1 ≤ sizeLine := zz (by decide)
  have z2 : 2 ≤ sizeLine := zz (by decide)
  have z4 : 4 ≤ sizeLine := zz (by decide)
  have z9 : 9 ≤ sizeLine := zz (by decide)
  obtain ⟨x, y, z, e1⟩ := e_dice (ns := ns) (i := i) (M := M) h0
  have d1 : Dc M.length (M ++ [.lst [.int x, .int y, .int z]] ++ [.lst (Js.map .int)]) := ⟨x, y, z, by simp⟩
  obtain ⟨v, H2, fo, m2, e2⟩ := e_drawn3 (d := M.length) (l := M.length + 1) d1 (by simp) (by omega)
  obtain ⟨w, b, hv⟩ := fo.form
  have e3 := e_is fo H2
  have e4 := e_named fo H2
  have e5 := e_after3 fo H2
  have e6 := ne_ints (xs := can (jb v)) (M := H2)
  have e7 := e_bent (d := M.length) (M := H2) hv fo.clo
  have hB : ∀ x ∈ bentD w b v, ∀ M, F_is_after_formula [x] M = .ok (.bl false) M := fun x hx M => e_chk (e_bent_bad hv x hx) M
  have e8 := e_filter (δ := []) (M := H2) (a0 := some (.lsk (ns.map .int))) (a1 := some (.int i)) (a2 := some (.ref M.length)) (a3 := some v) (a4 := some (.lst (bentD w b v))) (a6 := x6) (a7 := x7) (a8 := x8) (a9 := x9) (a10 := x10) (a11 := x11) hB (by simp [bentD, bt1, bt2])
  have e9 := ne_nil (i := H2.length) (j := H2.length + 1) (M := H2 ++ [.lst [], .lst []]) (by simp) (by simp)
  have d2 := m2.dc d1.lt
  have bc : ∀ n, ∀ x ∈ bentD w b v, D.clo n x = true := fun n x hx => by
    have hb : ∀ n, D.clo n b = true := fun n => by have := fo.clo n; rw [hv] at this; simpa using this
    have ho : ∀ n, D.clo n one = true := fun n => by simp [one]
    have hR : ∀ n k, D.cloL n (List.replicate k one) = true := fun n k => cloL_all fun d hd => by rw [List.eq_of_mem_replicate hd]; exact ho n
    have hd : ∀ n k, D.clo n (deepD v k) = true := fun n k => by
      induction k with
      | zero => exact fo.clo n
      | succ k ih => simp [deepD, ih, ho]
    have hl : ∀ n, D.cloL n (lefts [1, 2, 3, 4, 5, 6, 7]) = true := fun n => by simp [lefts]
    have hm : ∀ n, D.clo n many = true := fun n => by simp [many, hR, ho]
    have hc := fo.clo
    simp only [bentD, bt1, bt2, List.cons_append, List.nil_append, List.mem_cons, List.not_mem_nil, or_false] at hx
    rcases hx with rfl | rfl | rfl | rfl | rfl | rfl | rfl | rfl | rfl | rfl | rfl | rfl | rfl | rfl | rfl | rfl | rfl | rfl | rfl | rfl | rfl | rfl | rfl | rfl <;> simp [hb, ho, hR, hd, hl, hm, hc]
  obtain ⟨odd, ho, H4, m4, e10⟩ := e_pickL (d := M.length) (M := H2 ++ [.lst [], .lst []]) (xs := bentD w b v) (d2.app _) (by simp [bentD, bt1, bt2]) (by simp [bentD, bt1, bt2]) (bc _)
  have d4 := m4.dc (d2.app [.lst [], .lst []]).lt
  have lt4 := d4.lt
  obtain ⟨word, hw, H6, m6, e11⟩ := e_pick (d := M.length) (l := H4.length + 2) (M := H4 ++ [.lst [], .dct [] [], .lst (wlist H4.length)]) (xs := wlist H4.length) (d4.app _) (by simp) (by omega) (by simp [wlist]) (by simp [wlist]) (fun x hx => by
    simp only [wlist, List.mem_cons, List.not_mem_nil, or_false] at hx
    rcases hx with rfl | rfl | rfl | rfl | rfl | rfl | rfl | rfl | rfl <;> simp [D.clo])
  have n1 : H6[H4.length]? = some (.lst []) := by rw [m6.old (by omega)]; simp
  have n2 : H6[H4.length + 1]? = some (.dct [] []) := by rw [m6.old (by omega)]; simp
  obtain ⟨M', e12⟩ := e_told (ns := ns) (x1 := some (.int i)) (x2 := some (.ref M.length)) (x3 := some v) (x4 := some (.lst (bentD w b v))) (x5 := x5) (x8 := x8) (x9 := x9) (x10 := x10) (x11 := x11) (odd := odd) (word := word) (q := H4.length) (N := H6) (hB odd ho) hw n1 n2
  refine ⟨some (.int i), some (.ref M.length), some v, some (.lst (bentD w b v)), x5, some odd, some word, some (.ref H6.length), x9, x10, x11, M', ?_⟩
  simp only [wlist, List.append_assoc, List.cons_append, List.nil_append, Js, List.map_cons, List.map_nil] at e2 e11
  generalize bentD w b v = B at *
  have hL : L_law_1 = (fSeq (fAsg (fCall F__law_dice (fCons (fVar 0) (fCons (fVar 1) fNil))) (fgName 2)) (fSeq (fAsg (fCall F__law_after_drawn (fCons (fVar 2) (fCons (fLst (fCons (fC (.int 1)) (fCons (fC (.int 2)) (fCons (fC (.int 30)) (fCons (fC (.int 1000000)) fNil))))) (fCons (fC (.int 3)) fNil)))) (fgName 3)) (fSeq (fIfS (fOr (fTest (fOp (gIsB true) (fCall F_is_after_formula (fCons (fVar 3) fNil)) (fC (.bl true)))) (fTest (fOp gNe (fCall F_jobs_named (fCons (fVar 3) fNil)) (fCB gTuple (fCons (fCall F__law_after_jobs (fCons (fVar 3) fNil)) fNil))))) (fSeq (fRet (fC (.bl false))) fNext) fNext) (fSeq (fAsg (fCall F__law_bent (fCons (fVar 2) (fCons (fVar 3) fNil))) (fgName 4)) (fSeq (fIfS (fTest (fOp gNe (fLc (fiList (fVar 4)) (fgName 5) (fTest (fOp (gIsB true) (fCall F_is_after_formula (fCons (fVar 5) fNil)) (fC (.bl false)))) (fVar 5) [5]) (fLst fNil))) (fSeq (fRet (fC (.bl false))) fNext) fNext) (fSeq (fAsg (fTup (fCons (fCall F__law_pick (fCons (fVar 2) (fCons (fVar 4) fNil))) (fCons (fCall F__law_pick (fCons (fVar 2) (fCons (fLst (fCons (fC .non) (fCons (fC (.int 0)) (fCons (fC (.str (Str.ofString "over"))) (fCons (fC (.str (Str.ofString "Well"))) (fCons (fC (.str (Str.ofString ""))) (fCons (fTup (fCons (fC (.str (Str.ofString "well"))) fNil)) (fCons (fLst fNil) (fCons fDNew (fCons (fC (.bl true)) fNil)))))))))) fNil))) fNil))) (fgTup 2 (fgCons (fgName 6) (fgCons (fgName 7) fgNil)))) fTold)))))) := rfl
  generalize (can (jb v)).map D.int = C at *
  generalize ns.map D.int = S at *
  simp [hL, fnF, fnK, fSeq, fRet, fRetN, fAsg, fgName, fDrop, fNext, fNever, fIfS, fPar, fFor, fAndV, fOrV, fNotV, fNotW, fAnd, fOr, fNot, fTest, fTru, fIf, fChain, fOp, fUn, fCB, fCons, fNil, fTup, fLst, fCall, fVar, fC, fSl, fPart, fNoPart, fBM, fM0, fM1, mAsk, fFld, fMeth, fPropN, fCMeth, fDNew, fDGet2, fDGet, fDPut, fLc, fYes, fiList, fiTup, bind_ok, thenS_ok, asB_bl, j_ii, j_ib, j_ss, j_tt, gLt, gLe, gGt, gGe, gCmp, gAdd, gSubI, gMul, gMod, gDiv, gLen, gAbs, gMax, gMin, gTuple, gIxS, tupOf, outS, fin_same, thenG, loopS, truD_bl, truD_tup, fgTup, fgCons, fgNil, e1, e2, e3, gIsB, e4, e5, G.listOf, e6, e7, itmOf, wipeD, e8, e9, e10, e11, z0, z1, z2, z4, z9, e12]
theorem e_one : F_is_after_formula [.tup [s_ "and", .tup [.tup [s_ "or", .tuq (List.replicate 19 one)], .tup [s_ "or", .tuq (List.replicate 19 one)], .tup [s_ "or", .tuq (List.replicate 18 one)]]]] = fun M => .ok (.bl true) M := by
  funext M
  exact e_chk (by decide +kernel) M
theorem e_six : F_is_after_formula [.tup [s_ "and", .tup (lefts [1, 2, 3, 4, 5, 6])]] = fun M => .ok (.bl true) M := by
  funext M
  exact e_chk (by decide +kernel) M
end K30
namespace K30
open PySem L2 G
theorem rg6 {δ : AS} {M : AH} : fiRng1 (fC (.int 6)) δ M = .ok (rngD 0 1 6, fun _ => true) M := by
  have h1 : -(2 ^ 62 : Int) ≤ 6 ∧ (6 : Int) < 2 ^ 62 := by decide
  simp only [fiRng1, fC, bind_ok, h1, and_self, if_true]
  rfl
theorem e_left6 {M : AH} {a0 a1 a2 a3 a4 a5 a6 a7 a8 a9 a10 : Option D} : fLcL (fun _ => true) (fgName 11) fYes (fTup (fCons (fC (.str (Str.ofString "left"))) (fCons (fOp gAdd (fVar 11) (fC (.int 1))) fNil))) [a0, a1, a2, a3, a4, a5, a6, a7, a8, a9, a10, none] (rngD 0 1 6) [] M = .ok (lefts [1, 2, 3, 4, 5, 6]) M := by
  have z2 : 2 ≤ sizeLine := zz (by decide)
  have e : rngD 0 1 6 = ([0, 1, 2, 3, 4, 5] : List Int).map D.int := by rfl
  rw [e, lc_map (fun x => match x with | .int i => .tup [s_ "left", .int (i + 1)] | _ => .non) rfl _ (zz (by decide)) fun x hx => by
    obtain ⟨i, _, rfl⟩ := List.mem_map.mp hx
    exact ⟨[a0, a1, a2, a3, a4, a5, a6, a7, a8, a9, a10, some (.int i)], rfl, rfl, by simp [fnF, fnK, fSeq, fRet, fRetN, fAsg, fgName, fDrop, fNext, fNever, fIfS, fPar, fFor, fAndV, fOrV, fNotV, fNotW, fAnd, fOr, fNot, fTest, fTru, fIf, fChain, fOp, fUn, fCB, fCons, fNil, fTup, fLst, fCall, fVar, fC, fSl, fPart, fNoPart, fBM, fM0, fM1, mAsk, fFld, fMeth, fPropN, fCMeth, fDNew, fDGet2, fDGet, fDPut, fLc, fYes, fiList, fiTup, bind_ok, thenS_ok, asB_bl, j_ii, j_ib, j_ss, j_tt, gLt, gLe, gGt, gGe, gCmp, gAdd, gSubI, gMul, gMod, gDiv, gEq, gNe, gEqB, refD, scalEq, gLen, gAbs, gMax, gMin, gTuple, gIxS, tupOf, outS, fin_same, thenG, loopS, truD_bl, truD_tup, fgTup, fgCons, fgNil, z2]⟩]
  rfl
theorem e_law (ns : List Int) (h : ns.length ≤ 63) : F_law [.lsk (ns.map .int)] [] = .ok (.bl true) [] := by
  obtain ⟨c, hc0, hc1, hc⟩ : ∃ c : Nat, 1 ≤ c ∧ c ≤ 4 ∧ (fCB gMax (fCons (fC (.int 1)) (fCons (fCB gMin (fCons (fC (.int 4)) (fCons (fCB gLen (fCons (fVar 0) fNil)) fNil))) fNil))) [some (.lsk (ns.map .int)), none, none, none, none, none, none, none, none, none, none, none] [] = .ok (.int (c : Int)) [] := by
    by_cases h1 : (ns.length : Int) < 4
    · by_cases h2 : (1 : Int) < ns.length
      · exact ⟨ns.length, by omega, by omega, by simp [fnF, fnK, fSeq, fRet, fRetN, fAsg, fgName, fDrop, fNext, fNever, fIfS, fPar, fFor, fAndV, fOrV, fNotV, fNotW, fAnd, fOr, fNot, fTest, fTru, fIf, fChain, fOp, fUn, fCB, fCons, fNil, fTup, fLst, fCall, fVar, fC, fSl, fPart, fNoPart, fBM, fM0, fM1, mAsk, fFld, fMeth, fPropN, fCMeth, fDNew, fDGet2, fDGet, fDPut, fLc, fYes, fiList, fiTup, bind_ok, thenS_ok, asB_bl, j_ii, j_ib, j_ss, j_tt, gLt, gLe, gGt, gGe, gCmp, gAdd, gSubI, gMul, gMod, gDiv, gEq, gNe, gEqB, refD, scalEq, gLen, gAbs, gMax, gMin, gTuple, gIxS, tupOf, outS, fin_same, thenG, loopS, truD_bl, truD_tup, fgTup, fgCons, fgNil, tupOf, G.listOf, h1, h2]⟩
      · exact ⟨1, by omega, by omega, by simp [fnF, fnK, fSeq, fRet, fRetN, fAsg, fgName, fDrop, fNext, fNever, fIfS, fPar, fFor, fAndV, fOrV, fNotV, fNotW, fAnd, fOr, fNot, fTest, fTru, fIf, fChain, fOp, fUn, fCB, fCons, fNil, fTup, fLst, fCall, fVar, fC, fSl, fPart, fNoPart, fBM, fM0, fM1, mAsk, fFld, fMeth, fPropN, fCMeth, fDNew, fDGet2, fDGet, fDPut, fLc, fYes, fiList, fiTup, bind_ok, thenS_ok, asB_bl, j_ii, j_ib, j_ss, j_tt, gLt, gLe, gGt, gGe, gCmp, gAdd, gSubI, gMul, gMod, gDiv, gEq, gNe, gEqB, refD, scalEq, gLen, gAbs, gMax, gMin, gTuple, gIxS, tupOf, outS, fin_same, thenG, loopS, truD_bl, truD_tup, fgTup, fgCons, fgNil, tupOf, G.listOf, h1, h2]⟩
    · exact ⟨4, by omega, by omega, by simp [fnF, fnK, fSeq, fRet, fRetN, fAsg, fgName, fDrop, fNext, fNever, fIfS, fPar, fFor, fAndV, fOrV, fNotV, fNotW, fAnd, fOr, fNot, fTest, fTru, fIf, fChain, fOp, fUn, fCB, fCons, fNil, fTup, fLst, fCall, fVar, fC, fSl, fPart, fNoPart, fBM, fM0, fM1, mAsk, fFld, fMeth, fPropN, fCMeth, fDNew, fDGet2, fDGet, fDPut, fLc, fYes, fiList, fiTup, bind_ok, thenS_ok, asB_bl, j_ii, j_ib, j_ss, j_tt, gLt, gLe, gGt, gGe, gCmp, gAdd, gSubI, gMul, gMod, gDiv, gEq, gNe, gEqB, refD, scalEq, gLen, gAbs, gMax, gMin, gTuple, gIxS, tupOf, outS, fin_same, thenG, loopS, truD_bl, truD_tup, fgTup, fgCons, fgNil, tupOf, G.listOf, h1]⟩
  have hrg := rng1_ok hc rfl (by omega)
  obtain ⟨δ', M', h1, y1, y2, y3, y4, y5, y6, y7, y8, y9, y10, y11, hx⟩ := for_ex (chk := fun _ => true) (g := fgName 1) (b := L_law_1) (fun i : Nat => D.int (0 + (i : Int) * 1))
    (fun rest δ M' => ∃ y1 y2 y3 y4 y5 y6 y7 y8 y9 y10 y11, δ = [some (.lsk (ns.map .int)), y1, y2, y3, y4, y5, y6, y7, y8, y9, y10, y11])
    (fun _ _ _ _ => rfl)
    (fun i r δ M' ⟨y1, y2, y3, y4, y5, y6, y7, y8, y9, y10, y11, h⟩ => by
      subst h
      obtain ⟨z1, z2, z3, z4, z5, z6, z7, z8, z9, z10, z11, M2, e⟩ := e_body (ns := ns) (i := 0 + (i : Int) * 1) (x2 := y2) (x3 := y3) (x4 := y4) (x5 := y5) (x6 := y6) (x7 := y7) (x8 := y8) (x9 := y9) (x10 := y10) (x11 := y11) (M := M') (by omega)
      exact ⟨_, _, _, _, rfl, .inl e, _, _, _, _, _, _, _, _, _, _, _, rfl⟩)
    (List.range c) [some (.lsk (ns.map .int)), none, none, none, none, none, none, none, none, none, none, none] [] ⟨_, _, _, _, _, _, _, _, _, _, _, rfl⟩
  subst hx
  have hf : ∀ Y, fin [] (.ok (.bl true) Y) = .ok (.bl true) [] := fun Y => by
    have := fin_app (M := []) (xs := Y) (d := .bl true) (by simp)
    simpa using this
  have z1 : 1 ≤ sizeLine := zz (by decide)
  have z2 : 2 ≤ sizeLine := zz (by decide)
  have z3 : 3 ≤ sizeLine := zz (by decide)
  have m19 : ∀ M, gMulT (.tup [one]) (.int 19) M = .ok (.tuq (List.replicate 19 one)) M := fun M => mulT_one (k := 19) (M := M) (by decide) (by decide)
  have m18 : ∀ M, gMulT (.tup [one]) (.int 18) M = .ok (.tuq (List.replicate 18 one)) M := fun M => mulT_one (k := 18) (M := M) (by decide) (by decide)
  have e1 := fun M => congrFun e_one M
  have e2 := fun M => congrFun e_six M
  have e0 := e_states
  have el := fun M a10 => e_left6 (M := M) (a10 := a10) (a0 := some (.lsk (ns.map .int))) (a1 := y1) (a2 := y2) (a3 := y3) (a4 := y4) (a5 := y5) (a6 := y6) (a7 := y7) (a8 := y8) (a9 := some (.tup [s_ "begun", .int 1])) 
  simp only [one, s_] at m19 m18 e1 e2 el
  generalize List.replicate 19 (D.tup [.str (Str.ofString "begun"), .int 1]) = R19 at *
  generalize List.replicate 18 (D.tup [.str (Str.ofString "begun"), .int 1]) = R18 at *
  generalize hw1 : (fCB gMax (fCons (fC (.int 1)) (fCons (fCB gMin (fCons (fC (.int 4)) (fCons (fCB gLen (fCons (fVar 0) fNil)) fNil))) fNil))) = mx at hrg
  generalize ((List.range c).map fun (i : Nat) => D.int (0 + (i : Int) * 1)) = R at *
  generalize ns.map D.int = S at *
  simp [F_law, hw1, fnF, fnK, fSeq, fRet, fRetN, fAsg, fgName, fDrop, fNext, fNever, fIfS, fPar, fFor, fAndV, fOrV, fNotV, fNotW, fAnd, fOr, fNot, fTest, fTru, fIf, fChain, fOp, fUn, fCB, fCons, fNil, fTup, fLst, fCall, fVar, fC, fSl, fPart, fNoPart, fBM, fM0, fM1, mAsk, fFld, fMeth, fPropN, fCMeth, fDNew, fDGet2, fDGet, fDPut, fLc, fYes, fiList, fiTup, bind_ok, thenS_ok, asB_bl, j_ii, j_ib, j_ss, j_tt, gLt, gLe, gGt, gGe, gCmp, gAdd, gSubI, gMul, gMod, gDiv, gEq, gNe, gEqB, refD, scalEq, gLen, gAbs, gMax, gMin, gTuple, gIxS, tupOf, outS, fin_same, thenG, loopS, truD_bl, truD_tup, fgTup, fgCons, fgNil, e0, hrg, h1, z1, z2, z3, m19, m18, e1, gIsB, rg6, wipeD, el, G.listOf, e2, hf]
end K30
namespace K30
open PySem PySem.Spec PyProof.Rows L2 G
theorem exm_ok {K : PySem.W.Frag} {R S : Addr} {b : Bool} (h1 : PySem.W.subIn K (.ref S) (.type "BaseException") = some true) (h2 : PySem.W.isClsIn K S = true) (h3 : PySem.W.typeIn K (.ref S) = some (.type "type")) (h4 : PySem.W.subIn K (.ref R) (.ref S) = some b) :
    PySem.W.exmOne K (.ref R) (.ref S) = some b := by
  have e1 : (PySem.W.subIn K (.ref S) (.type "BaseException") == some true) = true := by rw [h1]; rfl
  have e2 : ((PySem.W.clsIn K S).isSome && PySem.W.typeIn K (.ref S) == some (.type "type")) = true := by
    have h2' : (PySem.W.clsIn K S).isSome = true := h2
    rw [h2', h3]; rfl
  show (if (PySem.W.subIn K (.ref S) (.type "BaseException") == some true) = true then (if ((PySem.W.clsIn K S).isSome && PySem.W.typeIn K (.ref S) == some (.type "type")) = true then PySem.W.subIn K (.ref R) (.ref S) else none) else none) = some b
  rw [if_pos e1, if_pos e2]
  exact h4
theorem exm_nil {K : PySem.W.Frag} {c : Value} : PySem.W.exmAny K c [] = some false := rfl
theorem exm_cons {K : PySem.W.Frag} {c d : Value} {r : List Value} {a b : Bool} (h1 : PySem.W.exmOne K c d = some a) (h2 : PySem.W.exmAny K c r = some b) : PySem.W.exmAny K c (d :: r) = some (a || b) := by
  unfold PySem.W.exmAny
  rw [h1, h2]
theorem vals_sz {vs : List V} {its : Array Value} (h : Vals vs its.toList) (n : vs.length ≤ 600) : its.size ≤ sizeLine := size600 (by
  have h1 : vs.length = its.toList.length := h.length
  have h2 : its.toList.length = its.size := by simp
  omega)
def sp_law (K : PySem.W.Frag) (cs : List (Addr × Str)) : Sp := fun vs H Q _ => match vs with
  | [.ref a] => ∃ ns : List Int, ns.length ≤ 63 ∧ SqL K H a (ns.map V.int) ∧ (∀ p ∈ cs, H p.1 = some (.tbl #[])) ∧ ∀ H', Q (.bl true) H'
  | _ => False
theorem law_conc {K : PySem.W.Frag} {κ : Kap} (vs : List V) (H : Hp) (Q : VK) (E : XK) (h : sp_law K κ.T vs H Q E) : conc K κ F_law vs H Q E := by
  unfold sp_law at h
  split at h
  · obtain ⟨ns, hl, hs, ht, q⟩ := h
    have hin : ∀ (F : Hp) (ns : List Int), RepL K κ [] F (ns.map D.int) (ns.map V.int) := fun F ns => by
      induction ns with
      | nil => exact .nil
      | cons n r ih => exact .cons (.int n) ih
    obtain ⟨F, hr, hs⟩ := start_rel (κ := κ) (fun p hp => LamX.TabS.nil (ht p hp)) hs
    refine ⟨[.lsk (ns.map D.int)], [], [], F, hr, .cons (.lsk hs (hin F ns)) .nil, ?_⟩
    rw [e_law ns hl]
    intro v H' ι' F' _ _ r
    cases r
    exact q H'
  · exact h.elim
section
variable {w : World} {K : PySem.W.Frag} {mg : Str → Option Value}
theorem cx_false {l : PySem.W.OpenLaw} {w : World} {H : Hp} {s : Shared} {e : Value} {s2 : Shared} (z : L2.CX l.prog w [] H s (fun _ _ _ => False) e s2) : False := by
  obtain ⟨_, _, _, _, _, _, _, _, _, _, _, _, z⟩ := z
  exact z.elim
theorem all_mk {l : PySem.W.OpenLaw} {h : Heap} {fa : Addr} (X : K.In h) (G : h.Ns mainGlobals mg) (hfa : mg "law" = some (.ref fa)) (own : LamX.OwnTab K fa h)
    {C_InvalidFormula C_InvalidJob f0 f1 f2 f3 f4 f5 f6 f7 f8 f9 f10 f11 f12 f13 f14 f15 f16 f17 f18 f19 f20 f21 f22 f23 f24 f25 CL25 PL25 O_ATOM_WORDS O_STATES O_FOLLOWERS O_FOLLOWERS_0 O_FOLLOWERS_1 O_TRUE_WORDS O_TRUE_WORDS_0 O_TRUE_WORDS_1 O_TRUE_WORDS_2 O_TRUE_WORDS_3 O_TRUE_WORDS_4 O_TRUE_WORDS_5 O_TRUE_WORDS_6 O_ENDS O_ENDS_0 O_ENDS_1 O_ENDS_2 O_ENDS_3 O_ENDS_4 O_ENDS_5 O_ENDS_6 : Addr}
    {oc0 kV0 dc0 pm0 ct0 cd0 oc1 kV1 dc1 pm1 ct1 cd1 oc2 kV2 dc2 pm2 ct2 cd2 oc3 kV3 dc3 pm3 ct3 cd3 oc4 kV4 dc4 pm4 ct4 cd4 oc5 kV5 dc5 pm5 ct5 cd5 oc6 kV6 dc6 pm6 ct6 cd6 oc7 kV7 dc7 pm7 ct7 cd7 oc8 kV8 dc8 pm8 ct8 cd8 oc9 kV9 dc9 pm9 ct9 cd9 oc10 kV10 dc10 pm10 ct10 cd10 oc11 kV11 dc11 pm11 ct11 cd11 oc12 kV12 dc12 pm12 ct12 cd12 oc13 kV13 dc13 pm13 ct13 cd13 oc14 kV14 dc14 pm14 ct14 cd14 oc15 kV15 dc15 pm15 ct15 cd15 oc16 kV16 dc16 pm16 ct16 cd16 oc17 kV17 dc17 pm17 ct17 cd17 oc18 kV18 dc18 pm18 ct18 cd18 oc19 kV19 dc19 pm19 ct19 cd19 oc20 kV20 dc20 pm20 ct20 cd20 oc21 kV21 dc21 pm21 ct21 cd21 oc22 kV22 dc22 pm22 ct22 cd22 oc23 kV23 dc23 pm23 ct23 cd23 oc24 kV24 dc24 pm24 ct24 cd24 oc25 kV25 dc25 pm25 ct25 ec25 : Value}
    {od0 an0 od1 an1 od2 an2 od3 an3 od4 an4 od5 an5 od6 an6 od7 an7 od8 an8 od9 an9 od10 an10 od11 an11 od12 an12 od13 an13 od14 an14 od15 an15 od16 an16 od17 an17 od18 an18 od19 an19 od20 an20 od21 an21 od22 an22 od23 an23 od24 an24 ed25 od25 an25 d_O_ATOM_WORDS d_O_STATES d_O_FOLLOWERS_0 d_O_FOLLOWERS_1 d_O_TRUE_WORDS_0 d_O_TRUE_WORDS_1 d_O_TRUE_WORDS_2 d_O_TRUE_WORDS_3 d_O_TRUE_WORDS_4 d_O_TRUE_WORDS_5 d_O_TRUE_WORDS_6 d_O_ENDS_0 d_O_ENDS_1 d_O_ENDS_2 d_O_ENDS_3 d_O_ENDS_4 d_O_ENDS_5 d_O_ENDS_6 : Option Addr}
    {sl0 sl1 sl2 sl3 sl4 sl5 sl6 sl7 sl8 sl9 sl10 sl11 sl12 sl13 sl14 sl15 sl16 sl17 sl18 sl19 sl20 sl21 sl22 sl23 sl24 es25 sl25 s_O_ATOM_WORDS s_O_STATES s_O_FOLLOWERS_0 s_O_FOLLOWERS_1 s_O_TRUE_WORDS_0 s_O_TRUE_WORDS_1 s_O_TRUE_WORDS_2 s_O_TRUE_WORDS_3 s_O_TRUE_WORDS_4 s_O_TRUE_WORDS_5 s_O_TRUE_WORDS_6 s_O_ENDS_0 s_O_ENDS_1 s_O_ENDS_2 s_O_ENDS_3 s_O_ENDS_4 s_O_ENDS_5 s_O_ENDS_6 : Array (Option Value)}
    {t_MAX_JOB_NUMBER t_MAX_MEMBERS t_MAX_NAMED t_MAX_DEEP t_MAX_AFTER_NODES : Tok}
    {n_O_ATOM_WORDS n_O_STATES n_O_FOLLOWERS n_O_FOLLOWERS_0 n_O_FOLLOWERS_1 n_O_TRUE_WORDS n_O_TRUE_WORDS_0 n_O_TRUE_WORDS_1 n_O_TRUE_WORDS_2 n_O_TRUE_WORDS_3 n_O_TRUE_WORDS_4 n_O_TRUE_WORDS_5 n_O_TRUE_WORDS_6 n_O_ENDS n_O_ENDS_0 n_O_ENDS_1 n_O_ENDS_2 n_O_ENDS_3 n_O_ENDS_4 n_O_ENDS_5 n_O_ENDS_6 : Nat}
    {vc25 it_O_ATOM_WORDS it_O_STATES it_O_FOLLOWERS_0 it_O_FOLLOWERS_1 it_O_TRUE_WORDS_0 it_O_TRUE_WORDS_1 it_O_TRUE_WORDS_2 it_O_TRUE_WORDS_3 it_O_TRUE_WORDS_4 it_O_TRUE_WORDS_5 it_O_TRUE_WORDS_6 it_O_ENDS_0 it_O_ENDS_1 it_O_ENDS_2 it_O_ENDS_3 it_O_ENDS_4 it_O_ENDS_5 it_O_ENDS_6 : Array Value}
    {es_O_FOLLOWERS es_O_TRUE_WORDS es_O_ENDS : Array DictEntry}
    (aC_InvalidFormula : PySem.W.nsIn K mainGlobals "InvalidFormula" = some (some (.ref C_InvalidFormula)))
    (bP_InvalidFormula : PySem.W.subIn K (.ref C_InvalidFormula) (.type "BaseException") = some true)
    (tP_InvalidFormula : PySem.W.typeIn K (.ref C_InvalidFormula) = some (.type "type"))
    (iC_InvalidFormula : PySem.W.isClsIn K C_InvalidFormula = true)
    (aC_InvalidJob : PySem.W.nsIn K mainGlobals "InvalidJob" = some (some (.ref C_InvalidJob)))
    (bP_InvalidJob : PySem.W.subIn K (.ref C_InvalidJob) (.type "BaseException") = some true)
    (tP_InvalidJob : PySem.W.typeIn K (.ref C_InvalidJob) = some (.type "type"))
    (iC_InvalidJob : PySem.W.isClsIn K C_InvalidJob = true)
    (kp_InvalidFormula : PySem.W.keepIn K (.ref C_InvalidFormula) = true)
    (ex_InvalidFormula : PySem.W.excIn K C_InvalidFormula [.type "ValueError", .type "Exception", .type "BaseException", .type "object"] "ValueError.__new__" = true)
    (kp_InvalidJob : PySem.W.keepIn K (.ref C_InvalidJob) = true)
    (ex_InvalidJob : PySem.W.excIn K C_InvalidJob [.type "ValueError", .type "Exception", .type "BaseException", .type "object"] "ValueError.__new__" = true)
    (a0 : PySem.W.nsIn K mainGlobals "_law_is_refused" = some (some (.ref f0)))
    (l0 : K.lookup f0 = some ⟨oc0, od0, .func (PySem.W.fnOf "_law_is_refused" "_law_is_refused" (defArgs s__law_is_refused) (defBody s__law_is_refused) (defScope s__law_is_refused) .none kV0 dc0 pm0 an0 cd0 ct0), sl0⟩)
    (c0 : PySem.W.codeIn K cd0 "_law_is_refused" = true)
    (k0 : PySem.W.keepIn K (.ref f0) = true)
    (a1 : PySem.W.nsIn K mainGlobals "is_between" = some (some (.ref f1)))
    (l1 : K.lookup f1 = some ⟨oc1, od1, .func (PySem.W.fnOf "is_between" "is_between" (defArgs s_is_between) (defBody s_is_between) (defScope s_is_between) .none kV1 dc1 pm1 an1 cd1 ct1), sl1⟩)
    (c1 : PySem.W.codeIn K cd1 "is_between" = true)
    (k1 : PySem.W.keepIn K (.ref f1) = true)
    (a2 : PySem.W.nsIn K mainGlobals "is_job_number" = some (some (.ref f2)))
    (l2 : K.lookup f2 = some ⟨oc2, od2, .func (PySem.W.fnOf "is_job_number" "is_job_number" (defArgs s_is_job_number) (defBody s_is_job_number) (defScope s_is_job_number) .none kV2 dc2 pm2 an2 cd2 ct2), sl2⟩)
    (c2 : PySem.W.codeIn K cd2 "is_job_number" = true)
    (k2 : PySem.W.keepIn K (.ref f2) = true)
    (a3 : PySem.W.nsIn K mainGlobals "_is_node" = some (some (.ref f3)))
    (l3 : K.lookup f3 = some ⟨oc3, od3, .func (PySem.W.fnOf "_is_node" "_is_node" (defArgs s__is_node) (defBody s__is_node) (defScope s__is_node) .none kV3 dc3 pm3 an3 cd3 ct3), sl3⟩)
    (c3 : PySem.W.codeIn K cd3 "_is_node" = true)
    (k3 : PySem.W.keepIn K (.ref f3) = true)
    (a4 : PySem.W.nsIn K mainGlobals "is_after_formula" = some (some (.ref f4)))
    (l4 : K.lookup f4 = some ⟨oc4, od4, .func (PySem.W.fnOf "is_after_formula" "is_after_formula" (defArgs s_is_after_formula) (defBody s_is_after_formula) (defScope s_is_after_formula) .none kV4 dc4 pm4 an4 cd4 ct4), sl4⟩)
    (c4 : PySem.W.codeIn K cd4 "is_after_formula" = true)
    (k4 : PySem.W.keepIn K (.ref f4) = true)
    (a5 : PySem.W.nsIn K mainGlobals "is_state" = some (some (.ref f5)))
    (l5 : K.lookup f5 = some ⟨oc5, od5, .func (PySem.W.fnOf "is_state" "is_state" (defArgs s_is_state) (defBody s_is_state) (defScope s_is_state) .none kV5 dc5 pm5 an5 cd5 ct5), sl5⟩)
    (c5 : PySem.W.codeIn K cd5 "is_state" = true)
    (k5 : PySem.W.keepIn K (.ref f5) = true)
    (a6 : PySem.W.nsIn K mainGlobals "_check_state" = some (some (.ref f6)))
    (l6 : K.lookup f6 = some ⟨oc6, od6, .func (PySem.W.fnOf "_check_state" "_check_state" (defArgs s__check_state) (defBody s__check_state) (defScope s__check_state) .none kV6 dc6 pm6 an6 cd6 ct6), sl6⟩)
    (c6 : PySem.W.codeIn K cd6 "_check_state" = true)
    (k6 : PySem.W.keepIn K (.ref f6) = true)
    (a7 : PySem.W.nsIn K mainGlobals "may_follow" = some (some (.ref f7)))
    (l7 : K.lookup f7 = some ⟨oc7, od7, .func (PySem.W.fnOf "may_follow" "may_follow" (defArgs s_may_follow) (defBody s_may_follow) (defScope s_may_follow) .none kV7 dc7 pm7 an7 cd7 ct7), sl7⟩)
    (c7 : PySem.W.codeIn K cd7 "may_follow" = true)
    (k7 : PySem.W.keepIn K (.ref f7) = true)
    (a8 : PySem.W.nsIn K mainGlobals "atoms_of" = some (some (.ref f8)))
    (l8 : K.lookup f8 = some ⟨oc8, od8, .func (PySem.W.fnOf "atoms_of" "atoms_of" (defArgs s_atoms_of) (defBody s_atoms_of) (defScope s_atoms_of) .none kV8 dc8 pm8 an8 cd8 ct8), sl8⟩)
    (c8 : PySem.W.codeIn K cd8 "atoms_of" = true)
    (k8 : PySem.W.keepIn K (.ref f8) = true)
    (a9 : PySem.W.nsIn K mainGlobals "ends_of" = some (some (.ref f9)))
    (l9 : K.lookup f9 = some ⟨oc9, od9, .func (PySem.W.fnOf "ends_of" "ends_of" (defArgs s_ends_of) (defBody s_ends_of) (defScope s_ends_of) .none kV9 dc9 pm9 an9 cd9 ct9), sl9⟩)
    (c9 : PySem.W.codeIn K cd9 "ends_of" = true)
    (k9 : PySem.W.keepIn K (.ref f9) = true)
    (a10 : PySem.W.nsIn K mainGlobals "words_by_job" = some (some (.ref f10)))
    (l10 : K.lookup f10 = some ⟨oc10, od10, .func (PySem.W.fnOf "words_by_job" "words_by_job" (defArgs s_words_by_job) (defBody s_words_by_job) (defScope s_words_by_job) .none kV10 dc10 pm10 an10 cd10 ct10), sl10⟩)
    (c10 : PySem.W.codeIn K cd10 "words_by_job" = true)
    (k10 : PySem.W.keepIn K (.ref f10) = true)
    (a11 : PySem.W.nsIn K mainGlobals "_jobs_of" = some (some (.ref f11)))
    (l11 : K.lookup f11 = some ⟨oc11, od11, .func (PySem.W.fnOf "_jobs_of" "_jobs_of" (defArgs s__jobs_of) (defBody s__jobs_of) (defScope s__jobs_of) .none kV11 dc11 pm11 an11 cd11 ct11), sl11⟩)
    (c11 : PySem.W.codeIn K cd11 "_jobs_of" = true)
    (k11 : PySem.W.keepIn K (.ref f11) = true)
    (a12 : PySem.W.nsIn K mainGlobals "_check_formula" = some (some (.ref f12)))
    (l12 : K.lookup f12 = some ⟨oc12, od12, .func (PySem.W.fnOf "_check_formula" "_check_formula" (defArgs s__check_formula) (defBody s__check_formula) (defScope s__check_formula) .none kV12 dc12 pm12 an12 cd12 ct12), sl12⟩)
    (c12 : PySem.W.codeIn K cd12 "_check_formula" = true)
    (k12 : PySem.W.keepIn K (.ref f12) = true)
    (a13 : PySem.W.nsIn K mainGlobals "jobs_named" = some (some (.ref f13)))
    (l13 : K.lookup f13 = some ⟨oc13, od13, .func (PySem.W.fnOf "jobs_named" "jobs_named" (defArgs s_jobs_named) (defBody s_jobs_named) (defScope s_jobs_named) .none kV13 dc13 pm13 an13 cd13 ct13), sl13⟩)
    (c13 : PySem.W.codeIn K cd13 "jobs_named" = true)
    (k13 : PySem.W.keepIn K (.ref f13) = true)
    (a14 : PySem.W.nsIn K mainGlobals "_law_roll" = some (some (.ref f14)))
    (l14 : K.lookup f14 = some ⟨oc14, od14, .func (PySem.W.fnOf "_law_roll" "_law_roll" (defArgs s__law_roll) (defBody s__law_roll) (defScope s__law_roll) .none kV14 dc14 pm14 an14 cd14 ct14), sl14⟩)
    (c14 : PySem.W.codeIn K cd14 "_law_roll" = true)
    (k14 : PySem.W.keepIn K (.ref f14) = true)
    (a15 : PySem.W.nsIn K mainGlobals "_law_pick" = some (some (.ref f15)))
    (l15 : K.lookup f15 = some ⟨oc15, od15, .func (PySem.W.fnOf "_law_pick" "_law_pick" (defArgs s__law_pick) (defBody s__law_pick) (defScope s__law_pick) .none kV15 dc15 pm15 an15 cd15 ct15), sl15⟩)
    (c15 : PySem.W.codeIn K cd15 "_law_pick" = true)
    (k15 : PySem.W.keepIn K (.ref f15) = true)
    (a16 : PySem.W.nsIn K mainGlobals "_law_bent" = some (some (.ref f16)))
    (l16 : K.lookup f16 = some ⟨oc16, od16, .func (PySem.W.fnOf "_law_bent" "_law_bent" (defArgs s__law_bent) (defBody s__law_bent) (defScope s__law_bent) .none kV16 dc16 pm16 an16 cd16 ct16), sl16⟩)
    (c16 : PySem.W.codeIn K cd16 "_law_bent" = true)
    (k16 : PySem.W.keepIn K (.ref f16) = true)
    (a17 : PySem.W.nsIn K mainGlobals "_law_after_jobs" = some (some (.ref f17)))
    (l17 : K.lookup f17 = some ⟨oc17, od17, .func (PySem.W.fnOf "_law_after_jobs" "_law_after_jobs" (defArgs s__law_after_jobs) (defBody s__law_after_jobs) (defScope s__law_after_jobs) .none kV17 dc17 pm17 an17 cd17 ct17), sl17⟩)
    (c17 : PySem.W.codeIn K cd17 "_law_after_jobs" = true)
    (k17 : PySem.W.keepIn K (.ref f17) = true)
    (a18 : PySem.W.nsIn K mainGlobals "_law_after_atom" = some (some (.ref f18)))
    (l18 : K.lookup f18 = some ⟨oc18, od18, .func (PySem.W.fnOf "_law_after_atom" "_law_after_atom" (defArgs s__law_after_atom) (defBody s__law_after_atom) (defScope s__law_after_atom) .none kV18 dc18 pm18 an18 cd18 ct18), sl18⟩)
    (c18 : PySem.W.codeIn K cd18 "_law_after_atom" = true)
    (k18 : PySem.W.keepIn K (.ref f18) = true)
    (a19 : PySem.W.nsIn K mainGlobals "_law_after_drawn" = some (some (.ref f19)))
    (l19 : K.lookup f19 = some ⟨oc19, od19, .func (PySem.W.fnOf "_law_after_drawn" "_law_after_drawn" (defArgs s__law_after_drawn) (defBody s__law_after_drawn) (defScope s__law_after_drawn) .none kV19 dc19 pm19 an19 cd19 ct19), sl19⟩)
    (c19 : PySem.W.codeIn K cd19 "_law_after_drawn" = true)
    (k19 : PySem.W.keepIn K (.ref f19) = true)
    (a20 : PySem.W.nsIn K mainGlobals "_law_dice" = some (some (.ref f20)))
    (l20 : K.lookup f20 = some ⟨oc20, od20, .func (PySem.W.fnOf "_law_dice" "_law_dice" (defArgs s__law_dice) (defBody s__law_dice) (defScope s__law_dice) .none kV20 dc20 pm20 an20 cd20 ct20), sl20⟩)
    (c20 : PySem.W.codeIn K cd20 "_law_dice" = true)
    (k20 : PySem.W.keepIn K (.ref f20) = true)
    (a21 : PySem.W.nsIn K mainGlobals "_law_all_states" = some (some (.ref f21)))
    (l21 : K.lookup f21 = some ⟨oc21, od21, .func (PySem.W.fnOf "_law_all_states" "_law_all_states" (defArgs s__law_all_states) (defBody s__law_all_states) (defScope s__law_all_states) .none kV21 dc21 pm21 an21 cd21 ct21), sl21⟩)
    (c21 : PySem.W.codeIn K cd21 "_law_all_states" = true)
    (k21 : PySem.W.keepIn K (.ref f21) = true)
    (a22 : PySem.W.nsIn K mainGlobals "_law_atom_holds" = some (some (.ref f22)))
    (l22 : K.lookup f22 = some ⟨oc22, od22, .func (PySem.W.fnOf "_law_atom_holds" "_law_atom_holds" (defArgs s__law_atom_holds) (defBody s__law_atom_holds) (defScope s__law_atom_holds) .none kV22 dc22 pm22 an22 cd22 ct22), sl22⟩)
    (c22 : PySem.W.codeIn K cd22 "_law_atom_holds" = true)
    (k22 : PySem.W.keepIn K (.ref f22) = true)
    (a23 : PySem.W.nsIn K mainGlobals "_law_ends_behind" = some (some (.ref f23)))
    (l23 : K.lookup f23 = some ⟨oc23, od23, .func (PySem.W.fnOf "_law_ends_behind" "_law_ends_behind" (defArgs s__law_ends_behind) (defBody s__law_ends_behind) (defScope s__law_ends_behind) .none kV23 dc23 pm23 an23 cd23 ct23), sl23⟩)
    (c23 : PySem.W.codeIn K cd23 "_law_ends_behind" = true)
    (k23 : PySem.W.keepIn K (.ref f23) = true)
    (a24 : PySem.W.nsIn K mainGlobals "_law_states_right" = some (some (.ref f24)))
    (l24 : K.lookup f24 = some ⟨oc24, od24, .func (PySem.W.fnOf "_law_states_right" "_law_states_right" (defArgs s__law_states_right) (defBody s__law_states_right) (defScope s__law_states_right) .none kV24 dc24 pm24 an24 cd24 ct24), sl24⟩)
    (c24 : PySem.W.codeIn K cd24 "_law_states_right" = true)
    (k24 : PySem.W.keepIn K (.ref f24) = true)
    (a25 : PySem.W.nsIn K mainGlobals "law" = some (some (.ref f25)))
    (l25 : K.lookup f25 = some ⟨oc25, od25, .func (PySem.W.fnOf "law" "law" (defArgs s_law) (defBody s_law) (defScope s_law) .none kV25 dc25 pm25 an25 (.ref CL25) ct25), sl25⟩)
    (c25 : PySem.W.codeIn K (.ref CL25) "law" = true)
    (lc25 : K.lookup CL25 = some ⟨ec25, ed25, .fields vc25, es25⟩)
    (vp25 : vc25[11]? = some (.ref PL25))
    (np25 : K.lookup PL25 = none)
    (hd25 : PySem.W.codeHdIn K CL25 PL25 = true)
    (k25 : PySem.W.keepIn K (.ref f25) = true)
    (n_isinstance : PySem.W.nsIn K mainGlobals "isinstance" = some none)
    (n_bool : PySem.W.nsIn K mainGlobals "bool" = some none)
    (n_int : PySem.W.nsIn K mainGlobals "int" = some none)
    (g_MAX_JOB_NUMBER : PySem.W.nsIn K mainGlobals "MAX_JOB_NUMBER" = some (some (.int 1000000 t_MAX_JOB_NUMBER)))
    (ct_ATOM_WORDS : PySem.W.nsIn K mainGlobals "ATOM_WORDS" = some (some (.ref O_ATOM_WORDS)))
    (lo_O_ATOM_WORDS : K.lookup O_ATOM_WORDS = some ⟨.type "tuple", d_O_ATOM_WORDS, .seq it_O_ATOM_WORDS n_O_ATOM_WORDS, s_O_ATOM_WORDS⟩)
    (va_O_ATOM_WORDS : Vals ([V.str (Str.ofString "begun"), V.str (Str.ofString "over"), V.str (Str.ofString "well"), V.str (Str.ofString "ill"), V.str (Str.ofString "late"), V.str (Str.ofString "left")] : List V) it_O_ATOM_WORDS.toList)
    (n_len : PySem.W.nsIn K mainGlobals "len" = some none)
    (g_MAX_MEMBERS : PySem.W.nsIn K mainGlobals "MAX_MEMBERS" = some (some (.int 20 t_MAX_MEMBERS)))
    (n_tuple : PySem.W.nsIn K mainGlobals "tuple" = some none)
    (n_str : PySem.W.nsIn K mainGlobals "str" = some none)
    (g_MAX_NAMED : PySem.W.nsIn K mainGlobals "MAX_NAMED" = some (some (.int 6 t_MAX_NAMED)))
    (g_MAX_DEEP : PySem.W.nsIn K mainGlobals "MAX_DEEP" = some (some (.int 8 t_MAX_DEEP)))
    (g_MAX_AFTER_NODES : PySem.W.nsIn K mainGlobals "MAX_AFTER_NODES" = some (some (.int 60 t_MAX_AFTER_NODES)))
    (ct_STATES : PySem.W.nsIn K mainGlobals "STATES" = some (some (.ref O_STATES)))
    (lo_O_STATES : K.lookup O_STATES = some ⟨.type "tuple", d_O_STATES, .seq it_O_STATES n_O_STATES, s_O_STATES⟩)
    (va_O_STATES : Vals ([V.str (Str.ofString "waiting"), V.str (Str.ofString "begun"), V.str (Str.ofString "left"), V.str (Str.ofString "well"), V.str (Str.ofString "ill"), V.str (Str.ofString "late"), V.str (Str.ofString "gone")] : List V) it_O_STATES.toList)
    (sb_InvalidFormula_InvalidFormula : PySem.W.subIn K (.ref C_InvalidFormula) (.ref C_InvalidFormula) = some true)
    (sb_InvalidFormula_InvalidJob : PySem.W.subIn K (.ref C_InvalidFormula) (.ref C_InvalidJob) = some false)
    (sb_InvalidJob_InvalidFormula : PySem.W.subIn K (.ref C_InvalidJob) (.ref C_InvalidFormula) = some false)
    (sb_InvalidJob_InvalidJob : PySem.W.subIn K (.ref C_InvalidJob) (.ref C_InvalidJob) = some true)
    (ct_FOLLOWERS : PySem.W.nsIn K mainGlobals "FOLLOWERS" = some (some (.ref O_FOLLOWERS)))
    (lo_O_FOLLOWERS : K.lookup O_FOLLOWERS = some ⟨.type "dict", none, .dict es_O_FOLLOWERS n_O_FOLLOWERS, #[]⟩)
    (kl_O_FOLLOWERS : PySem.W.KeysLit w.params es_O_FOLLOWERS.toList)
    (ek_O_FOLLOWERS : es_O_FOLLOWERS.toList.map keyStr = ([Str.ofString "waiting", Str.ofString "begun"] : List Str).map some)
    (va_O_FOLLOWERS : Vals ([V.ref O_FOLLOWERS_0, V.ref O_FOLLOWERS_1] : List V) (es_O_FOLLOWERS.toList.map (·.val)))
    (lw_O_FOLLOWERS : (O_FOLLOWERS == sysModules) = false)
    (lo_O_FOLLOWERS_0 : K.lookup O_FOLLOWERS_0 = some ⟨.type "tuple", d_O_FOLLOWERS_0, .seq it_O_FOLLOWERS_0 n_O_FOLLOWERS_0, s_O_FOLLOWERS_0⟩)
    (va_O_FOLLOWERS_0 : Vals ([V.str (Str.ofString "begun"), V.str (Str.ofString "left")] : List V) it_O_FOLLOWERS_0.toList)
    (lo_O_FOLLOWERS_1 : K.lookup O_FOLLOWERS_1 = some ⟨.type "tuple", d_O_FOLLOWERS_1, .seq it_O_FOLLOWERS_1 n_O_FOLLOWERS_1, s_O_FOLLOWERS_1⟩)
    (va_O_FOLLOWERS_1 : Vals ([V.str (Str.ofString "well"), V.str (Str.ofString "ill"), V.str (Str.ofString "late"), V.str (Str.ofString "gone")] : List V) it_O_FOLLOWERS_1.toList)
    (ct_TRUE_WORDS : PySem.W.nsIn K mainGlobals "TRUE_WORDS" = some (some (.ref O_TRUE_WORDS)))
    (lo_O_TRUE_WORDS : K.lookup O_TRUE_WORDS = some ⟨.type "dict", none, .dict es_O_TRUE_WORDS n_O_TRUE_WORDS, #[]⟩)
    (kl_O_TRUE_WORDS : PySem.W.KeysLit w.params es_O_TRUE_WORDS.toList)
    (ek_O_TRUE_WORDS : es_O_TRUE_WORDS.toList.map keyStr = ([Str.ofString "waiting", Str.ofString "begun", Str.ofString "left", Str.ofString "well", Str.ofString "ill", Str.ofString "late", Str.ofString "gone"] : List Str).map some)
    (va_O_TRUE_WORDS : Vals ([V.ref O_TRUE_WORDS_0, V.ref O_TRUE_WORDS_1, V.ref O_TRUE_WORDS_2, V.ref O_TRUE_WORDS_3, V.ref O_TRUE_WORDS_4, V.ref O_TRUE_WORDS_5, V.ref O_TRUE_WORDS_6] : List V) (es_O_TRUE_WORDS.toList.map (·.val)))
    (lw_O_TRUE_WORDS : (O_TRUE_WORDS == sysModules) = false)
    (lo_O_TRUE_WORDS_0 : K.lookup O_TRUE_WORDS_0 = some ⟨.type "tuple", d_O_TRUE_WORDS_0, .seq it_O_TRUE_WORDS_0 n_O_TRUE_WORDS_0, s_O_TRUE_WORDS_0⟩)
    (va_O_TRUE_WORDS_0 : Vals ([] : List V) it_O_TRUE_WORDS_0.toList)
    (lo_O_TRUE_WORDS_1 : K.lookup O_TRUE_WORDS_1 = some ⟨.type "tuple", d_O_TRUE_WORDS_1, .seq it_O_TRUE_WORDS_1 n_O_TRUE_WORDS_1, s_O_TRUE_WORDS_1⟩)
    (va_O_TRUE_WORDS_1 : Vals ([V.str (Str.ofString "begun")] : List V) it_O_TRUE_WORDS_1.toList)
    (lo_O_TRUE_WORDS_2 : K.lookup O_TRUE_WORDS_2 = some ⟨.type "tuple", d_O_TRUE_WORDS_2, .seq it_O_TRUE_WORDS_2 n_O_TRUE_WORDS_2, s_O_TRUE_WORDS_2⟩)
    (va_O_TRUE_WORDS_2 : Vals ([V.str (Str.ofString "over"), V.str (Str.ofString "left")] : List V) it_O_TRUE_WORDS_2.toList)
    (lo_O_TRUE_WORDS_3 : K.lookup O_TRUE_WORDS_3 = some ⟨.type "tuple", d_O_TRUE_WORDS_3, .seq it_O_TRUE_WORDS_3 n_O_TRUE_WORDS_3, s_O_TRUE_WORDS_3⟩)
    (va_O_TRUE_WORDS_3 : Vals ([V.str (Str.ofString "begun"), V.str (Str.ofString "over"), V.str (Str.ofString "well")] : List V) it_O_TRUE_WORDS_3.toList)
    (lo_O_TRUE_WORDS_4 : K.lookup O_TRUE_WORDS_4 = some ⟨.type "tuple", d_O_TRUE_WORDS_4, .seq it_O_TRUE_WORDS_4 n_O_TRUE_WORDS_4, s_O_TRUE_WORDS_4⟩)
    (va_O_TRUE_WORDS_4 : Vals ([V.str (Str.ofString "begun"), V.str (Str.ofString "over"), V.str (Str.ofString "ill")] : List V) it_O_TRUE_WORDS_4.toList)
    (lo_O_TRUE_WORDS_5 : K.lookup O_TRUE_WORDS_5 = some ⟨.type "tuple", d_O_TRUE_WORDS_5, .seq it_O_TRUE_WORDS_5 n_O_TRUE_WORDS_5, s_O_TRUE_WORDS_5⟩)
    (va_O_TRUE_WORDS_5 : Vals ([V.str (Str.ofString "begun"), V.str (Str.ofString "over"), V.str (Str.ofString "late")] : List V) it_O_TRUE_WORDS_5.toList)
    (lo_O_TRUE_WORDS_6 : K.lookup O_TRUE_WORDS_6 = some ⟨.type "tuple", d_O_TRUE_WORDS_6, .seq it_O_TRUE_WORDS_6 n_O_TRUE_WORDS_6, s_O_TRUE_WORDS_6⟩)
    (va_O_TRUE_WORDS_6 : Vals ([V.str (Str.ofString "begun"), V.str (Str.ofString "over")] : List V) it_O_TRUE_WORDS_6.toList)
    (ct_ENDS : PySem.W.nsIn K mainGlobals "ENDS" = some (some (.ref O_ENDS)))
    (lo_O_ENDS : K.lookup O_ENDS = some ⟨.type "dict", none, .dict es_O_ENDS n_O_ENDS, #[]⟩)
    (kl_O_ENDS : PySem.W.KeysLit w.params es_O_ENDS.toList)
    (ek_O_ENDS : es_O_ENDS.toList.map keyStr = ([Str.ofString "waiting", Str.ofString "begun", Str.ofString "left", Str.ofString "well", Str.ofString "ill", Str.ofString "late", Str.ofString "gone"] : List Str).map some)
    (va_O_ENDS : Vals ([V.ref O_ENDS_0, V.ref O_ENDS_1, V.ref O_ENDS_2, V.ref O_ENDS_3, V.ref O_ENDS_4, V.ref O_ENDS_5, V.ref O_ENDS_6] : List V) (es_O_ENDS.toList.map (·.val)))
    (lw_O_ENDS : (O_ENDS == sysModules) = false)
    (lo_O_ENDS_0 : K.lookup O_ENDS_0 = some ⟨.type "tuple", d_O_ENDS_0, .seq it_O_ENDS_0 n_O_ENDS_0, s_O_ENDS_0⟩)
    (va_O_ENDS_0 : Vals ([V.str (Str.ofString "left"), V.str (Str.ofString "well"), V.str (Str.ofString "ill"), V.str (Str.ofString "late"), V.str (Str.ofString "gone")] : List V) it_O_ENDS_0.toList)
    (lo_O_ENDS_1 : K.lookup O_ENDS_1 = some ⟨.type "tuple", d_O_ENDS_1, .seq it_O_ENDS_1 n_O_ENDS_1, s_O_ENDS_1⟩)
    (va_O_ENDS_1 : Vals ([V.str (Str.ofString "well"), V.str (Str.ofString "ill"), V.str (Str.ofString "late"), V.str (Str.ofString "gone")] : List V) it_O_ENDS_1.toList)
    (lo_O_ENDS_2 : K.lookup O_ENDS_2 = some ⟨.type "tuple", d_O_ENDS_2, .seq it_O_ENDS_2 n_O_ENDS_2, s_O_ENDS_2⟩)
    (va_O_ENDS_2 : Vals ([V.str (Str.ofString "left")] : List V) it_O_ENDS_2.toList)
    (lo_O_ENDS_3 : K.lookup O_ENDS_3 = some ⟨.type "tuple", d_O_ENDS_3, .seq it_O_ENDS_3 n_O_ENDS_3, s_O_ENDS_3⟩)
    (va_O_ENDS_3 : Vals ([V.str (Str.ofString "well")] : List V) it_O_ENDS_3.toList)
    (lo_O_ENDS_4 : K.lookup O_ENDS_4 = some ⟨.type "tuple", d_O_ENDS_4, .seq it_O_ENDS_4 n_O_ENDS_4, s_O_ENDS_4⟩)
    (va_O_ENDS_4 : Vals ([V.str (Str.ofString "ill")] : List V) it_O_ENDS_4.toList)
    (lo_O_ENDS_5 : K.lookup O_ENDS_5 = some ⟨.type "tuple", d_O_ENDS_5, .seq it_O_ENDS_5 n_O_ENDS_5, s_O_ENDS_5⟩)
    (va_O_ENDS_5 : Vals ([V.str (Str.ofString "late")] : List V) it_O_ENDS_5.toList)
    (lo_O_ENDS_6 : K.lookup O_ENDS_6 = some ⟨.type "tuple", d_O_ENDS_6, .seq it_O_ENDS_6 n_O_ENDS_6, s_O_ENDS_6⟩)
    (va_O_ENDS_6 : Vals ([V.str (Str.ofString "gone")] : List V) it_O_ENDS_6.toList)
    (n_sorted : PySem.W.nsIn K mainGlobals "sorted" = some none)
    (n_range : PySem.W.nsIn K mainGlobals "range" = some none)
    (n_list : PySem.W.nsIn K mainGlobals "list" = some none)
    (n_abs : PySem.W.nsIn K mainGlobals "abs" = some none)
    (n_max : PySem.W.nsIn K mainGlobals "max" = some none)
    (n_repr : PySem.W.nsIn K mainGlobals "repr" = some none)
    (n_min : PySem.W.nsIn K mainGlobals "min" = some none)
    : LamX.LawAtS l w K (L2.CX l.prog w) 12 63 "script" mg fa h := by
  obtain ⟨κ, hw, hT, hκ0, hκ1, hκ2, hκ3, hκ4, hκ5, hκ6, hκ7, hκ8⟩ : ∃ κ : Kap, κ.w = w ∧ κ.T = [(PL25, ("law.<locals>.<lambda>" : Str))] ∧ κ "InvalidFormula" = C_InvalidFormula ∧ κ "InvalidJob" = C_InvalidJob ∧ κ "const:ATOM_WORDS" = O_ATOM_WORDS ∧ κ "const:STATES" = O_STATES ∧ κ "const:FOLLOWERS" = O_FOLLOWERS ∧ κ "const:TRUE_WORDS" = O_TRUE_WORDS ∧ κ "const:ENDS" = O_ENDS ∧ κ "code:law" = CL25 ∧ κ "tab:law" = PL25 := ⟨⟨fun s => if s = "InvalidFormula" then C_InvalidFormula else if s = "InvalidJob" then C_InvalidJob else if s = "const:ATOM_WORDS" then O_ATOM_WORDS else if s = "const:STATES" then O_STATES else if s = "const:FOLLOWERS" then O_FOLLOWERS else if s = "const:TRUE_WORDS" then O_TRUE_WORDS else if s = "const:ENDS" then O_ENDS else if s = "code:law" then CL25 else PL25, [(PL25, ("law.<locals>.<lambda>" : Str))], w⟩, by simp⟩
  subst hw
  subst hκ0
  subst hκ1
  subst hκ2
  subst hκ3
  subst hκ4
  subst hκ5
  subst hκ6
  subst hκ7
  subst hκ8
  have NG0 := fun_mk (st := s__law_is_refused) l0 c0 k0
  have BG0 := NG0.binds (ps := ["call"]) fun _ _ _ _ _ _ us hl => match us, hl with | [_], _ => rfl
  have e := hfa.symm.trans (PySem.W.mg_of X G a25)
  cases e
  have T : Txt K κ mg := {
    n_isinstance := PySem.W.mg_none_of X G n_isinstance
    n_bool := PySem.W.mg_none_of X G n_bool
    n_int := PySem.W.mg_none_of X G n_int
    g_MAX_JOB_NUMBER := ⟨_, PySem.W.mg_of X G g_MAX_JOB_NUMBER⟩
    ct_ATOM_WORDS := PySem.W.mg_of X G ct_ATOM_WORDS
    rp_ATOM_WORDS := fun ι F => (.tuq (.inr ⟨_, _, _, lo_O_ATOM_WORDS, rfl, rfl, vals_sz va_O_ATOM_WORDS (by decide), va_O_ATOM_WORDS⟩) (.cons (.str _) (.cons (.str _) (.cons (.str _) (.cons (.str _) (.cons (.str _) (.cons (.str _) .nil)))))))
    n_len := PySem.W.mg_none_of X G n_len
    g_MAX_MEMBERS := ⟨_, PySem.W.mg_of X G g_MAX_MEMBERS⟩
    n_tuple := PySem.W.mg_none_of X G n_tuple
    n_str := PySem.W.mg_none_of X G n_str
    g_MAX_NAMED := ⟨_, PySem.W.mg_of X G g_MAX_NAMED⟩
    g_MAX_DEEP := ⟨_, PySem.W.mg_of X G g_MAX_DEEP⟩
    g_MAX_AFTER_NODES := ⟨_, PySem.W.mg_of X G g_MAX_AFTER_NODES⟩
    ct_STATES := PySem.W.mg_of X G ct_STATES
    rp_STATES := fun ι F => (.tuq (.inr ⟨_, _, _, lo_O_STATES, rfl, rfl, vals_sz va_O_STATES (by decide), va_O_STATES⟩) (.cons (.str _) (.cons (.str _) (.cons (.str _) (.cons (.str _) (.cons (.str _) (.cons (.str _) (.cons (.str _) .nil))))))))
    cx_InvalidFormula := PySem.W.mg_of X G aC_InvalidFormula
    cx_InvalidJob := PySem.W.mg_of X G aC_InvalidJob
    xx_InvalidFormula_InvalidFormula_InvalidJob := (exm_cons (exm_ok bP_InvalidFormula iC_InvalidFormula tP_InvalidFormula sb_InvalidFormula_InvalidFormula) (exm_cons (exm_ok bP_InvalidJob iC_InvalidJob tP_InvalidJob sb_InvalidFormula_InvalidJob) exm_nil))
    xx_InvalidJob_InvalidFormula_InvalidJob := (exm_cons (exm_ok bP_InvalidFormula iC_InvalidFormula tP_InvalidFormula sb_InvalidJob_InvalidFormula) (exm_cons (exm_ok bP_InvalidJob iC_InvalidJob tP_InvalidJob sb_InvalidJob_InvalidJob) exm_nil))
    ct_FOLLOWERS := PySem.W.mg_of X G ct_FOLLOWERS
    rp_FOLLOWERS := fun ι F => (.dck (kdk_of lo_O_FOLLOWERS kl_O_FOLLOWERS lw_O_FOLLOWERS ek_O_FOLLOWERS va_O_FOLLOWERS) (.cons (.tuq (.inr ⟨_, _, _, lo_O_FOLLOWERS_0, rfl, rfl, vals_sz va_O_FOLLOWERS_0 (by decide), va_O_FOLLOWERS_0⟩) (.cons (.str _) (.cons (.str _) .nil))) (.cons (.tuq (.inr ⟨_, _, _, lo_O_FOLLOWERS_1, rfl, rfl, vals_sz va_O_FOLLOWERS_1 (by decide), va_O_FOLLOWERS_1⟩) (.cons (.str _) (.cons (.str _) (.cons (.str _) (.cons (.str _) .nil))))) .nil)))
    ct_TRUE_WORDS := PySem.W.mg_of X G ct_TRUE_WORDS
    rp_TRUE_WORDS := fun ι F => (.dck (kdk_of lo_O_TRUE_WORDS kl_O_TRUE_WORDS lw_O_TRUE_WORDS ek_O_TRUE_WORDS va_O_TRUE_WORDS) (.cons (.tuq (.inr ⟨_, _, _, lo_O_TRUE_WORDS_0, rfl, rfl, vals_sz va_O_TRUE_WORDS_0 (by decide), va_O_TRUE_WORDS_0⟩) .nil) (.cons (.tuq (.inr ⟨_, _, _, lo_O_TRUE_WORDS_1, rfl, rfl, vals_sz va_O_TRUE_WORDS_1 (by decide), va_O_TRUE_WORDS_1⟩) (.cons (.str _) .nil)) (.cons (.tuq (.inr ⟨_, _, _, lo_O_TRUE_WORDS_2, rfl, rfl, vals_sz va_O_TRUE_WORDS_2 (by decide), va_O_TRUE_WORDS_2⟩) (.cons (.str _) (.cons (.str _) .nil))) (.cons (.tuq (.inr ⟨_, _, _, lo_O_TRUE_WORDS_3, rfl, rfl, vals_sz va_O_TRUE_WORDS_3 (by decide), va_O_TRUE_WORDS_3⟩) (.cons (.str _) (.cons (.str _) (.cons (.str _) .nil)))) (.cons (.tuq (.inr ⟨_, _, _, lo_O_TRUE_WORDS_4, rfl, rfl, vals_sz va_O_TRUE_WORDS_4 (by decide), va_O_TRUE_WORDS_4⟩) (.cons (.str _) (.cons (.str _) (.cons (.str _) .nil)))) (.cons (.tuq (.inr ⟨_, _, _, lo_O_TRUE_WORDS_5, rfl, rfl, vals_sz va_O_TRUE_WORDS_5 (by decide), va_O_TRUE_WORDS_5⟩) (.cons (.str _) (.cons (.str _) (.cons (.str _) .nil)))) (.cons (.tuq (.inr ⟨_, _, _, lo_O_TRUE_WORDS_6, rfl, rfl, vals_sz va_O_TRUE_WORDS_6 (by decide), va_O_TRUE_WORDS_6⟩) (.cons (.str _) (.cons (.str _) .nil))) .nil))))))))
    ct_ENDS := PySem.W.mg_of X G ct_ENDS
    rp_ENDS := fun ι F => (.dck (kdk_of lo_O_ENDS kl_O_ENDS lw_O_ENDS ek_O_ENDS va_O_ENDS) (.cons (.tuq (.inr ⟨_, _, _, lo_O_ENDS_0, rfl, rfl, vals_sz va_O_ENDS_0 (by decide), va_O_ENDS_0⟩) (.cons (.str _) (.cons (.str _) (.cons (.str _) (.cons (.str _) (.cons (.str _) .nil)))))) (.cons (.tuq (.inr ⟨_, _, _, lo_O_ENDS_1, rfl, rfl, vals_sz va_O_ENDS_1 (by decide), va_O_ENDS_1⟩) (.cons (.str _) (.cons (.str _) (.cons (.str _) (.cons (.str _) .nil))))) (.cons (.tuq (.inr ⟨_, _, _, lo_O_ENDS_2, rfl, rfl, vals_sz va_O_ENDS_2 (by decide), va_O_ENDS_2⟩) (.cons (.str _) .nil)) (.cons (.tuq (.inr ⟨_, _, _, lo_O_ENDS_3, rfl, rfl, vals_sz va_O_ENDS_3 (by decide), va_O_ENDS_3⟩) (.cons (.str _) .nil)) (.cons (.tuq (.inr ⟨_, _, _, lo_O_ENDS_4, rfl, rfl, vals_sz va_O_ENDS_4 (by decide), va_O_ENDS_4⟩) (.cons (.str _) .nil)) (.cons (.tuq (.inr ⟨_, _, _, lo_O_ENDS_5, rfl, rfl, vals_sz va_O_ENDS_5 (by decide), va_O_ENDS_5⟩) (.cons (.str _) .nil)) (.cons (.tuq (.inr ⟨_, _, _, lo_O_ENDS_6, rfl, rfl, vals_sz va_O_ENDS_6 (by decide), va_O_ENDS_6⟩) (.cons (.str _) .nil)) .nil))))))))
    n_sorted := PySem.W.mg_none_of X G n_sorted
    n_range := PySem.W.mg_none_of X G n_range
    n_list := PySem.W.mg_none_of X G n_list
    n_abs := PySem.W.mg_none_of X G n_abs
    n_max := PySem.W.mg_none_of X G n_max
    n_repr := PySem.W.mg_none_of X G n_repr
    n_min := PySem.W.mg_none_of X G n_min
    tm_law := by rw [hT]; simp
    tu_law := by rw [hT]; intro p hp _; rw [List.mem_singleton.mp hp]
    gv__law_is_refused := ⟨f0, oc0, od0, sl0, .none, kV0, dc0, pm0, an0, cd0, ct0, PySem.W.mg_of X G a0, k0, l0, c0, BG0⟩ }
  have N_InvalidFormula : BareOk K mg "InvalidFormula" (κ "InvalidFormula") := ⟨PySem.W.mg_of X G aC_InvalidFormula, kp_InvalidFormula, bP_InvalidFormula, tP_InvalidFormula, ex_InvalidFormula⟩
  have N_InvalidJob : BareOk K mg "InvalidJob" (κ "InvalidJob") := ⟨PySem.W.mg_of X G aC_InvalidJob, kp_InvalidJob, bP_InvalidJob, tP_InvalidJob, ex_InvalidJob⟩
  refine ⟨PySem.W.fnOf "law" "law" (defArgs s_law) (defBody s_law) (defScope s_law) .none kV25 dc25 pm25 an25 (.ref (κ "code:law")) ct25, [(κ "code:law", κ "tab:law")], sp_law K κ.T, ?_, ?_, ?_, (fun s v => .of_eq rfl), ?_, fun base _ _ TBs => ?_⟩
  · intro p hp; rw [List.mem_singleton.mp hp]; exact own _ _ _ _ _ _ _ _ l25 rfl rfl lc25 vp25
  · intro p hp; rw [List.mem_singleton.mp hp]; exact np25
  · intro p hp; rw [List.mem_singleton.mp hp]; exact PySem.W.codeHd_of_K X hd25
  · intro H a ns hl _ hp hs; exact ⟨ns, hl, hs, by rw [hT]; intro p hq; rw [List.mem_singleton.mp hq]; exact hp _ (List.mem_singleton.mpr rfl), fun _ => rfl⟩
  have TB : LamX.TabB base mg (κ "code:law") (κ "tab:law") := TBs _ (List.mem_singleton.mpr rfl)
  have N1 := fun_mk (st := s_is_between) l1 c1 k1
  have B1 := N1.binds (ps := ["value", "low", "high"]) fun _ _ _ _ _ _ us hl => match us, hl with | [_, _, _], _ => rfl
  have C_is_between : CallOk l.prog κ.w K mg base "is_between" 1 ["value", "low", "high"] (conc K κ F_is_between) := ⟨⟨_, _, PySem.W.mg_of X G a1, k1, B1, fnD N1 sc_is_between (b_is_between (P := l.prog) (base := base) (κ := κ) T )⟩⟩
  have N2 := fun_mk (st := s_is_job_number) l2 c2 k2
  have B2 := N2.binds (ps := ["value"]) fun _ _ _ _ _ _ us hl => match us, hl with | [_], _ => rfl
  have C_is_job_number : CallOk l.prog κ.w K mg base "is_job_number" 2 ["value"] (conc K κ F_is_job_number) := ⟨⟨_, _, PySem.W.mg_of X G a2, k2, B2, fnD N2 sc_is_job_number (b_is_job_number (P := l.prog) (base := base) (κ := κ) T (C_is_between := C_is_between))⟩⟩
  have N3 := fun_mk (st := s__is_node) l3 c3 k3
  have B3 := N3.binds (ps := ["value"]) fun _ _ _ _ _ _ us hl => match us, hl with | [_], _ => rfl
  have C__is_node : CallOk l.prog κ.w K mg base "_is_node" 3 ["value"] (conc K κ F__is_node) := ⟨⟨_, _, PySem.W.mg_of X G a3, k3, B3, fnD N3 sc__is_node (b__is_node (P := l.prog) (base := base) (κ := κ) T (C_is_job_number := C_is_job_number))⟩⟩
  have N4 := fun_mk (st := s_is_after_formula) l4 c4 k4
  have B4 := N4.binds (ps := ["value"]) fun _ _ _ _ _ _ us hl => match us, hl with | [_], _ => rfl
  have C_is_after_formula : CallOk l.prog κ.w K mg base "is_after_formula" 4 ["value"] (conc K κ F_is_after_formula) := ⟨⟨_, _, PySem.W.mg_of X G a4, k4, B4, fnD N4 sc_is_after_formula (b_is_after_formula (P := l.prog) (base := base) (κ := κ) T (C__is_node := C__is_node))⟩⟩
  have N5 := fun_mk (st := s_is_state) l5 c5 k5
  have B5 := N5.binds (ps := ["value"]) fun _ _ _ _ _ _ us hl => match us, hl with | [_], _ => rfl
  have C_is_state : CallOk l.prog κ.w K mg base "is_state" 1 ["value"] (conc K κ F_is_state) := ⟨⟨_, _, PySem.W.mg_of X G a5, k5, B5, fnD N5 sc_is_state (b_is_state (P := l.prog) (base := base) (κ := κ) T )⟩⟩
  have N6 := fun_mk (st := s__check_state) l6 c6 k6
  have B6 := N6.binds (ps := ["value"]) fun _ _ _ _ _ _ us hl => match us, hl with | [_], _ => rfl
  have C__check_state : CallOk l.prog κ.w K mg base "_check_state" 2 ["value"] (conc K κ F__check_state) := ⟨⟨_, _, PySem.W.mg_of X G a6, k6, B6, fnD N6 sc__check_state (b__check_state (P := l.prog) (base := base) (κ := κ) T (C_is_state := C_is_state) (N_InvalidJob := N_InvalidJob))⟩⟩
  have N7 := fun_mk (st := s_may_follow) l7 c7 k7
  have B7 := N7.binds (ps := ["one", "other"]) fun _ _ _ _ _ _ us hl => match us, hl with | [_, _], _ => rfl
  have C_may_follow : CallOk l.prog κ.w K mg base "may_follow" 3 ["one", "other"] (conc K κ F_may_follow) := ⟨⟨_, _, PySem.W.mg_of X G a7, k7, B7, fnD N7 sc_may_follow (b_may_follow (P := l.prog) (base := base) (κ := κ) T (C__check_state := C__check_state))⟩⟩
  have N8 := fun_mk (st := s_atoms_of) l8 c8 k8
  have B8 := N8.binds (ps := ["state"]) fun _ _ _ _ _ _ us hl => match us, hl with | [_], _ => rfl
  have C_atoms_of : CallOk l.prog κ.w K mg base "atoms_of" 3 ["state"] (conc K κ F_atoms_of) := ⟨⟨_, _, PySem.W.mg_of X G a8, k8, B8, fnD N8 sc_atoms_of (b_atoms_of (P := l.prog) (base := base) (κ := κ) T (C__check_state := C__check_state))⟩⟩
  have N9 := fun_mk (st := s_ends_of) l9 c9 k9
  have B9 := N9.binds (ps := ["state"]) fun _ _ _ _ _ _ us hl => match us, hl with | [_], _ => rfl
  have C_ends_of : CallOk l.prog κ.w K mg base "ends_of" 3 ["state"] (conc K κ F_ends_of) := ⟨⟨_, _, PySem.W.mg_of X G a9, k9, B9, fnD N9 sc_ends_of (b_ends_of (P := l.prog) (base := base) (κ := κ) T (C__check_state := C__check_state))⟩⟩
  have N10 := fun_mk (st := s_words_by_job) l10 c10 k10
  have B10 := N10.binds (ps := ["f"]) fun _ _ _ _ _ _ us hl => match us, hl with | [_], _ => rfl
  have C_words_by_job : CallOk l.prog κ.w K mg base "words_by_job" 1 ["f"] (conc K κ F_words_by_job) := ⟨⟨_, _, PySem.W.mg_of X G a10, k10, B10, fnD N10 sc_words_by_job (b_words_by_job (P := l.prog) (base := base) (κ := κ) T )⟩⟩
  have N11 := fun_mk (st := s__jobs_of) l11 c11 k11
  have B11 := N11.binds (ps := ["f"]) fun _ _ _ _ _ _ us hl => match us, hl with | [_], _ => rfl
  have C__jobs_of : CallOk l.prog κ.w K mg base "_jobs_of" 2 ["f"] (conc K κ F__jobs_of) := ⟨⟨_, _, PySem.W.mg_of X G a11, k11, B11, fnD N11 sc__jobs_of (b__jobs_of (P := l.prog) (base := base) (κ := κ) T (C_words_by_job := C_words_by_job))⟩⟩
  have N12 := fun_mk (st := s__check_formula) l12 c12 k12
  have B12 := N12.binds (ps := ["value"]) fun _ _ _ _ _ _ us hl => match us, hl with | [_], _ => rfl
  have C__check_formula : CallOk l.prog κ.w K mg base "_check_formula" 5 ["value"] (conc K κ F__check_formula) := ⟨⟨_, _, PySem.W.mg_of X G a12, k12, B12, fnD N12 sc__check_formula (b__check_formula (P := l.prog) (base := base) (κ := κ) T (C_is_after_formula := C_is_after_formula) (N_InvalidFormula := N_InvalidFormula))⟩⟩
  have N13 := fun_mk (st := s_jobs_named) l13 c13 k13
  have B13 := N13.binds (ps := ["f"]) fun _ _ _ _ _ _ us hl => match us, hl with | [_], _ => rfl
  have C_jobs_named : CallOk l.prog κ.w K mg base "jobs_named" 6 ["f"] (conc K κ F_jobs_named) := ⟨⟨_, _, PySem.W.mg_of X G a13, k13, B13, fnD N13 sc_jobs_named (b_jobs_named (P := l.prog) (base := base) (κ := κ) T (C__jobs_of := C__jobs_of) (C__check_formula := C__check_formula))⟩⟩
  have N14 := fun_mk (st := s__law_roll) l14 c14 k14
  have B14 := N14.binds (ps := ["dice", "total"]) fun _ _ _ _ _ _ us hl => match us, hl with | [_, _], _ => rfl
  have C__law_roll : CallOk l.prog κ.w K mg base "_law_roll" 1 ["dice", "total"] (conc K κ F__law_roll) := ⟨⟨_, _, PySem.W.mg_of X G a14, k14, B14, fnD N14 sc__law_roll (b__law_roll (P := l.prog) (base := base) (κ := κ) T )⟩⟩
  have N15 := fun_mk (st := s__law_pick) l15 c15 k15
  have B15 := N15.binds (ps := ["dice", "items"]) fun _ _ _ _ _ _ us hl => match us, hl with | [_, _], _ => rfl
  have C__law_pick : CallOk l.prog κ.w K mg base "_law_pick" 2 ["dice", "items"] (conc K κ F__law_pick) := ⟨⟨_, _, PySem.W.mg_of X G a15, k15, B15, fnD N15 sc__law_pick (b__law_pick (P := l.prog) (base := base) (κ := κ) T (C__law_roll := C__law_roll))⟩⟩
  have N16 := fun_mk (st := s__law_bent) l16 c16 k16
  have B16 := N16.binds (ps := ["dice", "f"]) fun _ _ _ _ _ _ us hl => match us, hl with | [_, _], _ => rfl
  have C__law_bent : CallOk l.prog κ.w K mg base "_law_bent" 1 ["dice", "f"] (conc K κ F__law_bent) := ⟨⟨_, _, PySem.W.mg_of X G a16, k16, B16, fnD N16 sc__law_bent (b__law_bent (P := l.prog) (base := base) (κ := κ) T )⟩⟩
  have N17 := fun_mk (st := s__law_after_jobs) l17 c17 k17
  have B17 := N17.binds (ps := ["f"]) fun _ _ _ _ _ _ us hl => match us, hl with | [_], _ => rfl
  have Q__law_after_jobs : ∀ n, CallOk l.prog κ.w K mg base "_law_after_jobs" (1 + n) ["f"] (conc K κ (F__law_after_jobs_n n)) := fun n => by
    induction n with
    | zero => exact ⟨⟨_, _, PySem.W.mg_of X G a17, k17, B17, fn_stuck⟩⟩
    | succ n ih => exact ⟨⟨_, _, PySem.W.mg_of X G a17, k17, B17, fnD N17 sc__law_after_jobs (b__law_after_jobs (P := l.prog) (base := base) (κ := κ) T (C__law_after_jobs := ih))⟩⟩
  have C__law_after_jobs : CallOk l.prog κ.w K mg base "_law_after_jobs" 6 ["f"] (conc K κ F__law_after_jobs) := Q__law_after_jobs 5
  have N18 := fun_mk (st := s__law_after_atom) l18 c18 k18
  have B18 := N18.binds (ps := ["dice", "jobs"]) fun _ _ _ _ _ _ us hl => match us, hl with | [_, _], _ => rfl
  have C__law_after_atom : CallOk l.prog κ.w K mg base "_law_after_atom" 3 ["dice", "jobs"] (conc K κ F__law_after_atom) := ⟨⟨_, _, PySem.W.mg_of X G a18, k18, B18, fnD N18 sc__law_after_atom (b__law_after_atom (P := l.prog) (base := base) (κ := κ) T (C__law_pick := C__law_pick))⟩⟩
  have N19 := fun_mk (st := s__law_after_drawn) l19 c19 k19
  have B19 := N19.binds (ps := ["dice", "jobs", "deep"]) fun _ _ _ _ _ _ us hl => match us, hl with | [_, _, _], _ => rfl
  have Q__law_after_drawn : ∀ n, CallOk l.prog κ.w K mg base "_law_after_drawn" (4 + n) ["dice", "jobs", "deep"] (conc K κ (F__law_after_drawn_n n)) := fun n => by
    induction n with
    | zero => exact ⟨⟨_, _, PySem.W.mg_of X G a19, k19, B19, fn_stuck⟩⟩
    | succ n ih => exact ⟨⟨_, _, PySem.W.mg_of X G a19, k19, B19, fnD N19 sc__law_after_drawn (b__law_after_drawn (P := l.prog) (base := base) (κ := κ) T (C__law_pick := C__law_pick) (C__law_roll := C__law_roll) (C__law_after_drawn := ih) (C__law_after_atom := C__law_after_atom))⟩⟩
  have C__law_after_drawn : CallOk l.prog κ.w K mg base "_law_after_drawn" 9 ["dice", "jobs", "deep"] (conc K κ F__law_after_drawn) := Q__law_after_drawn 5
  have N20 := fun_mk (st := s__law_dice) l20 c20 k20
  have B20 := N20.binds (ps := ["script", "spot"]) fun _ _ _ _ _ _ us hl => match us, hl with | [_, _], _ => rfl
  have C__law_dice : CallOk l.prog κ.w K mg base "_law_dice" 1 ["script", "spot"] (conc K κ F__law_dice) := ⟨⟨_, _, PySem.W.mg_of X G a20, k20, B20, fnD2 N20 sc__law_dice (b__law_dice (P := l.prog) (base := base) (κ := κ) T )⟩⟩
  have N21 := fun_mk (st := s__law_all_states) l21 c21 k21
  have B21 := N21.binds (ps := []) fun _ _ _ _ _ _ us hl => match us, hl with | [], _ => rfl
  have C__law_all_states : CallOk l.prog κ.w K mg base "_law_all_states" 1 [] (conc K κ F__law_all_states) := ⟨⟨_, _, PySem.W.mg_of X G a21, k21, B21, fnD N21 sc__law_all_states (b__law_all_states (P := l.prog) (base := base) (κ := κ) T )⟩⟩
  have N22 := fun_mk (st := s__law_atom_holds) l22 c22 k22
  have B22 := N22.binds (ps := ["word", "state"]) fun _ _ _ _ _ _ us hl => match us, hl with | [_, _], _ => rfl
  have C__law_atom_holds : CallOk l.prog κ.w K mg base "_law_atom_holds" 1 ["word", "state"] (conc K κ F__law_atom_holds) := ⟨⟨_, _, PySem.W.mg_of X G a22, k22, B22, fnD N22 sc__law_atom_holds (b__law_atom_holds (P := l.prog) (base := base) (κ := κ) T )⟩⟩
  have N23 := fun_mk (st := s__law_ends_behind) l23 c23 k23
  have B23 := N23.binds (ps := ["state"]) fun _ _ _ _ _ _ us hl => match us, hl with | [_], _ => rfl
  have C__law_ends_behind : CallOk l.prog κ.w K mg base "_law_ends_behind" 1 ["state"] (conc K κ F__law_ends_behind) := ⟨⟨_, _, PySem.W.mg_of X G a23, k23, B23, fnD N23 sc__law_ends_behind (b__law_ends_behind (P := l.prog) (base := base) (κ := κ) T )⟩⟩
  have N24 := fun_mk (st := s__law_states_right) l24 c24 k24
  have B24 := N24.binds (ps := []) fun _ _ _ _ _ _ us hl => match us, hl with | [], _ => rfl
  have C__law_states_right : CallOk l.prog κ.w K mg base "_law_states_right" 4 [] (conc K κ F__law_states_right) := ⟨⟨_, _, PySem.W.mg_of X G a24, k24, B24, fnD N24 sc__law_states_right (b__law_states_right (P := l.prog) (base := base) (κ := κ) T (C__law_all_states := C__law_all_states) (C_may_follow := C_may_follow) (C_atoms_of := C_atoms_of) (C__law_atom_holds := C__law_atom_holds) (C_is_state := C_is_state) (C_ends_of := C_ends_of) (C__law_ends_behind := C__law_ends_behind))⟩⟩
  have N25 := fun_mk (st := s_law) l25 c25 k25
  have B25 := N25.binds (ps := ["script"]) fun _ _ _ _ _ _ us hl => match us, hl with | [_], _ => rfl
  exact FnOk.imp (fnDC l25 c25 sc_law (b_law (P := l.prog) (base := base) (κ := κ) T (C_is_after_formula := C_is_after_formula) (C_is_state := C_is_state) (C_may_follow := C_may_follow) (C_atoms_of := C_atoms_of) (C_ends_of := C_ends_of) (C_jobs_named := C_jobs_named) (C__law_pick := C__law_pick) (C__law_bent := C__law_bent) (C__law_after_jobs := C__law_after_jobs) (C__law_after_drawn := C__law_after_drawn) (C__law_dice := C__law_dice) (C__law_states_right := C__law_states_right) (TB := TB))) fun vs H Q E hq => law_conc vs H Q E hq
end
theorem walk {l : PySem.W.OpenLaw} {q : Program} {loose : List Str} {XP : (Str → Option Value) → Heap → Prop} {YP : World → Heap → Prop} {d : DefRec} {K : Params → PySem.W.Frag} (hn : l.most = some 63) (hdf : d.params.defaults = []) (hrec : ((recsOf q).any fun e => e.name == d.name) = true)
    (hY : ∀ (w : World) (h : Heap), YP w h → (K w.params).In h)
    (F : ∀ (w : World) (mg : Str → Option Value) (fa : Addr) (h : Heap), (K w.params).In h → h.Ns mainGlobals mg → mg d.name = some (.ref fa) → LamX.OwnTab (K w.params) fa h → LamX.LawAtS l w (K w.params) (L2.CX l.prog w) 12 63 "script" mg fa h) :
    PySem.W.WalkO q loose XP YP l.row.toRowW d [] (fun f vs => PySem.call f vs) :=
  LamX.walk_ofOwn (n := 63) (k := 12) (x := "script") (CX := fun w => L2.CX l.prog w) hn (size600 (by decide)) hdf ⟨rfl, by decide, by decide⟩ hrec hY (fun w mg fa h _ KX G hm own => F w mg fa h KX G hm own) fun w H s e s' z => cx_false z
end K30
set_option maxHeartbeats 0 in
open PySem PySem.W PyProof.Rows in
theorem PySem.Challenge.cw_toldstarts_k30_states_and_formulas_told_holds : PySem.Challenge.rw_toldstarts_k30_states_and_formulas_told.Holds := by
  w_on; o_law; k_head; (case hw => w_witness2)
  k_fill
  refine K30.walk (l := PySem.Challenge.rw_toldstarts_k30_states_and_formulas_told) rfl rfl ?R (fun w h Y => by first | exact PySem.W.kIn_of Y | exact PySem.W.km_in_of Y) ?F
  case R => first | rfl | decide +kernel
  case F =>
    intro w mg fa h KX G hmg own
    refine' K30.all_mk KX G hmg own ?aC_InvalidFormula ?bP_InvalidFormula ?tP_InvalidFormula ?iC_InvalidFormula ?aC_InvalidJob ?bP_InvalidJob ?tP_InvalidJob ?iC_InvalidJob ?kp_InvalidFormula ?ex_InvalidFormula ?kp_InvalidJob ?ex_InvalidJob ?a0 ?l0 ?c0 ?k0 ?a1 ?l1 ?c1 ?k1 ?a2 ?l2 ?c2 ?k2 ?a3 ?l3 ?c3 ?k3 ?a4 ?l4 ?c4 ?k4 ?a5 ?l5 ?c5 ?k5 ?a6 ?l6 ?c6 ?k6 ?a7 ?l7 ?c7 ?k7 ?a8 ?l8 ?c8 ?k8 ?a9 ?l9 ?c9 ?k9 ?a10 ?l10 ?c10 ?k10 ?a11 ?l11 ?c11 ?k11 ?a12 ?l12 ?c12 ?k12 ?a13 ?l13 ?c13 ?k13 ?a14 ?l14 ?c14 ?k14 ?a15 ?l15 ?c15 ?k15 ?a16 ?l16 ?c16 ?k16 ?a17 ?l17 ?c17 ?k17 ?a18 ?l18 ?c18 ?k18 ?a19 ?l19 ?c19 ?k19 ?a20 ?l20 ?c20 ?k20 ?a21 ?l21 ?c21 ?k21 ?a22 ?l22 ?c22 ?k22 ?a23 ?l23 ?c23 ?k23 ?a24 ?l24 ?c24 ?k24 ?a25 ?l25 ?c25 ?lc25 ?vp25 ?np25 ?hd25 ?k25 ?n_isinstance ?n_bool ?n_int ?g_MAX_JOB_NUMBER ?ct_ATOM_WORDS ?lo_O_ATOM_WORDS ?va_O_ATOM_WORDS ?n_len ?g_MAX_MEMBERS ?n_tuple ?n_str ?g_MAX_NAMED ?g_MAX_DEEP ?g_MAX_AFTER_NODES ?ct_STATES ?lo_O_STATES ?va_O_STATES ?sb_InvalidFormula_InvalidFormula ?sb_InvalidFormula_InvalidJob ?sb_InvalidJob_InvalidFormula ?sb_InvalidJob_InvalidJob ?ct_FOLLOWERS ?lo_O_FOLLOWERS ?kl_O_FOLLOWERS ?ek_O_FOLLOWERS ?va_O_FOLLOWERS ?lw_O_FOLLOWERS ?lo_O_FOLLOWERS_0 ?va_O_FOLLOWERS_0 ?lo_O_FOLLOWERS_1 ?va_O_FOLLOWERS_1 ?ct_TRUE_WORDS ?lo_O_TRUE_WORDS ?kl_O_TRUE_WORDS ?ek_O_TRUE_WORDS ?va_O_TRUE_WORDS ?lw_O_TRUE_WORDS ?lo_O_TRUE_WORDS_0 ?va_O_TRUE_WORDS_0 ?lo_O_TRUE_WORDS_1 ?va_O_TRUE_WORDS_1 ?lo_O_TRUE_WORDS_2 ?va_O_TRUE_WORDS_2 ?lo_O_TRUE_WORDS_3 ?va_O_TRUE_WORDS_3 ?lo_O_TRUE_WORDS_4 ?va_O_TRUE_WORDS_4 ?lo_O_TRUE_WORDS_5 ?va_O_TRUE_WORDS_5 ?lo_O_TRUE_WORDS_6 ?va_O_TRUE_WORDS_6 ?ct_ENDS ?lo_O_ENDS ?kl_O_ENDS ?ek_O_ENDS ?va_O_ENDS ?lw_O_ENDS ?lo_O_ENDS_0 ?va_O_ENDS_0 ?lo_O_ENDS_1 ?va_O_ENDS_1 ?lo_O_ENDS_2 ?va_O_ENDS_2 ?lo_O_ENDS_3 ?va_O_ENDS_3 ?lo_O_ENDS_4 ?va_O_ENDS_4 ?lo_O_ENDS_5 ?va_O_ENDS_5 ?lo_O_ENDS_6 ?va_O_ENDS_6 ?n_sorted ?n_range ?n_list ?n_abs ?n_max ?n_repr ?n_min
    (case aC_InvalidFormula => k_is)
    (case bP_InvalidFormula => k_is)
    (case tP_InvalidFormula => k_is)
    (case iC_InvalidFormula => k_is)
    (case aC_InvalidJob => k_is)
    (case bP_InvalidJob => k_is)
    (case tP_InvalidJob => k_is)
    (case iC_InvalidJob => k_is)
    (case kp_InvalidFormula => k_is)
    (case ex_InvalidFormula => k_exc)
    (case kp_InvalidJob => k_is)
    (case ex_InvalidJob => k_exc)
    (case a0 => k_is)
    (case l0 => k_is)
    (case c0 => k_is)
    (case k0 => k_is)
    (case a1 => k_is)
    (case l1 => k_is)
    (case c1 => k_is)
    (case k1 => k_is)
    (case a2 => k_is)
    (case l2 => k_is)
    (case c2 => k_is)
    (case k2 => k_is)
    (case a3 => k_is)
    (case l3 => k_is)
    (case c3 => k_is)
    (case k3 => k_is)
    (case a4 => k_is)
    (case l4 => k_is)
    (case c4 => k_is)
    (case k4 => k_is)
    (case a5 => k_is)
    (case l5 => k_is)
    (case c5 => k_is)
    (case k5 => k_is)
    (case a6 => k_is)
    (case l6 => k_is)
    (case c6 => k_is)
    (case k6 => k_is)
    (case a7 => k_is)
    (case l7 => k_is)
    (case c7 => k_is)
    (case k7 => k_is)
    (case a8 => k_is)
    (case l8 => k_is)
    (case c8 => k_is)
    (case k8 => k_is)
    (case a9 => k_is)
    (case l9 => k_is)
    (case c9 => k_is)
    (case k9 => k_is)
    (case a10 => k_is)
    (case l10 => k_is)
    (case c10 => k_is)
    (case k10 => k_is)
    (case a11 => k_is)
    (case l11 => k_is)
    (case c11 => k_is)
    (case k11 => k_is)
    (case a12 => k_is)
    (case l12 => k_is)
    (case c12 => k_is)
    (case k12 => k_is)
    (case a13 => k_is)
    (case l13 => k_is)
    (case c13 => k_is)
    (case k13 => k_is)
    (case a14 => k_is)
    (case l14 => k_is)
    (case c14 => k_is)
    (case k14 => k_is)
    (case a15 => k_is)
    (case l15 => k_is)
    (case c15 => k_is)
    (case k15 => k_is)
    (case a16 => k_is)
    (case l16 => k_is)
    (case c16 => k_is)
    (case k16 => k_is)
    (case a17 => k_is)
    (case l17 => k_is)
    (case c17 => k_is)
    (case k17 => k_is)
    (case a18 => k_is)
    (case l18 => k_is)
    (case c18 => k_is)
    (case k18 => k_is)
    (case a19 => k_is)
    (case l19 => k_is)
    (case c19 => k_is)
    (case k19 => k_is)
    (case a20 => k_is)
    (case l20 => k_is)
    (case c20 => k_is)
    (case k20 => k_is)
    (case a21 => k_is)
    (case l21 => k_is)
    (case c21 => k_is)
    (case k21 => k_is)
    (case a22 => k_is)
    (case l22 => k_is)
    (case c22 => k_is)
    (case k22 => k_is)
    (case a23 => k_is)
    (case l23 => k_is)
    (case c23 => k_is)
    (case k23 => k_is)
    (case a24 => k_is)
    (case l24 => k_is)
    (case c24 => k_is)
    (case k24 => k_is)
    (case a25 => k_is)
    (case l25 => k_is)
    (case c25 => k_is)
    (case lc25 => k_is)
    (case vp25 => first | rfl | decide)
    (case np25 => first | rfl | decide)
    (case hd25 => first | rfl | k_is)
    (case k25 => k_is)
    (case n_isinstance => k_is)
    (case n_bool => k_is)
    (case n_int => k_is)
    (case g_MAX_JOB_NUMBER => k_is)
    (case ct_ATOM_WORDS => k_is)
    (case lo_O_ATOM_WORDS => k_is)
    (case va_O_ATOM_WORDS => repeat (first | exact .nil | refine .cons ⟨_, rfl⟩ ?_ | refine .cons rfl ?_))
    (case n_len => k_is)
    (case g_MAX_MEMBERS => k_is)
    (case n_tuple => k_is)
    (case n_str => k_is)
    (case g_MAX_NAMED => k_is)
    (case g_MAX_DEEP => k_is)
    (case g_MAX_AFTER_NODES => k_is)
    (case ct_STATES => k_is)
    (case lo_O_STATES => k_is)
    (case va_O_STATES => repeat (first | exact .nil | refine .cons ⟨_, rfl⟩ ?_ | refine .cons rfl ?_))
    (case sb_InvalidFormula_InvalidFormula => first | rfl | k_is)
    (case sb_InvalidFormula_InvalidJob => first | rfl | k_is)
    (case sb_InvalidJob_InvalidFormula => first | rfl | k_is)
    (case sb_InvalidJob_InvalidJob => first | rfl | k_is)
    (case ct_FOLLOWERS => k_is)
    (case lo_O_FOLLOWERS => k_is)
    (case kl_O_FOLLOWERS => k_keys)
    (case ek_O_FOLLOWERS => first | rfl | decide)
    (case va_O_FOLLOWERS => repeat (first | exact .nil | refine .cons ⟨_, rfl⟩ ?_ | refine .cons rfl ?_))
    (case lw_O_FOLLOWERS => first | rfl | decide)
    (case lo_O_FOLLOWERS_0 => k_is)
    (case va_O_FOLLOWERS_0 => repeat (first | exact .nil | refine .cons ⟨_, rfl⟩ ?_ | refine .cons rfl ?_))
    (case lo_O_FOLLOWERS_1 => k_is)
    (case va_O_FOLLOWERS_1 => repeat (first | exact .nil | refine .cons ⟨_, rfl⟩ ?_ | refine .cons rfl ?_))
    (case ct_TRUE_WORDS => k_is)
    (case lo_O_TRUE_WORDS => k_is)
    (case kl_O_TRUE_WORDS => k_keys)
    (case ek_O_TRUE_WORDS => first | rfl | decide)
    (case va_O_TRUE_WORDS => repeat (first | exact .nil | refine .cons ⟨_, rfl⟩ ?_ | refine .cons rfl ?_))
    (case lw_O_TRUE_WORDS => first | rfl | decide)
    (case lo_O_TRUE_WORDS_0 => k_is)
    (case va_O_TRUE_WORDS_0 => repeat (first | exact .nil | refine .cons ⟨_, rfl⟩ ?_ | refine .cons rfl ?_))
    (case lo_O_TRUE_WORDS_1 => k_is)
    (case va_O_TRUE_WORDS_1 => repeat (first | exact .nil | refine .cons ⟨_, rfl⟩ ?_ | refine .cons rfl ?_))
    (case lo_O_TRUE_WORDS_2 => k_is)
    (case va_O_TRUE_WORDS_2 => repeat (first | exact .nil | refine .cons ⟨_, rfl⟩ ?_ | refine .cons rfl ?_))
    (case lo_O_TRUE_WORDS_3 => k_is)
    (case va_O_TRUE_WORDS_3 => repeat (first | exact .nil | refine .cons ⟨_, rfl⟩ ?_ | refine .cons rfl ?_))
    (case lo_O_TRUE_WORDS_4 => k_is)
    (case va_O_TRUE_WORDS_4 => repeat (first | exact .nil | refine .cons ⟨_, rfl⟩ ?_ | refine .cons rfl ?_))
    (case lo_O_TRUE_WORDS_5 => k_is)
    (case va_O_TRUE_WORDS_5 => repeat (first | exact .nil | refine .cons ⟨_, rfl⟩ ?_ | refine .cons rfl ?_))
    (case lo_O_TRUE_WORDS_6 => k_is)
    (case va_O_TRUE_WORDS_6 => repeat (first | exact .nil | refine .cons ⟨_, rfl⟩ ?_ | refine .cons rfl ?_))
    (case ct_ENDS => k_is)
    (case lo_O_ENDS => k_is)
    (case kl_O_ENDS => k_keys)
    (case ek_O_ENDS => first | rfl | decide)
    (case va_O_ENDS => repeat (first | exact .nil | refine .cons ⟨_, rfl⟩ ?_ | refine .cons rfl ?_))
    (case lw_O_ENDS => first | rfl | decide)
    (case lo_O_ENDS_0 => k_is)
    (case va_O_ENDS_0 => repeat (first | exact .nil | refine .cons ⟨_, rfl⟩ ?_ | refine .cons rfl ?_))
    (case lo_O_ENDS_1 => k_is)
    (case va_O_ENDS_1 => repeat (first | exact .nil | refine .cons ⟨_, rfl⟩ ?_ | refine .cons rfl ?_))
    (case lo_O_ENDS_2 => k_is)
    (case va_O_ENDS_2 => repeat (first | exact .nil | refine .cons ⟨_, rfl⟩ ?_ | refine .cons rfl ?_))
    (case lo_O_ENDS_3 => k_is)
    (case va_O_ENDS_3 => repeat (first | exact .nil | refine .cons ⟨_, rfl⟩ ?_ | refine .cons rfl ?_))
    (case lo_O_ENDS_4 => k_is)
    (case va_O_ENDS_4 => repeat (first | exact .nil | refine .cons ⟨_, rfl⟩ ?_ | refine .cons rfl ?_))
    (case lo_O_ENDS_5 => k_is)
    (case va_O_ENDS_5 => repeat (first | exact .nil | refine .cons ⟨_, rfl⟩ ?_ | refine .cons rfl ?_))
    (case lo_O_ENDS_6 => k_is)
    (case va_O_ENDS_6 => repeat (first | exact .nil | refine .cons ⟨_, rfl⟩ ?_ | refine .cons rfl ?_))
    (case n_sorted => k_is)
    (case n_range => k_is)
    (case n_list => k_is)
    (case n_abs => k_is)
    (case n_max => k_is)
    (case n_repr => k_is)
    (case n_min => k_is)
