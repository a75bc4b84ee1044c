import PyProof.Rows.All
import Wide.All
import OpenK.AllK
import Wide.FinOn
import PySem.Challenge.RW_toldstarts_k01_amounts_as_a_lattice
import HandS.ForMost
import HandS.Exc
import HandS.ExcOwn
import HandS.ExcInit
import HandS.TryOnly
import HandS.WordsExc
import HandS.IsInst
import HandS.FStr
import HandS.Wide
import HandS.WideMore
import HandS.Zip
import HandS.Walk
import HandS.ReplaceLit
import HandS.ReplaceDef
import HandS.ReplaceList
import HandS.CallSlots
import HandS.TupAny
import HandS.Evl
import HandS.Codes
import PyProof.StrBlock2
import KE.KxField
import HandS.ExcField
import PyProof.FString3
import KE.GoesMore
import KE.GoesZip
import KE.GoesEnum
import HandS.Lambda
import OpenK.KMeth
import OpenK.KOps
import KE.KOpsOwn
import PyProof.InstNe
import KE.KDictPairs
import HandS.Property
import HandS.More
import HandS.SortInts
import HandS.StrMore
import HandS.RevRange
import HandS.ClsMeth
import HandS.Star
import HandS.Small
import HandS.Defaults
import HandS.Flow
import HandS.TryMany
import KE.KTryMore
import HandS.Style
import HandS.EndTab
import HandS.SetKeys
import HandS.TupMul
import HandS.RaiseMore
import HandS.HeadHook3
import PyProof.StrOps2
import PyProof.AutoSeq1
import HandS.Sort
import KE.DataMinMax
import HandS.EndOwn
set_option Elab.async false
set_option linter.all false
set_option maxRecDepth 100000
set_option maxHeartbeats 4000000
/-! A prelude over the hand layer: values' operators by match, calls bundled. -/
namespace G
open PySem PySem.Spec PyProof.Rows L2

/-- the text with these signs -/
abbrev S (l : List Nat) : Str := SX.S l
abbrev tl (x : Str) : List Nat := x.cps.toList

/-! ### calls of own defs, bundled -/
structure CallOk (P : Program) (w : World) (K : PySem.W.Frag) (mg : Str → Option Value) (base : Heap) (x : Str) (k : Nat) (ps : List Str) (sp : Sp) : Prop where
  ex : ∃ (f : Addr) (fd : FuncData), mg x = some (.ref f) ∧ PySem.W.keepIn K (.ref f) = true ∧ Binds K fd ps [] ∧ FnOk P w K mg base (L2.CX P w) k f fd ps sp
section
variable {X : Cx} {k : Nat} {ps : List Str} {sp : Sp} {x : Str} {e : Expr} {es : List Expr} {t : TA} {p pos : Pos}
theorem pe_cc {E : XK} (C : CallOk X.prog X.w X.K X.mg X.base x k ps sp) (hx : Passes (L2.CX X.prog X.w) X E) (hr : Room k X.A) (ha : PA X (e :: es) t) (hg : Gl X x := by rfl)
    (hdb : (x == ("__debug__" : Str)) = false := by decide) (he : starEach (e :: es) X.env = (false, eval e X.env) :: starEach es X.env := by rfl) (hpl : (backTo pos (starEach es X.env)).any (·.1) = false := by rfl) :
    PE X (.Call (.Name x p) (e :: es) [] pos) (tCall sp [] E t) := by
  obtain ⟨f, fd, hm, hk, hb, F⟩ := C.ex
  exact pe_call F hr hg hm hk hb .nil hx ha hdb he hpl
/-- a call of what raises nothing -/
theorem pe_c0 (C : CallOk X.prog X.w X.K X.mg X.base x k ps sp) (hr : Room k X.A) (ha : PA X (e :: es) t) (hg : Gl X x := by rfl)
    (hdb : (x == ("__debug__" : Str)) = false := by decide) (he : starEach (e :: es) X.env = (false, eval e X.env) :: starEach es X.env := by rfl) (hpl : (backTo pos (starEach es X.env)).any (·.1) = false := by rfl) :
    PE X (.Call (.Name x p) (e :: es) [] pos) (tCall sp [] E0 t) := pe_cc C passL hr ha hg hdb he hpl
end

/-- a module's number -/
theorem pe_gI {X : Cx} {x : Str} {n : Int} {pos : Pos} (hm : ∃ t, X.mg x = some (.int n t)) (hg : Gl X x := by rfl) (hd : (x == ("__debug__" : Str)) = false := by decide) : PE X (.Name x pos) (tC (.int n)) := by
  obtain ⟨t, h⟩ := hm
  exact pe_glob hg h ⟨t, rfl⟩ hd
/-! ### operators by the values' kinds -/
section
variable {X : Cx}
def rAddG (K : PySem.W.Frag) : R2 := fun x y H Q => match x, y with
  | .int i, .int j => Q (.int (i + j)) H
  | .str a, .str b => a.length + b.length ≤ sizeLine ∧ Q (.str (a ++ b)) H
  | .ref p, .ref q => (∃ xs ys, H p = some (.lst xs) ∧ H q = some (.lst ys) ∧ xs.length + ys.length ≤ sizeLine ∧ ∀ r, H r = none → Q (.ref r) (upd H r (.lst (xs ++ ys)))) ∨ rCatA K x y H Q
  | _, _ => False
theorem op_addG : OpR X (binaryOp .Add) (rAddG X.K) := by
  intro pins s σ H x y v u Q I rx ry h
  cases x <;> cases y <;> first
    | exact False.elim h
    | exact op_add pins s σ H _ _ v u Q I rx ry ⟨_, _, rfl, rfl, h⟩
    | exact op_add_str pins s σ H _ _ v u Q I rx ry ⟨_, _, rfl, rfl, h⟩
    | exact h.elim (fun ⟨xs, ys, h1, h2, h3, h4⟩ => op_cat pins s σ H _ _ v u Q I rx ry ⟨_, _, xs, ys, rfl, rfl, h1, h2, h3, h4⟩) (fun h => op_catA pins s σ H _ _ v u Q I rx ry h)
def rSubG : R2 := fun x y H Q => match x, y with
  | .int i, .int j => Q (.int (i - j)) H
  | _, _ => False
theorem op_subG : OpR X (binaryOp .Sub) rSubG := by
  intro pins s σ H x y v u Q I rx ry h
  cases x <;> cases y <;> first
    | exact False.elim h
    | exact op_sub pins s σ H _ _ v u Q I rx ry ⟨_, _, rfl, rfl, h⟩
theorem op_mul_str : OpR X (binaryOp .Mult) (fun x y H Q => ∃ a n, x = .str a ∧ y = .int n ∧ MulOk a n ∧ Q (.str (Txt.mul a n)) H) := by
  intro pins s σ H x y v u Q I rx ry h
  obtain ⟨a, n, rfl, rfl, hz, q⟩ := h
  obtain ⟨t, rfl⟩ := rx
  obtain ⟨t', rfl⟩ := ry
  exact SB.mul hz fun t' k => ⟨.str _, H, I.tok _, ⟨_, rfl⟩, q⟩
def rMulG : R2 := fun x y H Q => match x, y with
  | .int i, .int j => (CMul i j ∨ CMulW i j) ∧ Q (.int (i * j)) H
  | .str a, .int n => MulOk a n ∧ Q (.str (Txt.mul a n)) H
  | .ref l, .int k => ∃ xs, H l = some (.lst xs) ∧ -(2 ^ 63) ≤ k ∧ k < 2 ^ 63 ∧ xs.length * k.toNat ≤ sizeLine ∧ ∀ p, H p = none → Q (.ref p) (upd H p (.lst (List.replicate k.toNat xs).flatten))
  | _, _ => False
theorem op_mulG : OpR X (binaryOp .Mult) rMulG := by
  intro pins s σ H x y v u Q I rx ry h
  cases x <;> cases y <;> first
    | exact False.elim h
    | exact h.1.elim (fun c => op_mul pins s σ H _ _ v u Q I rx ry ⟨_, _, rfl, rfl, c, h.2⟩) (fun c => op_mulW pins s σ H _ _ v u Q I rx ry ⟨_, _, rfl, rfl, c, h.2⟩)
    | exact op_mul_str pins s σ H _ _ v u Q I rx ry ⟨_, _, rfl, rfl, h.1, h.2⟩
    | exact (let ⟨xs, h1, h2, h3, h4, h5⟩ := h; op_rep pins s σ H _ _ v u Q I rx ry ⟨_, _, xs, rfl, rfl, h1, h2, h3, h4, h5⟩)
def rModG : R2 := fun x y H Q => match x, y with
  | .int i, .int j => 0 < j ∧ Q (.int (i % j)) H
  | _, _ => False
theorem op_modG : OpR X (binaryOp .Mod) rModG := by
  intro pins s σ H x y v u Q I rx ry h
  cases x <;> cases y <;> first
    | exact False.elim h
    | exact op_mod pins s σ H _ _ v u Q I rx ry ⟨_, _, rfl, rfl, h.1, h.2⟩
def rDivG : R2 := fun x y H Q => match x, y with
  | .int i, .int j => CDivW i j ∧ Q (.int (i / j)) H
  | _, _ => False
theorem op_divG : OpR X (binaryOp .FloorDiv) rDivG := by
  intro pins s σ H x y v u Q I rx ry h
  cases x <;> cases y <;> first
    | exact False.elim h
    | exact op_fdivW pins s σ H _ _ v u Q I rx ry ⟨_, _, rfl, rfl, h.1, h.2⟩
def rPowG : R2 := fun x y H Q => match x, y with
  | .int i, .int j => CPow i j ∧ Q (.int (i ^ j.toNat)) H
  | _, _ => False
theorem op_powG : OpR X (binaryOp .Pow) rPowG := by
  intro pins s σ H x y v u Q I rx ry h
  cases x <;> cases y <;> first
    | exact False.elim h
    | exact op_pow pins s σ H _ _ v u Q I rx ry ⟨_, _, rfl, rfl, h.1, h.2⟩

/-! ### comparisons -/
def rLtG : R2 := fun x y H Q => match x, y with
  | .int i, .int j => Q (.bl (decide (i < j))) H
  | .str a, .str b => Q (.bl (decide (tl a < tl b))) H
  | _, _ => False
theorem op_ltG : OpR X (compareOp .Lt) rLtG := by
  intro pins s σ H x y v u Q I rx ry h
  cases x <;> cases y <;> first
    | exact False.elim h
    | exact op_lt pins s σ H _ _ v u Q I rx ry ⟨_, _, rfl, rfl, h⟩
    | exact op_lt_str pins s σ H _ _ v u Q I rx ry ⟨_, _, rfl, rfl, h⟩
def rLeG : R2 := fun x y H Q => match x, y with
  | .int i, .int j => Q (.bl (decide (i ≤ j))) H
  | .str a, .str b => Q (.bl (!decide (tl b < tl a))) H
  | _, _ => False
theorem op_leG : OpR X (compareOp .LtE) rLeG := by
  intro pins s σ H x y v u Q I rx ry h
  cases x <;> cases y <;> first
    | exact False.elim h
    | exact op_le pins s σ H _ _ v u Q I rx ry ⟨_, _, rfl, rfl, h⟩
    | exact op_le_str pins s σ H _ _ v u Q I rx ry ⟨_, _, rfl, rfl, h⟩
def rGtG : R2 := fun x y H Q => match x, y with
  | .int i, .int j => Q (.bl (decide (j < i))) H
  | .str a, .str b => Q (.bl (decide (tl b < tl a))) H
  | _, _ => False
theorem op_gtG : OpR X (compareOp .Gt) rGtG := by
  intro pins s σ H x y v u Q I rx ry h
  cases x <;> cases y <;> first
    | exact False.elim h
    | exact op_gt pins s σ H _ _ v u Q I rx ry ⟨_, _, rfl, rfl, h⟩
    | exact op_gt_str pins s σ H _ _ v u Q I rx ry ⟨_, _, rfl, rfl, h⟩
def rGeG : R2 := fun x y H Q => match x, y with
  | .int i, .int j => Q (.bl (decide (j ≤ i))) H
  | .str a, .str b => Q (.bl (!decide (tl a < tl b))) H
  | _, _ => False
theorem op_geG : OpR X (compareOp .GtE) rGeG := by
  intro pins s σ H x y v u Q I rx ry h
  cases x <;> cases y <;> first
    | exact False.elim h
    | exact op_ge pins s σ H _ _ v u Q I rx ry ⟨_, _, rfl, rfl, h⟩
    | exact op_ge_str pins s σ H _ _ v u Q I rx ry ⟨_, _, rfl, rfl, h⟩
def rEqG (K : PySem.W.Frag) : R2 := fun x y H Q => match x, y with
  | .int i, .int j => Q (.bl (decide (i = j))) H
  | .str a, .str b => Q (.bl (decide (tl a = tl b))) H
  | .bl a, .bl b => Q (.bl (decide (a = b))) H
  | .ref _, _ => rEqD K x y H Q
  | _, .ref _ => rEqD K x y H Q
  | _, _ => scal x y = true ∧ Q (.bl (decide (x = y))) H
theorem str_tl {a b : Str} : decide (V.str a = V.str b) = decide (tl a = tl b) := by
  by_cases h : a = b
  · subst h
    simp
  · have h2 : ¬ tl a = tl b := fun q => h (TL.ext_tl q)
    have h1 : ¬ V.str a = V.str b := fun q => h (V.str.inj q)
    rw [decide_eq_false h1, decide_eq_false h2]
theorem int_dec {a b : Int} : decide (V.int a = V.int b) = decide (a = b) := by
  by_cases h : a = b
  · subst h
    simp
  · have h1 : ¬ V.int a = V.int b := fun q => h (V.int.inj q)
    rw [decide_eq_false h1, decide_eq_false h]
theorem bl_dec {a b : Bool} : decide (V.bl a = V.bl b) = decide (a = b) := by cases a <;> cases b <;> rfl
theorem op_eqG (hu : X.A.units + 64 < cLine) : OpR X (compareOp .Eq) (rEqG X.K) := by
  intro pins s σ H x y v u Q I rx ry h
  cases x <;> cases y <;> first
    | exact op_eq pins s σ H _ _ v u Q I rx ry ⟨rfl, by rw [int_dec]; exact h⟩
    | exact op_eq pins s σ H _ _ v u Q I rx ry ⟨rfl, by rw [str_tl]; exact h⟩
    | exact op_eq pins s σ H _ _ v u Q I rx ry ⟨rfl, by rw [bl_dec]; exact h⟩
    | exact op_eqD hu pins s σ H _ _ v u Q I rx ry h
    | exact op_eq pins s σ H _ _ v u Q I rx ry h
def rNeG (K : PySem.W.Frag) : R2 := fun x y H Q => match x, y with
  | .int i, .int j => Q (.bl (!decide (i = j))) H
  | .str a, .str b => Q (.bl (!decide (tl a = tl b))) H
  | .bl a, .bl b => Q (.bl (!decide (a = b))) H
  | .ref _, _ => rNeD K x y H Q
  | _, .ref _ => rNeD K x y H Q
  | _, _ => scal x y = true ∧ Q (.bl (!decide (x = y))) H
theorem op_neG (hu : X.A.units + 64 < cLine) : OpR X (compareOp .NotEq) (rNeG X.K) := by
  intro pins s σ H x y v u Q I rx ry h
  cases x <;> cases y <;> first
    | exact op_ne pins s σ H _ _ v u Q I rx ry ⟨rfl, by rw [int_dec]; exact h⟩
    | exact op_ne pins s σ H _ _ v u Q I rx ry ⟨rfl, by rw [str_tl]; exact h⟩
    | exact op_ne pins s σ H _ _ v u Q I rx ry ⟨rfl, by rw [bl_dec]; exact h⟩
    | exact op_neD hu pins s σ H _ _ v u Q I rx ry h
    | exact op_ne pins s σ H _ _ v u Q I rx ry h
/-- x in y, x not in y: y a list, a tuple, or a text and x one sign -/
def rInG (K : PySem.W.Frag) (neg : Bool) : R2 := fun x y H Q => match y with
  | .ref p => ∃ xs, (SqL K H p xs ∨ SqT K H p xs) ∧ flatV x = true ∧ xs.all flatV = true ∧ Q (.bl (if neg then !inV x xs else inV x xs)) H
  | .str z => ∃ c, x = .str ⟨#[c]⟩ ∧ Q (.bl (if neg then !decide (c ∈ tl z) else decide (c ∈ tl z))) H
  | _ => False
theorem op_inG : OpR X (compareOp .In) (rInG X.K false) := by
  intro pins s σ H x y v u Q I rx ry h
  cases y <;> first
    | exact False.elim h
    | exact (let ⟨xs, h1, h2, h3, h4⟩ := h; op_in_seq pins s σ H _ _ v u Q I rx ry ⟨_, xs, rfl, h1, h2, h3, h4⟩)
    | exact (let ⟨c, h1, h2⟩ := h; op_in_sign pins s σ H _ _ v u Q I rx ry ⟨c, _, h1, rfl, h2⟩)
theorem op_notInG : OpR X (compareOp .NotIn) (rInG X.K true) := by
  intro pins s σ H x y v u Q I rx ry h
  cases y <;> first
    | exact False.elim h
    | exact (let ⟨xs, h1, h2, h3, h4⟩ := h; op_notIn_seq pins s σ H _ _ v u Q I rx ry ⟨_, xs, rfl, h1, h2, h3, h4⟩)
    | exact (let ⟨c, h1, h2⟩ := h; op_notIn_sign pins s σ H _ _ v u Q I rx ry ⟨c, _, h1, rfl, h2⟩)

/-! ### subscripts, slices -/
def rIxG (K : PySem.W.Frag) : R2 := fun x y H Q => match x, y with
  | .str z, .int i => z.length ≤ sizeLine ∧ ∃ c, atI (tl z) i = some c ∧ Q (.str (S [c])) H
  | .ref p, .int i => ∃ xs v, (SqL K H p xs ∨ SqT K H p xs) ∧ atI xs i = some v ∧ Q v H
  | _, _ => False
theorem ix_G : IxR X (rIxG X.K) := by
  intro a b pins s σ H x y v u Q I rx ry h hs
  cases x <;> cases y <;> first
    | exact False.elim h
    | exact (let ⟨h0, c, h1, h2⟩ := h; ix_str a b pins s σ H _ _ v u Q I rx ry ⟨_, _, c, rfl, rfl, h0, h1, h2⟩ hs)
    | exact (let ⟨xs, z, h1, h2, h3⟩ := h; h1.elim (fun h1 => ix_list a b pins s σ H _ _ v u Q I rx ry ⟨_, xs, _, z, rfl, rfl, h1, h2, h3⟩ hs) (fun h1 => ix_tup a b pins s σ H _ _ v u Q I rx ry ⟨_, xs, _, z, rfl, rfl, h1, h2, h3⟩ hs))
def rSlG (K : PySem.W.Frag) : V → Option Int → Option Int → Hp → VK → Prop := fun x lo hi H Q => match x with
  | .str z => z.length ≤ sizeLine ∧ Q (.str (cutS z lo hi)) H
  | .ref a => (∃ xs, SqL K H a xs ∧ ∀ p, H p = none → Q (.ref p) (upd H p (.lst (cutV xs lo hi)))) ∨ rSlT K x lo hi H Q
  | _ => False
theorem sl_G : SlR X (rSlG X.K) := by
  intro pins s σ H x v vl vu lo hi sl Q I rx hs pl pu h
  cases x <;> first
    | exact False.elim h
    | exact sl_str pins s σ H _ v vl vu lo hi sl Q I rx hs pl pu ⟨_, rfl, h.1, h.2⟩
    | exact h.elim (fun ⟨xs, h1, h2⟩ => sl_list pins s σ H _ v vl vu lo hi sl Q I rx hs pl pu ⟨_, xs, rfl, h1, h2⟩) (fun h => sl_tup pins s σ H _ v vl vu lo hi sl Q I rx hs pl pu h)

/-! ### built-in functions -/
def rLenG (K : PySem.W.Frag) : List V → Hp → VK → Prop := fun vs H Q => match vs with
  | [.str z] => z.length ≤ sizeLine ∧ Q (.int z.length) H
  | [.ref p] => ∃ ys, (SqL K H p ys ∨ SqT K H p ys) ∧ Q (.int ys.length) H
  | _ => False
theorem call_lenG : CallR X (.builtin "len") (rLenG X.K) := by
  intro pins s σ H xs us Q I r h
  match xs, h with
  | [.str z], h => exact call_len_str pins s σ H _ us Q I r ⟨z, rfl, h.1, h.2⟩
  | [.ref p], h => exact (let ⟨ys, h1, h2⟩ := h; call_len_seq pins s σ H _ us Q I r ⟨p, ys, rfl, h1, h2⟩)
def rIntG : List V → Hp → VK → Prop := fun vs H Q => match vs with
  | [.int i] => Q (.int i) H
  | [.bl b] => Q (.int (if b then 1 else 0)) H
  | [.str a] => ∃ n, PySem.intText? a = some n ∧ a.length ≤ 640 ∧ Q (.int n) H
  | _ => False
theorem call_intG : CallR X (.type "int") rIntG := by
  intro pins s σ H xs us Q I r h
  match xs, h with
  | [.int i], h => exact call_int1 pins s σ H _ us Q I r (.inl ⟨i, rfl, h⟩)
  | [.bl b], h => exact call_int1 pins s σ H _ us Q I r (.inr ⟨b, rfl, h⟩)
  | [.str a], h => exact (let ⟨n, h1, h2, h3⟩ := h; call_int_str pins s σ H _ us Q I r ⟨a, n, rfl, h1, h2, h3⟩)
def rAbsG : List V → Hp → VK → Prop := fun vs H Q => match vs with
  | [.int i] => Q (.int (if i < 0 then -i else i)) H
  | _ => False
theorem call_absG : CallR X (.builtin "abs") rAbsG := by
  intro pins s σ H xs us Q I r h
  match xs, h with
  | [.int i], h => exact call_abs pins s σ H _ us Q I r ⟨i, rfl, h⟩
def rMaxG : List V → Hp → VK → Prop := fun vs H Q => match vs with
  | [.int i, .int j] => Q (.int (if j > i then j else i)) H
  | _ => False
theorem call_maxG (hc : X.calm = true) : CallR X (.builtin "max") rMaxG := by
  intro pins s σ H xs us Q I r h
  match xs, h with
  | [.int i, .int j], h => exact call_max2 hc pins s σ H _ us Q I r ⟨i, j, rfl, h⟩
def rMinG : List V → Hp → VK → Prop := fun vs H Q => match vs with
  | [.int i, .int j] => Q (.int (if j < i then j else i)) H
  | _ => False
theorem call_minG (hc : X.calm = true) : CallR X (.builtin "min") rMinG := by
  intro pins s σ H xs us Q I r h
  match xs, h with
  | [.int i, .int j], h => exact call_min2 hc pins s σ H _ us Q I r ⟨i, j, rfl, h⟩
def rStrG : List V → Hp → VK → Prop := fun vs H Q => match vs with
  | [.int i] => i.natAbs.log2 < 1920 ∧ Q (.str (Str.ofString (toString i))) H
  | _ => False
theorem call_strG : CallR X (.type "str") rStrG := by
  intro pins s σ H xs us Q I r h
  match xs, h with
  | [.int i], h => exact call_str_int pins s σ H _ us Q I r ⟨i, rfl, h.1, h.2⟩
def rDivmodG : List V → Hp → VK → Prop := fun vs H Q => match vs with
  | [.int i, .int j] => CDiv i j ∧ ∀ p, H p = none → Q (.ref p) (upd H p (.tup [.int (i / j), .int (i % j)]))
  | _ => False
theorem call_divmodG : CallR X (.builtin "divmod") rDivmodG := by
  intro pins s σ H xs us Q I r h
  match xs, h with
  | [.int i, .int j], h => exact call_divmod pins s σ H _ us Q I r ⟨i, j, rfl, h.1, h.2⟩
/-- isinstance(x, T), T built-in, x flat -/
def tyOf : V → String
  | .non => "NoneType" | .bl _ => "bool" | .int _ => "int" | .str _ => "str" | _ => ""
def rIsiG : List V → Hp → VK → Prop := fun vs H Q => match vs with
  | [x, .ty n] => flatV x = true ∧ tyOf x ≠ "" ∧ ∃ b, kitB (tyOf x) n = some b ∧ Q (.bl b) H
  | _ => False
theorem call_isiG : CallR X (.builtin "isinstance") rIsiG := by
  intro pins s σ H xs us Q I r h
  match xs, h with
  | [x, .ty n], h =>
    obtain ⟨h0, h1, b, h2, h3⟩ := h
    refine call_isi pins s σ H _ us Q I r ⟨x, .ty n, .type (tyOf x), .type n, b, rfl, .ty n, ?_, kit_ty h2, h3⟩
    cases x with
    | non => exact .base .non
    | bl b => exact .base (.bl b)
    | int i => exact .base (.int i)
    | str z => exact .base (.str z)
    | _ => exact absurd rfl h1
/-- a value's truth, flat ones by match -/
def tTruG (K : PySem.W.Frag) (ta : TE) : TT := fun σ H Q => ta σ H fun x H' => match x with
  | .bl b => Q b H'
  | .int i => Q (i != 0) H'
  | .non => Q false H'
  | _ => ∃ k, TruV K x H' k ∧ Q k H'
theorem pt_truG {a : Expr} {ta : TE} (ha : PE X a ta) (he : ∀ whole, isTrue a X.env whole = (do let v ← whole; standAt a.pos; holding [v] (truthy v)) := by intro _; rfl) :
    PT X a (tTruG X.K ta) := by
  refine ⟨fun pins s σ H Q I h => ?_⟩
  refine isTrue_plain (thn (ha.run pins s σ H _ I h) fun v s1 ⟨x, H1, I1, r1, q1⟩ => tru_ok pins s1 σ H1 x v Q I1 r1 ?_) (he _)
  cases x <;> first
    | exact ⟨_, rfl, q1⟩
    | exact q1
end
end G
namespace G
open PySem PySem.Spec PyProof.Rows L2
theorem cx_K {CX : CXT} {P : Program} {w : World} {K : PySem.W.Frag} {mg : Str → Option Value} {base : Heap} {N : List Str} {qual : Str} {scope : Scope} {f : Addr} {cd : Value} {A : Around} {outer : List Env} {s : Shared} {H : Hp} {E : XK} :
    (cxOf CX P w K mg base N qual scope f cd A outer s H E).K = K := rfl
/-! while, by a word and a measure, its test read at the word -/
theorem wh {c : TT} {tb : TS} {D : Ends} {σ : L2.St} {H : Hp} (Pv : L2.St → Hp → Prop) (μ : L2.St → Hp → Nat) (h0 : Pv σ H)
    (hs : ∀ σ H, Pv σ H → c σ H fun b H1 => if b = true then ∃ N : L2.St → Hp → Prop, (∀ σ' H', N σ' H' → ∃ m', m' < μ σ H ∧ (m' = μ σ' H' ∧ Pv σ' H')) ∧ tb { D with nx := N, ct := N, bk := D.nx } σ H1 else D.nx σ H1) :
    tWhile c tb D σ H := by
  refine ⟨fun m σ H => m = μ σ H ∧ Pv σ H, ⟨_, rfl, h0⟩, ?_⟩
  rintro m σ H ⟨rfl, p⟩
  exact hs σ H p
theorem wn {tb : TS} {D : Ends} {σ σ0 : L2.St} {H H0 : Hp} {B : L2.St → Hp → Prop} {Pv : L2.St → Hp → Prop} {μ : L2.St → Hp → Nat} {m : Nat}
    (h : tb { D with nx := fun σ' H' => μ σ' H' < m ∧ Pv σ' H', ct := fun σ' H' => μ σ' H' < m ∧ Pv σ' H', bk := B } σ H) :
    ∃ N : L2.St → Hp → Prop, (∀ σ' H', N σ' H' → ∃ m', m' < m ∧ (m' = μ σ' H' ∧ Pv σ' H')) ∧ tb { D with nx := N, ct := N, bk := B } σ H :=
  ⟨_, fun σ' H' q => ⟨_, q.1, rfl, q.2⟩, h⟩
/-! texts -/
theorem tl_S (l : List Nat) : tl (S l) = l := rfl
theorem S_tl (x : Str) : S (tl x) = x := SX.S_tl x
theorem len_tl (x : Str) : x.length = (tl x).length := TL.len_tl x
theorem len_S (l : List Nat) : (S l).length = l.length := SX.S_len l
theorem tl_cat (x y : Str) : tl (x ++ y) = tl x ++ tl y := TL.tl_append x y
theorem tl_cut (z : Str) (i j : Nat) : tl (cutS z (some (i : Int)) (some (j : Int))) = ((tl z).drop i).take (j - i) := by
  have h1 : HT.sIx z.length 0 (some (i : Int)) = min i z.length := HT.sIx_nat z.length 0 i
  have h2 : HT.sIx z.length z.length (some (j : Int)) = min j z.length := HT.sIx_nat z.length z.length j
  show ((tl z).drop _).take _ = _
  rw [h1, h2, len_tl]
  by_cases hi : i ≤ (tl z).length
  · rw [Nat.min_eq_left hi]
    by_cases hj : j ≤ (tl z).length
    · rw [Nat.min_eq_left hj]
    · rw [Nat.min_eq_right (show (tl z).length ≤ j by omega), List.take_of_length_le (by rw [List.length_drop]; omega), List.take_of_length_le (by rw [List.length_drop]; omega)]
  · rw [Nat.min_eq_right (show (tl z).length ≤ i by omega), List.drop_eq_nil_of_le (Nat.le_refl _), List.drop_eq_nil_of_le (show (tl z).length ≤ i by omega), List.take_nil, List.take_nil]
theorem tl_cut0 (z : Str) (j : Nat) : tl (cutS z none (some (j : Int))) = (tl z).take j := by
  have h1 : HT.sIx z.length 0 none = 0 := HT.sIx_none ..
  have h2 : HT.sIx z.length z.length (some (j : Int)) = min j z.length := HT.sIx_nat z.length z.length j
  show ((tl z).drop _).take _ = _
  rw [h1, h2, len_tl, List.drop_zero, Nat.sub_zero]
  by_cases hj : j ≤ (tl z).length
  · rw [Nat.min_eq_left hj]
  · rw [Nat.min_eq_right (show (tl z).length ≤ j by omega), List.take_of_length_le (by omega), List.take_of_length_le (by omega)]
theorem tl_cut1 (z : Str) (i : Nat) : tl (cutS z (some (i : Int)) none) = (tl z).drop i := by
  have h1 : HT.sIx z.length 0 (some (i : Int)) = min i z.length := HT.sIx_nat z.length 0 i
  have h2 : HT.sIx z.length z.length none = z.length := HT.sIx_none ..
  show ((tl z).drop _).take _ = _
  rw [h1, h2, len_tl]
  by_cases hi : i ≤ (tl z).length
  · rw [Nat.min_eq_left hi, List.take_of_length_le (by rw [List.length_drop]; omega)]
  · rw [Nat.min_eq_right (show (tl z).length ≤ i by omega), List.drop_eq_nil_of_le (Nat.le_refl _), List.drop_eq_nil_of_le (show (tl z).length ≤ i by omega), List.take_nil]
theorem str_eta {x y : Str} (h : tl x = tl y) : x = y := TL.ext_tl h
end G
namespace G
open PySem PySem.Spec PyProof.Rows L2
theorem line_of {n : Nat} (h : n ≤ 100000) : n ≤ sizeLine := Nat.le_trans h (by decide)
/-- a next turn's word, chosen -/
theorem exN {R : L2.St → Hp → Prop} {a : L2.St} {b : Hp} (h : R a b) : ∃ N : L2.St → Hp → Prop, (∀ σ' H', N σ' H' → R σ' H') ∧ N a b := ⟨R, fun _ _ x => x, h⟩
theorem exN_iff {R : L2.St → Hp → Prop} {a : L2.St} {b : Hp} : (∃ N : L2.St → Hp → Prop, (∀ σ' H', N σ' H' → R σ' H') ∧ N a b) ↔ R a b := ⟨fun ⟨_, h, x⟩ => h _ _ x, exN⟩
/-- while, the word by the measure -/
theorem whm {c : TT} {tb : TS} {D : Ends} {σ : L2.St} {H : Hp} (Pv : Nat → L2.St → Hp → Prop) (m0 : Nat) (h0 : Pv m0 σ H)
    (hs : ∀ m σ H, Pv m σ H → c σ H fun b H1 => if b = true then ∃ N : L2.St → Hp → Prop, (∀ σ' H', N σ' H' → ∃ m', m' < m ∧ Pv m' σ' H') ∧ tb { D with nx := N, ct := N, bk := D.nx } σ H1 else D.nx σ H1) :
    tWhile c tb D σ H := ⟨Pv, ⟨m0, h0⟩, hs⟩
theorem sameI {H : Hp} {p : Addr} {o : HO} (h : H p = none) : Same H (upd H p o) := fun b u e => by
  rw [upd_ne (ne_of_none e h)]
  exact e
end G
namespace G
theorem dec1 (c j : Nat) : decide (tl (S [c]) = tl (S [j])) = decide (c = j) := by
  show decide ([c] = [j]) = _
  simp
end G
namespace G
open PySem PySem.Spec PyProof.Rows L2
/-! an own error class with one field -/
def spInit (C : Addr) (f : Str) : Sp := fun vs H Q _ => match vs with
  | [.ref a, v] => H a = some (exo a C none) ∧ ∀ dx, H dx = none → dx ≠ a → Q .non (upd (upd H dx (exd dx [(f, v)])) a (exo a C (some dx)))
  | _ => False
/-- what the caller of a def that raises it gets -/
def PErr (C : Addr) (f : Str) (v : V) (H : Hp) (E : XK) : Prop := ∀ d H', Same H H' → H d = none → H' d = some (.xd [(f, v)]) → E (.ref C) (some d) H'
structure ErrOk (P : Program) (w : World) (K : PySem.W.Frag) (mg : Str → Option Value) (base : Heap) (x f : Str) (C : Addr) : Prop where
  gC : mg x = some (.ref C)
  ox : OexC K C
  xf : XfC K C
  no : PySem.W.findIn K (.ref C) f = some none
  self : PySem.W.exmOne K (.ref C) (.ref C) = some true
  ini : ∃ (fI : Addr) (fd : FuncData) (ps : List Str), PySem.W.findIn K (.ref C) "__init__" = some (some (.ref fI)) ∧ PySem.W.typeIn K (.ref fI) = some (.type "function") ∧ FnOk P w K mg base (L2.CX P w) 1 fI fd ps (spInit C f) ∧ Binds K fd ps []
def rMk (C : Addr) (f : Str) (vs : List V) (H1 : Hp) (Q : XK) : Prop := vs.length ≤ 1000 ∧ ∀ a, H1 a = none → spInit C f (.ref a :: (vs ++ [])) (upd H1 a (exo a C none))
  (fun v H2 => v = .non ∧ ∃ (d : Addr) (fs : List (Str × V)), H2 a = some (exo a C (some d)) ∧ H2 d = some (exd d fs) ∧ H1 d = none ∧ Q (.ref C) (some d) (upd (del H2 a) d (.xd fs))) (fun _ _ _ => False)
theorem rMk_of {C : Addr} {f : Str} {v : V} {H : Hp} {Q : XK} (h : PErr C f v H Q) : rMk C f [v] H Q := by
  refine ⟨by show 1 ≤ 1000; decide, fun a ha => ?_⟩
  refine ⟨upd_same, fun dx hdx hne => ⟨rfl, dx, [(f, v)], upd_same, ?_, ?_, ?_⟩⟩
  · rw [upd_ne hne, upd_same]
  · rw [upd_ne hne] at hdx
    exact hdx
  · rw [upd_ne hne] at hdx
    refine h dx _ (fun b o e => ?_) hdx upd_same
    have h1 : b ≠ dx := ne_of_none e hdx
    have h2 : b ≠ a := ne_of_none e ha
    rw [upd_ne h1, del_ne h2, upd_ne h2, upd_ne h1, upd_ne h2]
    exact e
def tRaiseC (C : Addr) (f : Str) (W : WX) (ta : TA) : TS := fun _ σ H => ta σ H fun vs H1 => rMk C f vs H1 fun cls d H' => W cls d σ H'
theorem ps_raiseC {X : Cx} {x f : Str} {C : Addr} {W : WX} {a : Expr} {ta : TA} {p pos pos2 : Pos} (R : ErrOk X.prog X.w X.K X.mg X.base x f C) (hr : Room 2 X.A) (tk : Takes X W) (ha : PA X [a] ta) (hc : X.calm = true := by rfl) (hg : Gl X x := by rfl)
    (hdb : (x == ("__debug__" : Str)) = false := by decide) (he : starEach [a] X.env = (false, eval a X.env) :: starEach [] X.env := by rfl) (hpl : (backTo pos (starEach [] X.env)).any (·.1) = false := by rfl) :
    PS X (.Raise (some (.Call (.Name x p) [a] [] pos)) none pos2) (tRaiseC C f W ta) := by
  obtain ⟨fI, fd, ps, h1, h2, F, hb⟩ := R.ini
  have E0' : Passes (L2.CX X.prog X.w) X (fun _ _ _ => False) := passL
  exact ps_raise hc tk (pmk_oex R.ox h1 h2 F hr hb .nil E0' hg R.gC ha hdb he hpl)
end G
namespace G
open PySem PySem.Spec PyProof.Rows L2
section
variable {i : Int} {z : Str} {k : Bool} {H : Hp} {Q : VK}
theorem kit_ii : kitB "int" "int" = some true := by decide +kernel
theorem kit_ib : kitB "int" "bool" = some false := by decide +kernel
theorem kit_ss : kitB "str" "str" = some true := by decide +kernel
theorem isi_of {x : V} {n : String} {b : Bool} (h1 : flatV x = true) (h2 : tyOf x ≠ "") (h : kitB (tyOf x) n = some b) : rIsiG [x, .ty n] H Q ↔ Q (.bl b) H := by
  constructor
  · intro ⟨_, _, c, e, q⟩
    rw [h] at e
    cases e
    exact q
  · intro q
    exact ⟨h1, h2, b, h, q⟩
theorem isi_ii : rIsiG [.int i, .ty "int"] H Q ↔ Q (.bl true) H := isi_of rfl (show ("int" : String) ≠ "" by decide) kit_ii
theorem isi_ib : rIsiG [.int i, .ty "bool"] H Q ↔ Q (.bl false) H := isi_of rfl (show ("int" : String) ≠ "" by decide) kit_ib
theorem isi_ss : rIsiG [.str z, .ty "str"] H Q ↔ Q (.bl true) H := isi_of rfl (show ("str" : String) ≠ "" by decide) kit_ss
end
end G
namespace G
open PySem PySem.Spec PyProof.Rows L2
/-- a written dict that lacks a name, read through any view of it -/
theorem ns_lacks {K : PySem.W.Frag} {h : Heap} {ns : Addr} {m : Str → Option Value} {n : Str} (X : K.In h) (G : h.Ns ns m) (e : PySem.W.nsIn K ns n = some none) : m n = none := by
  obtain ⟨o, es, ep, ho, hd, _, hf⟩ := G
  rw [← hf n]
  unfold PySem.W.nsIn at e
  cases q : K.lookup ns with
  | none => rw [q] at e; cases e
  | some o' =>
    have h2 : h.get? ns = some o' := X _ _ q
    rw [ho] at h2
    cases h2
    obtain ⟨c, d, dt, sl⟩ := o
    have hd' : dt = .dict es ep := hd
    subst hd'
    rw [q] at e
    have e2 : (match es.toList.find? (·.key.isStr n) with
      | some e => some (some e.val)
      | none => if es.toList.any (·.refKey) then none else some none) = some none := e
    unfold nsFind findBy
    rw [← Array.find?_toList]
    cases r : es.toList.find? (·.key.isStr n) with
    | none => rfl
    | some z => rw [r] at e2; cases e2
theorem noDig {X : Cx} {pins : List (Addr × Obj)} {σ : L2.St} {H : Hp} {s : Shared} (I : Inv X pins σ H s) (e : PySem.W.nsIn X.K cStatics "sys.int_max_str_digits" = some none) : s.heap.NoDigits := by
  obtain ⟨mc, hn, _⟩ := I.nolimit
  exact ⟨mc, hn, ns_lacks I.kIn hn e⟩
/-- two digits -/
def dig2 (n : Nat) : List Nat := [48 + n / 10, 48 + n % 10]
theorem ofStr_nat : ∀ n : Fin 100, (if n.val < 10 then ([48] : List Nat) ++ tl (Str.ofString (toString (n.val : Int))) else tl (Str.ofString (toString (n.val : Int)))) = dig2 n.val := by decide +kernel
def tFmt02 (te : TE) : TE := fun σ H Q => te σ H fun x H1 => ∃ i : Nat, x = .int (i : Int) ∧ i < 100 ∧ Q (.str (S (dig2 i))) H1
theorem pe_fmtS {X : Cx} {e : Expr} {te : TE} {j : Nat} {p p2 pos : Pos} (nd : PySem.W.nsIn X.K cStatics "sys.int_max_str_digits" = some none) (he : PE X e te) :
    PE X (.FormattedValue e (-1) (some (.JoinedStr [.Constant (.str "02d") j p] p2)) pos) (tFmt02 te) := by
  refine ⟨fun pins s σ H Q I h => ?_⟩
  refine wpAny_FormattedValue_spec (thn (he.run pins s σ H _ I h) fun v s1 ⟨x, H1, I1, r1, i, ex, hi, q⟩ => ?_)
  subst ex
  obtain ⟨t, rfl⟩ := r1
  refine wpAny_JoinedStr_one ?_
  refine Calls.Constant_str ?_
  refine ⟨_, _, rfl, ?_⟩
  refine PySem.W.KXf.field_sym (W := 2) (noDig (I1.tok _) nd) (by omega) (by omega) (by decide +kernel) (by decide +kernel) (by decide +kernel) fun t' k f hlo hhi => ?_
  have hp := f.pad2 (by decide +kernel) rfl (by omega) (by omega)
  refine ⟨.str (S (dig2 i)), H1, I1.tok k, ⟨t', ?_⟩, q⟩
  have hz := ofStr_nat ⟨i, hi⟩
  have e2 : intSpecTextOf (Str.ofString "02d") (i : Int) = S (dig2 i) := by
    refine TL.ext_tl ?_
    show tl _ = dig2 i
    rw [← hz]
    show tl (intSpecTextOf (Str.ofString "02d") (i : Int)) = if i < 10 then ([48] : List Nat) ++ tl (Str.ofString (toString (i : Int))) else tl (Str.ofString (toString (i : Int)))
    have hp' : intSpecTextOf (Str.ofString "02d") (i : Int) = if decide ((i : Int) < 10) = true then (⟨#[48]⟩ : Str) ++ Str.ofString (toString (i : Int)) else Str.ofString (toString (i : Int)) := hp
    rw [hp']
    by_cases h10 : i < 10
    · rw [decide_eq_true (by omega : (i : Int) < 10), if_pos rfl, if_pos h10, tl_cat]
    · rw [decide_eq_false (by omega : ¬ (i : Int) < 10), if_neg Bool.false_ne_true, if_neg h10]
  exact congrArg (fun z => Value.str z t') e2
end G
namespace G
open PySem PySem.Spec PyProof.Rows L2
theorem gTup_of {K : PySem.W.Frag} {n : Nat} {t : TGs} {p : Addr} {σ : L2.St} {H : Hp} {Q : L2.St → Hp → Prop} {xs : List V} (h : H p = some (.tup xs)) (hn : xs.length = n) (q : t xs σ H Q) : gTup K n t (.ref p) σ H Q :=
  ⟨p, xs, rfl, SqT.of h, hn, q⟩
theorem gLst_of {K : PySem.W.Frag} {n : Nat} {t : TGs} {p : Addr} {σ : L2.St} {H : Hp} {Q : L2.St → Hp → Prop} {xs : List V} (h : H p = some (.lst xs)) (hn : xs.length = n) (q : t xs σ H Q) : gLst K n t (.ref p) σ H Q :=
  ⟨p, xs, rfl, SqL.of h, hn, q⟩
def numL (n : Nat) : List Nat := tl (Str.ofString (toString (n : Int)))
end G
namespace G
open PySem PySem.Spec PyProof.Rows L2
theorem gCons_c {t : TG} {u : TGs} {x : V} {r : List V} {σ : L2.St} {H : Hp} {Q : L2.St → Hp → Prop} : gCons t u (x :: r) σ H Q ↔ t x σ H (fun σ' H' => u r σ' H' Q) :=
  ⟨fun ⟨v, r', e, h⟩ => by cases e; exact h, fun h => ⟨_, _, rfl, h⟩⟩
theorem gNil_c {σ : L2.St} {H : Hp} {Q : L2.St → Hp → Prop} : gNil [] σ H Q ↔ Q σ H := ⟨fun h => h.2, fun h => ⟨rfl, h⟩⟩
theorem S_cat (a b : List Nat) : S a ++ S b = S (a ++ b) := SX.S_cat a b
theorem S_nil : Str.empty = S [] := rfl
theorem dig2_len (n : Nat) : (dig2 n).length = 2 := rfl
theorem numL_eq (n : Nat) : numL n = (Nat.toDigits 10 n).map Char.toNat := by
  unfold numL
  show TL.tl _ = _
  rw [TL.tl_ofString]
  show (Nat.repr n).toList.map Char.toNat = _
  rw [Nat.toList_repr]
theorem numL_len {n k : Nat} (h : n < 10 ^ k) (hk : 0 < k) : (numL n).length ≤ k := by
  rw [numL_eq, List.length_map]
  have e := (Nat.length_repr_le_iff (n := n) hk).mpr h
  rwa [← String.length_toList, Nat.toList_repr] at e
theorem toS_nat (n : Nat) : Str.ofString (toString (n : Int)) = S (numL n) := (S_tl _).symm
end G
namespace G
open PySem PySem.Spec PyProof.Rows L2
def tFmtG (te : TE) : TE := fun σ H Q => te σ H fun x H1 => match x with
  | .str y => y.length ≤ sizeLine ∧ Q (.str y) H1
  | .int i => i.natAbs.log2 < 1920 ∧ Q (.str (Str.ofString (toString i))) H1
  | _ => False
theorem pe_fmtG {X : Cx} {e : Expr} {te : TE} {pos : Pos} (he : PE X e te) : PE X (.FormattedValue e (-1) none pos) (tFmtG te) := by
  refine ⟨fun pins s σ H Q I h => ?_⟩
  refine wpAny_FormattedValue_plain (thn (he.run pins s σ H _ I h) fun v s1 hv => ?_)
  obtain ⟨x, H1, I1, r1, q⟩ := hv
  cases x with
  | str y =>
    obtain ⟨t, rfl⟩ := r1
    exact wpAny_formatField_str ⟨.str y, H1, I1, ⟨t, rfl⟩, q.2⟩ ⟨.str y, H1, I1.tok _, ⟨_, rfl⟩, q.2⟩ q.1
  | int i =>
    obtain ⟨t, rfl⟩ := r1
    exact wpAny_formatField_int q.1 ⟨.str (Str.ofString (toString i)), H1, I1.tok _, ⟨_, rfl⟩, q.2⟩
  | _ => exact False.elim q
theorem log2_small {n : Nat} (h : n < 2 ^ 60) : n.log2 < 1920 := by
  by_cases h0 : n = 0
  · subst h0
    decide
  · have := (Nat.log2_lt h0).mpr h
    omega
end G
namespace G
open PySem PySem.Spec PyProof.Rows L2
theorem PErr.mono {C : Addr} {f : Str} {v : V} {H H1 : Hp} {E : XK} (h : PErr C f v H E) (s : Same H H1) : PErr C f v H1 E := fun d H' s' n e => h d H' (s.trans s') (s.free n) e
/-- a tracked new thing is another one than what was tracked -/
theorem ne_new {H : Hp} {a p : Addr} {o : HO} (h : H a = some o) (hp : H p = none) : a ≠ p := ne_of_none h hp
theorem same_mut {H H1 : Hp} {l : Addr} {o : HO} (s : Same H H1) (n : H l = none) : Same H (upd H1 l o) := fun b u e => by
  rw [upd_ne (ne_of_none e n)]
  exact s b u e
end G
namespace G
open PySem PySem.Spec PyProof.Rows L2
/-! zip of two things, each a list or a tuple -/
def SqB (K : PySem.W.Frag) (k : Bool) (H : Hp) (a : Addr) (xs : List V) : Prop := if k = true then SqL K H a xs else SqT K H a xs
def ItB (k : Bool) (h : Heap) (it a : Addr) (i : Nat) : Prop := if k = true then h.IsListIter it a i else h.IsTupleIter it a i
def SeB (k : Bool) (h : Heap) (a : Addr) (xs : Array Value) : Prop := if k = true then h.IsList a xs else h.IsTuple a xs
theorem drawB {P : Program} {w : World} {A : Around} (hh : A.handled = none) (k : Bool) (it a : Addr) (hne : a ≠ it) (items : Array Value) :
    Draws P w A it [it, a] items.size (fun i v => items[i]? = some v) (fun i h => ItB k h it a i ∧ SeB k h a items) := by
  cases k with
  | true => exact Draws.list hh it a hne items
  | false => exact Draws.tuple hh it a hne items
theorem invB {X : Cx} {pins : List (Addr × Obj)} {σ : L2.St} {H : Hp} {s : Shared} {k : Bool} {a : Addr} {xs : List V} (I : Inv X pins σ H s) (h : SqB X.K k H a xs) : ∃ its : List Value, Vals xs its ∧ SeB k s.heap a its.toArray ∧ a < s.heap.objs.size := by
  cases k with
  | true =>
    obtain ⟨its, r, p, _⟩ := I.list h
    exact ⟨its, r, p.isList, p.lt⟩
  | false =>
    obtain ⟨its, r, p, _⟩ := I.tuple h
    obtain ⟨o, ho, _⟩ := id p
    exact ⟨its, r, p, Heap.lt_size ho⟩
theorem injB {X : Cx} {pins : List (Addr × Obj)} {σ : L2.St} {H : Hp} {s : Shared} {k : Bool} {a : Addr} {xs ys : List V} (I : Inv X pins σ H s) (h : SqB X.K k H a xs) (h' : SqB X.K k H a ys) : xs = ys := by
  cases k with
  | true => exact I.list_inj h h'
  | false => exact I.tuple_inj h h'
theorem objB {k : Bool} {h : Heap} {it a : Addr} {i : Nat} (x : ItB k h it a i) : ∃ o, h.get? it = some o ∧ ∀ v, o.data ≠ .cell v := by
  cases k with
  | true =>
    obtain ⟨o, e, _, d⟩ := (show h.IsListIter it a i from x)
    exact ⟨o, e, fun v q => by rw [d] at q; cases q⟩
  | false =>
    obtain ⟨o, e, _, d⟩ := (show h.IsTupleIter it a i from x)
    exact ⟨o, e, fun v q => by rw [d] at q; cases q⟩
theorem atB {k : Bool} {h h' : Heap} {it a : Addr} {i : Nat} (x : ItB k h it a i) (f : ∀ o, h.get? it = some o → h'.get? it = some o) : ItB k h' it a i := by
  cases k with
  | true => exact (show h.IsListIter it a i from x).at f
  | false => exact (show h.IsTupleIter it a i from x).at f
def ItzG (K : PySem.W.Frag) (k1 k2 : Bool) (a b : Addr) : It :=
  ⟨fun i H => ∃ (xs ys : List V) (x y : V), SqB K k1 H a xs ∧ SqB K k2 H b ys ∧ xs[i]? = some x ∧ ys[i]? = some y,
    fun i H v H' => ∃ T x y, v = .ref T ∧ H T = none ∧ H' = upd H T (.tup [x, y]) ∧ (∀ xs, SqB K k1 H a xs → xs[i]? = some x) ∧ ∀ ys, SqB K k2 H b ys → ys[i]? = some y,
    fun i H => ∃ xs ys : List V, SqB K k1 H a xs ∧ SqB K k2 H b ys ∧ i ≤ xs.length ∧ i ≤ ys.length ∧ (i = xs.length ∨ i = ys.length)⟩
theorem turn_zipG {P : Program} {w : World} {K : PySem.W.Frag} {elts : List Expr} {kk : Nat} {tpos : Pos} {k1 k2 : Bool} {a b z TI TO i1 i2 : Addr} (D : ZipSep2 z TI TO i1 i2 [i1, a] [i2, b]) (ai : a ≠ i1) (bi : b ≠ i2) :
    Turn P w K (.Tuple elts kk tpos) (ItzG K k1 k2 a b) [z, TI, TO, i1, i2] z (fun i h => IsZip h z TI TO .none ∧ IsTupOf2 h TI (.ref i1) (.ref i2) ∧ (∃ x y, IsTupOf2 h TO x y) ∧ ItB k1 h i1 a i ∧ ItB k2 h i2 b i) where
  mem := by simp
  obj := fun i h st c hc => by
    obtain ⟨hz, hTI, ⟨x, y, hTO⟩, h1, h2⟩ := st
    have e' : c = z ∨ c = TI ∨ c = TO ∨ c = i1 ∨ c = i2 := by simpa using hc
    rcases e' with q | q | q | q | q
    · rw [q]; exact ⟨_, hz, fun v q => nomatch q⟩
    · rw [q]; exact ⟨_, hTI, fun v q => nomatch q⟩
    · rw [q]; exact ⟨_, hTO, fun v q => nomatch q⟩
    · rw [q]; exact objB h1
    · rw [q]; exact objB h2
  keep := fun i h h' st k => by
    obtain ⟨hz, hTI, ⟨x, y, hTO⟩, h1, h2⟩ := st
    exact ⟨k z (by simp) _ hz, k TI (by simp) _ hTI, ⟨x, y, k TO (by simp) _ hTO⟩, atB h1 fun o q => k i1 (by simp) o q, atB h2 fun o q => k i2 (by simp) o q⟩
  item := by
    intro X hP hw hK hc i pins s σ H E I hf st hg
    subst hP hw hK
    obtain ⟨hz, hTI, ⟨x0, y0, hTO⟩, h1, h2⟩ := st
    obtain ⟨xs, ys, x, y, hqx, hqy, hx, hy⟩ := hg
    obtain ⟨its, rv, p, pa⟩ := invB I hqx
    obtain ⟨its2, rv2, p2, pb⟩ := invB I hqy
    obtain ⟨u, hu, ru⟩ := rv.get hx
    obtain ⟨u2, hu2, ru2⟩ := rv2.get hy
    have hzl : z < s.heap.objs.size := Heap.lt_size hz
    have hh : X.A.in1.handled = none := I.ok.hd hc
    have lx : i < its.toArray.size := (List.getElem?_eq_some_iff.mp hu).1
    have ly : i < its2.toArray.size := (List.getElem?_eq_some_iff.mp hu2).1
    refine wpAny_pyNext_zipD2_item D (drawB hh k1 i1 a ai its.toArray) (drawB hh k2 i2 b bi its2.toArray) hz hTI hTO ⟨h1, p⟩ ⟨h2, p2⟩ lx ly fun v1 v2 h' tk e1 e2 z' TO' h1' h2' hT hsz hk => ?_
    have e1' : u = v1 := by
      have q : some u = some v1 := hu.symm.trans (by simpa using e1)
      exact Option.some.inj q
    have e2' : u2 = v2 := by
      have q : some u2 = some v2 := hu2.symm.trans (by simpa using e2)
      exact Option.some.inj q
    subst e1' e2'
    refine ⟨_, rfl, wpAny_letOwnedTupleGo_zip (s := { s with heap := h', toks := tk }) z' fun h'' z'' sb => ?_⟩
    have hT2 : h''.get? s.heap.objs.size = some { cls := .type "tuple", data := .seq #[u, u2] } := (sb.2 _ (Nat.ne_of_gt hzl)).trans hT
    have new : ObjOk X.prog X.w (upd H s.heap.objs.size (.tup [x, y])) h'' s.heap.objs.size (.tup [x, y]) :=
      ⟨by show 2 ≤ sizeLine; decide, [u, u2], .cons ru (.cons ru2 .nil), ⟨_, hT2, rfl, _, rfl⟩⟩
    have I1 : Inv X pins σ (upd H s.heap.objs.size (.tup [x, y])) { s with heap := h'', toks := tk } :=
      I.turnedNew (t' := tk) (ch := [z, TI, TO, i1, i2]) (fun c o hb q => (sb.2 c (fun q' => hb (by simp [q']))).trans (hk c o (fun q' => hb (by simp [q'])) (fun q' => hb (by simp [q'])) (fun q' => hb (by simp [q'])) (fun q' => hb (by simp [q'])) q)) hf (Nat.le_refl _) new
    refine ⟨.ref s.heap.objs.size, _, I1, rfl, ⟨_, x, y, rfl, I.hok.fresh (Nat.le_refl _), rfl, fun l hl => by rw [injB I hl hqx]; exact hx, fun l hl => by rw [injB I hl hqy]; exact hy⟩, ⟨z'', ?_, ⟨u, u2, ?_⟩, ?_, ?_⟩, fun c hcm => ?_⟩
    · exact (sb.2 _ D.TIz).trans (hk _ _ D.TIz D.TITO D.TIi1 D.TIi2 hTI)
    · exact (sb.2 _ D.TOz).trans TO'
    · exact atB h1'.1 fun o q => (sb.2 _ (Ne.symm D.zi1)).trans q
    · exact atB h2'.1 fun o q => (sb.2 _ (Ne.symm D.zi2)).trans q
    · have hlt : c < s.heap.objs.size := by
        have e' : c = z ∨ c = TI ∨ c = TO ∨ c = i1 ∨ c = i2 := by simpa using hcm
        rcases e' with q | q | q | q | q
        · rw [q]; exact hzl
        · rw [q]; exact Heap.lt_size hTI
        · rw [q]; exact Heap.lt_size hTO
        · rw [q]; obtain ⟨_, e1, _⟩ := objB h1; exact Heap.lt_size e1
        · rw [q]; obtain ⟨_, e2, _⟩ := objB h2; exact Heap.lt_size e2
      rw [upd_ne (Nat.ne_of_lt hlt)]
      exact (hf c hcm).1
  done := by
    intro X hP hw hK hc i pins s σ H E I hf st hg
    subst hP hw hK
    obtain ⟨hz, hTI, ⟨x0, y0, hTO⟩, h1, h2⟩ := st
    obtain ⟨xs, ys, hqx, hqy, b1, b2, hend⟩ := hg
    obtain ⟨its, rv, p, pa⟩ := invB I hqx
    obtain ⟨its2, rv2, p2, pb⟩ := invB I hqy
    have l1 := rv.length
    have l2 := rv2.length
    have hh : X.A.in1.handled = none := I.ok.hd hc
    exact wpAny_pyNext_zipD2_end D (drawB hh k1 i1 a ai its.toArray) (drawB hh k2 i2 b bi its2.toArray) hz hTI hTO ⟨h1, p⟩ ⟨h2, p2⟩ (by simp; omega) (by simp; omega) (by simp; omega) fun h' tk hk =>
      ⟨rfl, I.turnedL (t' := tk) (ch := [z, TI, TO, i1, i2]) (fun c o hb q =>
        hk c o (fun q' => hb (by simp [q'])) (fun q' => hb (by simp [q'])) (fun q' => hb (by simp [q'])) (fun q' => hb (by simp [q'])) q) hf⟩
  self := fun A i s Q E st h => wpAny_pyIter_zip st.1 h
def iZipG (K : PySem.W.Frag) (k1 k2 : Bool) (ta : TA) : TI := fun σ H R => ta σ H fun vs H1 => ∃ a b xs ys, vs = [.ref a, .ref b] ∧ SqB K k1 H1 a xs ∧ SqB K k2 H1 b ys ∧ R (ItzG K k1 k2 a b) H1
def beginO (k : Bool) (a : Addr) : Obj := if k = true then { cls := .type "list_iterator", data := .fields #[.ref a, .int 0 0] } else { cls := .type "tuple_iterator", data := .fields #[.ref a, .int 0 0] }
theorem beginB (k : Bool) (a : Addr) (items : Array Value) : Begins (.ref a) (beginO k a) (fun h => SeB k h a items) := by
  cases k with
  | true => exact begins_list a items
  | false => exact begins_tuple a items
theorem beginI {k : Bool} {a it : Addr} {h : Heap} (e : h.get? it = some (beginO k a)) : ItB k h it a 0 := by
  cases k with
  | true => exact ⟨_, e, rfl, rfl⟩
  | false => exact ⟨_, e, rfl, rfl⟩
theorem pi_zipG {X : Cx} {k1 k2 : Bool} {e e2 : Expr} {ta : TA} {p pos tpos : Pos} {elts : List Expr} {kk : Nat} (hg : Gl X "zip") (hm : X.mg "zip" = none) (ha : PA X [e, e2] ta)
    (hs : starEach [e, e2] X.env = (false, eval e X.env) :: starEach [e2] X.env := by rfl) (hpl : (backTo pos (starEach [e2] X.env)).any (·.1) = false := by rfl) :
    PI X (.Tuple elts kk tpos) (.Call (.Name "zip" p) [e, e2] [] pos) (iZipG X.K k1 k2 ta) := by
  refine ⟨fun pins s σ H R I h => ?_⟩
  refine Call_ (ld_blt I hg hm PyProof.Rows.boot_zip (PyProof.Rows.callWith_type1 (thn (ha.run pos pins s σ H _ I h) fun us s1 ⟨vs, H1, I1, r1, q1⟩ => ?_) hs hpl))
  obtain ⟨a, b, xs, ys, ex, hqx, hqy, q⟩ := q1
  subst ex
  cases r1 with
  | cons r rr =>
    cases rr with
    | cons r' rr =>
      cases rr
      cases r
      cases r'
      have fresh5 : ∀ c, c ∈ [s1.heap.objs.size + 4, s1.heap.objs.size + 2, s1.heap.objs.size + 3, s1.heap.objs.size, s1.heap.objs.size + 1] → FpOk X pins H1 c := fun c hcm => by
        have e' : c = s1.heap.objs.size + 4 ∨ c = s1.heap.objs.size + 2 ∨ c = s1.heap.objs.size + 3 ∨ c = s1.heap.objs.size ∨ c = s1.heap.objs.size + 1 := by simpa using hcm
        have hle : s1.heap.objs.size ≤ c := by
          rcases e' with z | z | z | z | z
          · rw [z]; exact Nat.le_add_right _ _
          · rw [z]; exact Nat.le_add_right _ _
          · rw [z]; exact Nat.le_add_right _ _
          · rw [z]; exact Nat.le_refl _
          · rw [z]; exact Nat.le_add_right _ _
        exact I1.fpOk hle (I1.hok.fresh hle)
      obtain ⟨its, rv, p1, pa⟩ := invB I1 hqx
      obtain ⟨its2, rv2, p2, pb⟩ := invB I1 hqy
      refine zip_begins2 (beginB k1 a its.toArray) (beginB k2 b its2.toArray) p1 p2 fun h' hz hTI hTO h1 h2 hsz hk => wpAny_pyIter_zip hz ?_
      have I2 : Inv X pins σ H1 { s1 with heap := h' } := I1.kept (t' := s1.toks) hk
      exact ⟨s1.heap.objs.size + 4, [s1.heap.objs.size + 4, s1.heap.objs.size + 2, s1.heap.objs.size + 3, s1.heap.objs.size, s1.heap.objs.size + 1], _, _, H1, rfl, I2,
        turn_zipG (zip_sep2 (fun c hc => by have e : c = a := by simpa using hc
                                            rw [e]; exact pa) (fun c hc => by have e : c = b := by simpa using hc
                                                                              rw [e]; exact pb)) (Nat.ne_of_lt pa) (Nat.ne_of_lt (Nat.lt_succ_of_lt pb)), ⟨hz, hTI, ⟨_, _, hTO⟩, beginI h1, beginI h2⟩, fresh5, q⟩
theorem walk_zipG {K : PySem.W.Frag} {k1 k2 : Bool} {a b : Addr} {xs ys : List V} {n : Nat} (hn : n = min xs.length ys.length) : Walk (ItzG K k1 k2 a b) n (fun H => SqB K k1 H a xs ∧ SqB K k2 H b ys) (YPair (fun i => xs[i]?) (fun i => ys[i]?)) := by
  subst hn
  refine ⟨fun i _ hi q => ?_, fun _ q => ⟨xs, ys, q.1, q.2, by omega, by omega, by omega⟩, fun i H v H' _ q y => ?_⟩
  · have h1 : i < xs.length := by omega
    have h2 : i < ys.length := by omega
    exact ⟨xs, ys, xs[i], ys[i], q.1, q.2, by simp [h1], by simp [h2]⟩
  · obtain ⟨T, x, z, h1, h2, h3, h4, h5⟩ := y
    exact ⟨T, x, z, h1, h2, h3, h4 xs q.1, h5 ys q.2⟩
end G
namespace G
open PySem PySem.Spec PyProof.Rows L2
/-- a for over J, kept closed -/
def Loop (J : It) (g : TG) (tb : TS) (D : Ends) (σ : L2.St) (H : Hp) : Prop :=
  ∃ W : Nat → Nat → L2.St → Hp → Prop, (∃ m, W 0 m σ H) ∧ ∀ i m σ H, W i m σ H →
      (J.stop i H ∧ D.nx σ H) ∨ (J.go i H ∧ ∃ N : L2.St → Hp → Prop, (∀ σ' H', N σ' H' → ∃ m', m' < m ∧ W (i + 1) m' σ' H') ∧ ∀ x H', J.yld i H x H' → g x σ H' fun σ2 H2 => tb { D with nx := N, ct := N, bk := D.nx } σ2 H2)
theorem tFor_L {wi : TI} {g : TG} {tb : TS} {D : Ends} {σ : L2.St} {H : Hp} : tFor wi g tb D σ H = wi σ H fun J H1 => Loop J g tb D σ H1 := rfl
theorem Loop.by {J : It} {n : Nat} {G : Hp → Prop} {Y : Nat → Hp → V → Hp → Prop} (w : Walk J n G Y) {g : TG} {tb : TS} {D : Ends} {σ : L2.St} {H : Hp} (Pv : Nat → L2.St → Hp → Prop) (h0 : Pv 0 σ H) (hG : ∀ i σ H, i ≤ n → Pv i σ H → G H)
    (hs : ∀ i x σ H H', i < n → Pv i σ H → Y i H x H' → g x σ H' fun σ2 H2 => tb { D with nx := Pv (i + 1), ct := Pv (i + 1), bk := D.nx } σ2 H2) (hd : ∀ σ H, Pv n σ H → D.nx σ H) : Loop J g tb D σ H := for_it w Pv h0 hG hs hd
/-- a comprehension over J, kept closed -/
def LoopC (J : It) (g : TG) (tt : TT) (te : TE) (vs : List Nat) (σ : L2.St) (H1 : Hp) (D : Addr) (Qd : Hp → Prop) : Prop :=
  ∃ W : Nat → Nat → Hp → Prop, (∃ m, W 0 m (upd H1 D (.lst []))) ∧ ∀ i m H, W i m H →
      (J.stop i H ∧ Qd H) ∨ (J.go i H ∧ ∃ Nx : Hp → Prop, (∀ H', Nx H' → ∃ m', m' < m ∧ W (i + 1) m' H') ∧ ∀ x H', J.yld i H x H' → g x (wipe σ vs) H' fun σ2 H2 => wipe σ2 vs = wipe σ vs ∧ tt σ2 H2 fun b H3 =>
        if b = true then te σ2 H3 fun y H4 => ∃ acc, H4 D = some (.lst acc) ∧ acc.length < sizeLine ∧ Nx (upd H4 D (.lst (acc ++ [y]))) else Nx H3)
theorem tLc_L {wi : TI} {g : TG} {tt : TT} {te : TE} {vs : List Nat} {σ : L2.St} {H : Hp} {Q : VK} : tLc wi g tt te vs σ H Q = wi σ H fun J H1 => ∀ D, H1 D = none → LoopC J g tt te vs σ H1 D (Q (.ref D)) := rfl
theorem LoopC.by {J : It} {n : Nat} {G : Hp → Prop} {Y : Nat → Hp → V → Hp → Prop} (w : Walk J n G Y) {g : TG} {tt : TT} {te : TE} {vs : List Nat} {σ : L2.St} {H1 : Hp} {D : Addr} {Qd : Hp → Prop} (Pv : Nat → Hp → Prop) (h0 : Pv 0 (upd H1 D (.lst []))) (hG : ∀ i H, i ≤ n → Pv i H → G H)
    (hs : ∀ i x H H', i < n → Pv i H → Y i H x H' → g x (wipe σ vs) H' fun σ2 H2 => wipe σ2 vs = wipe σ vs ∧ tt σ2 H2 fun b H3 =>
      if b = true then te σ2 H3 fun y H4 => ∃ acc, H4 D = some (.lst acc) ∧ acc.length < sizeLine ∧ Pv (i + 1) (upd H4 D (.lst (acc ++ [y]))) else Pv (i + 1) H3) (hd : ∀ H, Pv n H → Qd H) : LoopC J g tt te vs σ H1 D Qd := lc_it w Pv h0 hG hs hd
/-- the first of a list dropped -/
theorem cutV_tail (xs : List V) : cutV xs (some 1) none = xs.tail := by
  unfold cutV
  rw [HT.sIx_none]
  have h1 : HT.sIx xs.length 0 (some (1 : Int)) = min 1 xs.length := HT.sIx_nat xs.length 0 1
  rw [h1]
  cases xs with
  | nil => rfl
  | cons x xs => simp
theorem isTup_of {K : PySem.W.Frag} {H : Hp} {a : Addr} {xs : List V} (h : H a = some (.tup xs)) : SqB K false H a xs := SqT.of h
theorem isLst_of {K : PySem.W.Frag} {H : Hp} {a : Addr} {xs : List V} (h : H a = some (.lst xs)) : SqB K true H a xs := SqL.of h
theorem rSet_of {p : Addr} {k : Int} {j : Nat} {v : V} {H : Hp} {Q : Hp → Prop} {xs : List V} (h : H p = some (.lst xs)) (hj : ixN xs.length k = some j) (q : Q (upd H p (.lst (xs.set j v)))) : rSetL (.ref p) (.int k) v H Q := ⟨p, xs, k, j, rfl, rfl, h, hj, q⟩
theorem upd_upd {H : Hp} {p : Addr} {a b : HO} : upd (upd H p a) p b = upd H p b := by
  funext q
  by_cases h : q = p
  · rw [h, upd_same, upd_same]
  · rw [upd_ne h, upd_ne h, upd_ne h]
theorem mul0 : ∀ k : Fin 21, Txt.mul (Str.ofString "0") ((k.val : Nat) : Int) = S (List.replicate k.val 48) := by decide +kernel
theorem mul0_of {n : Int} {k : Nat} (e : n = (k : Int)) (h : k < 21) : Txt.mul (Str.ofString "0") n = S (List.replicate k 48) := by
  rw [e]
  exact mul0 ⟨k, h⟩
theorem numL_pos (n : Nat) : 1 ≤ (numL n).length := by
  rw [numL_eq, List.length_map]
  have : Nat.toDigits 10 n ≠ [] := Nat.toDigits_ne_nil
  cases h : Nat.toDigits 10 n with
  | nil => exact absurd h this
  | cons a b => simp
end G
namespace L2
open PySem PySem.Spec PyProof.Rows
/-- a def's body, a token out when it begins -/
theorem Fun.okT {P : Program} {w : World} {K : PySem.W.Frag} {mg : Str → Option Value} {base : Heap} {x qual : Str} {st : Stmt} {f : Addr} {fd : FuncData} {N ps : List Str} {k : Nat} {sp : Sp} (F : Fun K x qual st f fd)
    (hnc : ((defScope st).names.all fun y => y.2 != .cell) = true) (hps : 1 ≤ ps.length) (S : FnScope N ps (defScope st)) (len : ∀ vs H Q E, sp vs H Q E → vs.length = ps.length)
    (hbody : ∀ (cdv : Value) (A : Around) (outer : List Env) (s : Shared) (H : Hp) (vs : List V) (Q : VK) (E : XK), Room k (A.deeper (envOfC qual (defScope st) s.heap.objs.size f cdv)) → sp vs H Q E →
      ∃ t, PSsT (cxOf (L2.CX P w) P w K mg base N qual (defScope st) f cdv A outer s H E) (defBody st) t ∧ t { nx := fun _ H' => Q .non H', rt := Q } (start N vs) H) : FnOk P w K mg base (L2.CX P w) (k + 1) f fd ps sp := by
  obtain ⟨oc, od, kV, doc, pm, an, cdv, ct, osl, rfl, lk, hcd⟩ := F.ex
  refine fn_ofT lk hcd S (fun y hy z => ?_) hps len fun A outer s H vs Q E hr hsp => hbody cdv A outer s H vs Q E hr hsp
  have q := List.all_eq_true.mp hnc y hy
  rw [z] at q
  cases q
theorem pet_m1 {X : Cx} {o e : Expr} {to te : TE} {id : String} {name : Str} {apos pos : Pos} {r : V → List V → Hp → VK → Prop} (slot : Slot "str" name id) (ty : typeOf (.builtin id) = pure (.type "method_descriptor")) (rule : MtR X id r) (ho : PET X o to) (he : PE X e te)
    (hs : starEach [e] X.env = [(false, eval e X.env)] := by rfl) (hbase : attributeBase o name X.env (eval o X.env) = eval o X.env := by rfl) (hline : (apos.endLine == pos.line) = true := by rfl) :
    PET X (.Call (.Attribute o name apos) [e] [] pos) (tM1 r to te) := by
  intro pins s σ H Q h0 I h
  refine PySem.Call_method1 hbase hs hline (thn (ho pins s σ H _ h0 I h) fun v s1 ⟨x, H1, I1, r1, q1⟩ => ?_)
  obtain ⟨⟨a, rfl⟩, q1⟩ := q1
  obtain ⟨t, rfl⟩ := _root_.id r1
  refine ⟨"str", _, F.plainAttrs_str, slot, ty, typeIs_str _ _ _, (fun _ e => nomatch e), Calls.callWith_builtin rfl (Calls.evalArgs_plain (Calls.spliced_cons ?_))⟩
  exact thn (he.run pins s1 σ H1 _ I1 q1) fun u s2 ⟨y, H2, I2, r2, q2⟩ => Calls.spliced_nil (rule pins s2 σ H2 _ [y] _ [u] Q I2 r1 (.cons r2 .nil) q2)
end L2
namespace G
open PySem PySem.Spec PyProof.Rows L2
/-! lists of texts as data -/
theorem dp_strs {K : PySem.W.Frag} {H : Hp} : ∀ ys : List Str, DpAll K H (ys.map V.str) (ys.map PyData.str)
  | [] => .nil
  | y :: ys => .cons (.str y) (dp_strs ys)
theorem lay_strs : ∀ {ys : List Str}, (∀ y ∈ ys, PyData.strOk y = true) → PyData.canLayAll0 (ys.map PyData.str) = true
  | [], _ => by simp [PyData.canLayAll0]
  | y :: ys, h => by
    simp only [List.map_cons, PyData.canLayAll0, PyData.canLay0, Bool.and_eq_true]
    exact ⟨h y (List.mem_cons_self ..), lay_strs fun z hz => h z (List.mem_cons_of_mem _ hz)⟩
theorem depth_strs : ∀ ys : List Str, PyData.depthAll (ys.map PyData.str) = 0
  | [] => by simp [PyData.depthAll]
  | y :: ys => by simp [PyData.depthAll, PyData.depth, depth_strs ys]
theorem shaped_strs {ys : List Str} (h : ∀ y ∈ ys, PyData.strOk y = true) : SeqAt.shaped (.list (ys.map PyData.str)) = true := by
  unfold SeqAt.shaped
  rw [Bool.and_eq_true]
  refine ⟨?_, decide_eq_true ?_⟩
  · rw [PyData.canLay0]
    exact lay_strs h
  · rw [PyData.depth, depth_strs]
    decide
theorem eq_nil {K : PySem.W.Frag} {H : Hp} {a b : Addr} {ys : List Str} {Q : VK} (ha : SqL K H a (ys.map V.str)) (hb : SqL K H b []) (h : ∀ y ∈ ys, PyData.strOk y = true) (q : Q (.bl (decide (ys = []))) H) : rEqD K (.ref a) (.ref b) H Q := by
  refine ⟨_, _, .lst ha (dp_strs ys), .lst hb .nil, shaped_strs h, shaped_strs (ys := []) (fun _ h => nomatch h), ?_⟩
  cases ys with
  | nil => exact q
  | cons y ys => exact q
/-! startswith -/
theorem subAt_0 (x y : Str) : Builtin.Str.subAt x y 0 = ((tl x).take (tl y).length == tl y) := by
  unfold Builtin.Str.subAt
  have h1 : (x.cps.extract 0 (0 + y.length)).toList = (tl x).take (tl y).length := by
    rw [Array.toList_extract, List.extract_eq_drop_take]
    simp [Str.length]
  rw [← h1]
  cases h : (x.cps.extract 0 (0 + y.length) == y.cps) with
  | true => rw [eq_of_beq h]; exact (beq_self_eq_true _).symm
  | false =>
    refine (beq_eq_false_iff_ne.mpr fun e => ?_).symm
    have e2 : x.cps.extract 0 (0 + y.length) = y.cps := Array.toList_inj.mp e
    rw [e2] at h
    simp at h
theorem starts_S (a : List Nat) (y : Str) : Txt.startswith (S a) y = decide (tl y <+: a) := by
  unfold Txt.startswith
  rw [subAt_0]
  show (decide (0 + y.length ≤ (S a).length) && (a.take (tl y).length == tl y)) = _
  rw [len_tl y, len_S a]
  by_cases h : tl y <+: a
  · rw [decide_eq_true h]
    have h1 := h.length_le
    have h2 := List.prefix_iff_eq_take.mp h
    rw [decide_eq_true (by omega), ← h2]
    simp
  · rw [decide_eq_false h]
    cases h1 : (a.take (tl y).length == tl y) with
    | false => simp
    | true => exact absurd (List.prefix_iff_eq_take.mpr (eq_of_beq h1).symm) h
end G
/-! the same with the module's fragment named -/
namespace G
open PySem PySem.Spec PyProof.Rows L2
section
variable {X : Cx} (K : PySem.W.Frag)
theorem op_addK (h : X.K = K := by rfl) : OpR X (binaryOp .Add) (rAddG K) := by subst h; exact op_addG
theorem op_eqK (hu : X.A.units + 64 < cLine) (h : X.K = K := by rfl) : OpR X (compareOp .Eq) (rEqG K) := by subst h; exact op_eqG hu
theorem op_neK (hu : X.A.units + 64 < cLine) (h : X.K = K := by rfl) : OpR X (compareOp .NotEq) (rNeG K) := by subst h; exact op_neG hu
theorem op_inK (h : X.K = K := by rfl) : OpR X (compareOp .In) (rInG K false) := by subst h; exact op_inG
theorem op_notInK (h : X.K = K := by rfl) : OpR X (compareOp .NotIn) (rInG K true) := by subst h; exact op_notInG
theorem ix_K (h : X.K = K := by rfl) : IxR X (rIxG K) := by subst h; exact ix_G
theorem sl_K (h : X.K = K := by rfl) : SlR X (rSlG K) := by subst h; exact sl_G
theorem call_lenK (h : X.K = K := by rfl) : CallR X (.builtin "len") (rLenG K) := by subst h; exact call_lenG
theorem pt_truK {a : Expr} {ta : TE} (ha : PE X a ta) (h : X.K = K := by rfl) (he : ∀ whole, isTrue a X.env whole = (do let v ← whole; standAt a.pos; holding [v] (truthy v)) := by intro _; rfl) : PT X a (tTruG K ta) := by
  subst h
  exact pt_truG ha he
end
end G
/-! The readings' steps, to be taken from the outside in. -/
namespace G
open PySem PySem.Spec PyProof.Rows L2
def truR (K : PySem.W.Frag) (x : V) (H : Hp) (Q : Bool → Hp → Prop) : Prop := match x with
  | .bl b => Q b H
  | .int i => Q (i != 0) H
  | .non => Q false H
  | _ => ∃ k, TruV K x H k ∧ Q k H
def iR2 (v u : V) (H : Hp) (R : It → Hp → Prop) : Prop := ∃ i j : Int, [v, u] = [.int i, .int j] ∧ (-(2 ^ 62) ≤ i ∧ i < 2 ^ 62 ∧ -(2 ^ 62) ≤ j ∧ j < 2 ^ 62) ∧ R (Itr i (j - i).toNat) H
theorem iR2_of {i j : Int} {H : Hp} {R : It → Hp → Prop} (h : -(2 ^ 62) ≤ i ∧ i < 2 ^ 62 ∧ -(2 ^ 62) ≤ j ∧ j < 2 ^ 62) (q : R (Itr i (j - i).toNat) H) : iR2 (.int i) (.int j) H R := ⟨i, j, rfl, h, q⟩
def fmtR (x : V) (H : Hp) (Q : VK) : Prop := match x with
  | .str y => y.length ≤ sizeLine ∧ Q (.str y) H
  | .int i => i.natAbs.log2 < 1920 ∧ Q (.str (Str.ofString (toString i))) H
  | _ => False
theorem tV0 {v : V} {r : L2.St} {H : Hp} {Q : VK} : tVar 0 (some v :: r) H Q ↔ Q v H := ⟨fun ⟨_, e, h⟩ => by cases e; exact h, fun h => ⟨_, rfl, h⟩⟩
theorem gN0 {v : V} {r : L2.St} {H : Hp} {o : Option V} {Q : L2.St → Hp → Prop} : gName 0 v (o :: r) H Q ↔ Q (some v :: r) H := Iff.rfl
theorem tV1 {a0 : Option V} {v : V} {r : L2.St} {H : Hp} {Q : VK} : tVar 1 (a0 :: some v :: r) H Q ↔ Q v H := ⟨fun ⟨_, e, h⟩ => by cases e; exact h, fun h => ⟨_, rfl, h⟩⟩
theorem gN1 {a0 : Option V} {v : V} {r : L2.St} {H : Hp} {o : Option V} {Q : L2.St → Hp → Prop} : gName 1 v (a0 :: o :: r) H Q ↔ Q (a0 :: some v :: r) H := Iff.rfl
theorem tV2 {a0 a1 : Option V} {v : V} {r : L2.St} {H : Hp} {Q : VK} : tVar 2 (a0 :: a1 :: some v :: r) H Q ↔ Q v H := ⟨fun ⟨_, e, h⟩ => by cases e; exact h, fun h => ⟨_, rfl, h⟩⟩
theorem gN2 {a0 a1 : Option V} {v : V} {r : L2.St} {H : Hp} {o : Option V} {Q : L2.St → Hp → Prop} : gName 2 v (a0 :: a1 :: o :: r) H Q ↔ Q (a0 :: a1 :: some v :: r) H := Iff.rfl
theorem tV3 {a0 a1 a2 : Option V} {v : V} {r : L2.St} {H : Hp} {Q : VK} : tVar 3 (a0 :: a1 :: a2 :: some v :: r) H Q ↔ Q v H := ⟨fun ⟨_, e, h⟩ => by cases e; exact h, fun h => ⟨_, rfl, h⟩⟩
theorem gN3 {a0 a1 a2 : Option V} {v : V} {r : L2.St} {H : Hp} {o : Option V} {Q : L2.St → Hp → Prop} : gName 3 v (a0 :: a1 :: a2 :: o :: r) H Q ↔ Q (a0 :: a1 :: a2 :: some v :: r) H := Iff.rfl
theorem tV4 {a0 a1 a2 a3 : Option V} {v : V} {r : L2.St} {H : Hp} {Q : VK} : tVar 4 (a0 :: a1 :: a2 :: a3 :: some v :: r) H Q ↔ Q v H := ⟨fun ⟨_, e, h⟩ => by cases e; exact h, fun h => ⟨_, rfl, h⟩⟩
theorem gN4 {a0 a1 a2 a3 : Option V} {v : V} {r : L2.St} {H : Hp} {o : Option V} {Q : L2.St → Hp → Prop} : gName 4 v (a0 :: a1 :: a2 :: a3 :: o :: r) H Q ↔ Q (a0 :: a1 :: a2 :: a3 :: some v :: r) H := Iff.rfl
theorem tV5 {a0 a1 a2 a3 a4 : Option V} {v : V} {r : L2.St} {H : Hp} {Q : VK} : tVar 5 (a0 :: a1 :: a2 :: a3 :: a4 :: some v :: r) H Q ↔ Q v H := ⟨fun ⟨_, e, h⟩ => by cases e; exact h, fun h => ⟨_, rfl, h⟩⟩
theorem gN5 {a0 a1 a2 a3 a4 : Option V} {v : V} {r : L2.St} {H : Hp} {o : Option V} {Q : L2.St → Hp → Prop} : gName 5 v (a0 :: a1 :: a2 :: a3 :: a4 :: o :: r) H Q ↔ Q (a0 :: a1 :: a2 :: a3 :: a4 :: some v :: r) H := Iff.rfl
theorem tV6 {a0 a1 a2 a3 a4 a5 : Option V} {v : V} {r : L2.St} {H : Hp} {Q : VK} : tVar 6 (a0 :: a1 :: a2 :: a3 :: a4 :: a5 :: some v :: r) H Q ↔ Q v H := ⟨fun ⟨_, e, h⟩ => by cases e; exact h, fun h => ⟨_, rfl, h⟩⟩
theorem gN6 {a0 a1 a2 a3 a4 a5 : Option V} {v : V} {r : L2.St} {H : Hp} {o : Option V} {Q : L2.St → Hp → Prop} : gName 6 v (a0 :: a1 :: a2 :: a3 :: a4 :: a5 :: o :: r) H Q ↔ Q (a0 :: a1 :: a2 :: a3 :: a4 :: a5 :: some v :: r) H := Iff.rfl
theorem tV7 {a0 a1 a2 a3 a4 a5 a6 : Option V} {v : V} {r : L2.St} {H : Hp} {Q : VK} : tVar 7 (a0 :: a1 :: a2 :: a3 :: a4 :: a5 :: a6 :: some v :: r) H Q ↔ Q v H := ⟨fun ⟨_, e, h⟩ => by cases e; exact h, fun h => ⟨_, rfl, h⟩⟩
theorem gN7 {a0 a1 a2 a3 a4 a5 a6 : Option V} {v : V} {r : L2.St} {H : Hp} {o : Option V} {Q : L2.St → Hp → Prop} : gName 7 v (a0 :: a1 :: a2 :: a3 :: a4 :: a5 :: a6 :: o :: r) H Q ↔ Q (a0 :: a1 :: a2 :: a3 :: a4 :: a5 :: a6 :: some v :: r) H := Iff.rfl
theorem tV8 {a0 a1 a2 a3 a4 a5 a6 a7 : Option V} {v : V} {r : L2.St} {H : Hp} {Q : VK} : tVar 8 (a0 :: a1 :: a2 :: a3 :: a4 :: a5 :: a6 :: a7 :: some v :: r) H Q ↔ Q v H := ⟨fun ⟨_, e, h⟩ => by cases e; exact h, fun h => ⟨_, rfl, h⟩⟩
theorem gN8 {a0 a1 a2 a3 a4 a5 a6 a7 : Option V} {v : V} {r : L2.St} {H : Hp} {o : Option V} {Q : L2.St → Hp → Prop} : gName 8 v (a0 :: a1 :: a2 :: a3 :: a4 :: a5 :: a6 :: a7 :: o :: r) H Q ↔ Q (a0 :: a1 :: a2 :: a3 :: a4 :: a5 :: a6 :: a7 :: some v :: r) H := Iff.rfl
theorem tV9 {a0 a1 a2 a3 a4 a5 a6 a7 a8 : Option V} {v : V} {r : L2.St} {H : Hp} {Q : VK} : tVar 9 (a0 :: a1 :: a2 :: a3 :: a4 :: a5 :: a6 :: a7 :: a8 :: some v :: r) H Q ↔ Q v H := ⟨fun ⟨_, e, h⟩ => by cases e; exact h, fun h => ⟨_, rfl, h⟩⟩
theorem gN9 {a0 a1 a2 a3 a4 a5 a6 a7 a8 : Option V} {v : V} {r : L2.St} {H : Hp} {o : Option V} {Q : L2.St → Hp → Prop} : gName 9 v (a0 :: a1 :: a2 :: a3 :: a4 :: a5 :: a6 :: a7 :: a8 :: o :: r) H Q ↔ Q (a0 :: a1 :: a2 :: a3 :: a4 :: a5 :: a6 :: a7 :: a8 :: some v :: r) H := Iff.rfl
theorem tV10 {a0 a1 a2 a3 a4 a5 a6 a7 a8 a9 : Option V} {v : V} {r : L2.St} {H : Hp} {Q : VK} : tVar 10 (a0 :: a1 :: a2 :: a3 :: a4 :: a5 :: a6 :: a7 :: a8 :: a9 :: some v :: r) H Q ↔ Q v H := ⟨fun ⟨_, e, h⟩ => by cases e; exact h, fun h => ⟨_, rfl, h⟩⟩
theorem gN10 {a0 a1 a2 a3 a4 a5 a6 a7 a8 a9 : Option V} {v : V} {r : L2.St} {H : Hp} {o : Option V} {Q : L2.St → Hp → Prop} : gName 10 v (a0 :: a1 :: a2 :: a3 :: a4 :: a5 :: a6 :: a7 :: a8 :: a9 :: o :: r) H Q ↔ Q (a0 :: a1 :: a2 :: a3 :: a4 :: a5 :: a6 :: a7 :: a8 :: a9 :: some v :: r) H := Iff.rfl
theorem tV11 {a0 a1 a2 a3 a4 a5 a6 a7 a8 a9 a10 : Option V} {v : V} {r : L2.St} {H : Hp} {Q : VK} : tVar 11 (a0 :: a1 :: a2 :: a3 :: a4 :: a5 :: a6 :: a7 :: a8 :: a9 :: a10 :: some v :: r) H Q ↔ Q v H := ⟨fun ⟨_, e, h⟩ => by cases e; exact h, fun h => ⟨_, rfl, h⟩⟩
theorem gN11 {a0 a1 a2 a3 a4 a5 a6 a7 a8 a9 a10 : Option V} {v : V} {r : L2.St} {H : Hp} {o : Option V} {Q : L2.St → Hp → Prop} : gName 11 v (a0 :: a1 :: a2 :: a3 :: a4 :: a5 :: a6 :: a7 :: a8 :: a9 :: a10 :: o :: r) H Q ↔ Q (a0 :: a1 :: a2 :: a3 :: a4 :: a5 :: a6 :: a7 :: a8 :: a9 :: a10 :: some v :: r) H := Iff.rfl
theorem tV12 {a0 a1 a2 a3 a4 a5 a6 a7 a8 a9 a10 a11 : Option V} {v : V} {r : L2.St} {H : Hp} {Q : VK} : tVar 12 (a0 :: a1 :: a2 :: a3 :: a4 :: a5 :: a6 :: a7 :: a8 :: a9 :: a10 :: a11 :: some v :: r) H Q ↔ Q v H := ⟨fun ⟨_, e, h⟩ => by cases e; exact h, fun h => ⟨_, rfl, h⟩⟩
theorem gN12 {a0 a1 a2 a3 a4 a5 a6 a7 a8 a9 a10 a11 : Option V} {v : V} {r : L2.St} {H : Hp} {o : Option V} {Q : L2.St → Hp → Prop} : gName 12 v (a0 :: a1 :: a2 :: a3 :: a4 :: a5 :: a6 :: a7 :: a8 :: a9 :: a10 :: a11 :: o :: r) H Q ↔ Q (a0 :: a1 :: a2 :: a3 :: a4 :: a5 :: a6 :: a7 :: a8 :: a9 :: a10 :: a11 :: some v :: r) H := Iff.rfl
theorem tV13 {a0 a1 a2 a3 a4 a5 a6 a7 a8 a9 a10 a11 a12 : Option V} {v : V} {r : L2.St} {H : Hp} {Q : VK} : tVar 13 (a0 :: a1 :: a2 :: a3 :: a4 :: a5 :: a6 :: a7 :: a8 :: a9 :: a10 :: a11 :: a12 :: some v :: r) H Q ↔ Q v H := ⟨fun ⟨_, e, h⟩ => by cases e; exact h, fun h => ⟨_, rfl, h⟩⟩
theorem gN13 {a0 a1 a2 a3 a4 a5 a6 a7 a8 a9 a10 a11 a12 : Option V} {v : V} {r : L2.St} {H : Hp} {o : Option V} {Q : L2.St → Hp → Prop} : gName 13 v (a0 :: a1 :: a2 :: a3 :: a4 :: a5 :: a6 :: a7 :: a8 :: a9 :: a10 :: a11 :: a12 :: o :: r) H Q ↔ Q (a0 :: a1 :: a2 :: a3 :: a4 :: a5 :: a6 :: a7 :: a8 :: a9 :: a10 :: a11 :: a12 :: some v :: r) H := Iff.rfl
theorem w_Ret {te : TE} {D : Ends} {σ : L2.St} {H : Hp} : tRet te D σ H ↔ te σ H D.rt := Iff.rfl
theorem w_RetN {D : Ends} {σ : L2.St} {H : Hp} : tRetN D σ H ↔ D.rt .non H := Iff.rfl
theorem w_C {v : V} {σ : L2.St} {H : Hp} {Q : VK} : tC v σ H Q ↔ Q v H := Iff.rfl
theorem w_Op {r : R2} {ta tb : TE} {σ : L2.St} {H : Hp} {Q : VK} : tOp r ta tb σ H Q ↔ ta σ H fun x H1 => tb σ H1 fun y H2 => r x y H2 Q := Iff.rfl
theorem w_Un {r : V → Hp → VK → Prop} {ta : TE} {σ : L2.St} {H : Hp} {Q : VK} : tUn r ta σ H Q ↔ ta σ H fun x H1 => r x H1 Q := Iff.rfl
theorem w_UnI {g : Int → V} {i : Int} {H : Hp} {Q : VK} : rU g (.int i) H Q ↔ Q (g i) H := ⟨fun ⟨_, e, h⟩ => by cases e; exact h, fun h => ⟨_, rfl, h⟩⟩
theorem w_Asg {te : TE} {g : TG} {D : Ends} {σ : L2.St} {H : Hp} : tAsg te g D σ H ↔ te σ H fun x H1 => g x σ H1 D.nx := Iff.rfl
theorem w_Seq {t u : TS} {D : Ends} {σ : L2.St} {H : Hp} : tSeq t u D σ H ↔ t { D with nx := u D } σ H := Iff.rfl
theorem w_IfS {c : TT} {t u : TS} {D : Ends} {σ : L2.St} {H : Hp} : tIfS c t u D σ H ↔ c σ H fun b H1 => if b = true then t D σ H1 else u D σ H1 := Iff.rfl
theorem w_Next {D : Ends} {σ : L2.St} {H : Hp} : tNext D σ H ↔ D.nx σ H := Iff.rfl
theorem w_Drop {te : TE} {D : Ends} {σ : L2.St} {H : Hp} : tDrop te D σ H ↔ te σ H fun _ H1 => D.nx σ H1 := Iff.rfl
theorem w_CB {r : List V → Hp → VK → Prop} {t : TA} {σ : L2.St} {H : Hp} {Q : VK} : tCB r t σ H Q ↔ t σ H fun vs H1 => r vs H1 Q := Iff.rfl
theorem w_Call {sp : Sp} {E : XK} {t : TA} {σ : L2.St} {H : Hp} {Q : VK} : tCall sp [] E t σ H Q ↔ t σ H fun vs H1 => sp vs H1 Q E := by unfold tCall; simp only [List.append_nil]
theorem w_Nil {σ : L2.St} {H : Hp} {Q : List V → Hp → Prop} : tNil σ H Q ↔ Q [] H := Iff.rfl
theorem w_Cons {ta : TE} {tr : TA} {σ : L2.St} {H : Hp} {Q : List V → Hp → Prop} : tCons ta tr σ H Q ↔ ta σ H fun x H1 => tr σ H1 fun xs H2 => Q (x :: xs) H2 := Iff.rfl
theorem w_NoPart {σ : L2.St} {H : Hp} {Q : Option Int → Hp → Prop} : tNoPart σ H Q ↔ Q none H := Iff.rfl
theorem w_Part {te : TE} {σ : L2.St} {H : Hp} {Q : Option Int → Hp → Prop} : tPart te σ H Q ↔ te σ H fun x H1 => ∃ i, x = .int i ∧ Q (some i) H1 := Iff.rfl
theorem w_Sl {r : V → Option Int → Option Int → Hp → VK → Prop} {te : TE} {tl th : TO} {σ : L2.St} {H : Hp} {Q : VK} : L2.tSl r te tl th σ H Q ↔ te σ H fun x H1 => tl σ H1 fun l H2 => th σ H2 fun u H3 => r x l u H3 Q := Iff.rfl
theorem w_Test {te : TE} {σ : L2.St} {H : Hp} {Q : Bool → Hp → Prop} : tTest te σ H Q ↔ te σ H fun x H1 => ∃ k, x = .bl k ∧ Q k H1 := Iff.rfl
theorem w_And {t u : TT} {σ : L2.St} {H : Hp} {Q : Bool → Hp → Prop} : tAnd t u σ H Q ↔ t σ H fun c H1 => if c = true then u σ H1 Q else Q false H1 := Iff.rfl
theorem w_Or {t u : TT} {σ : L2.St} {H : Hp} {Q : Bool → Hp → Prop} : tOr t u σ H Q ↔ t σ H fun c H1 => if c = true then Q true H1 else u σ H1 Q := Iff.rfl
theorem w_Not {t : TT} {σ : L2.St} {H : Hp} {Q : Bool → Hp → Prop} : tNot t σ H Q ↔ t σ H fun c H1 => Q (!c) H1 := Iff.rfl
theorem w_AndV {ta tb : TE} {σ : L2.St} {H : Hp} {Q : VK} : tAndV ta tb σ H Q ↔ ta σ H fun x H1 => ∃ c, x = .bl c ∧ if c = true then tb σ H1 Q else Q (.bl false) H1 := Iff.rfl
theorem w_OrV {ta tb : TE} {σ : L2.St} {H : Hp} {Q : VK} : tOrV ta tb σ H Q ↔ ta σ H fun x H1 => ∃ c, x = .bl c ∧ if c = true then Q (.bl true) H1 else tb σ H1 Q := Iff.rfl
theorem w_NotV {ta : TE} {σ : L2.St} {H : Hp} {Q : VK} : tNotV ta σ H Q ↔ ta σ H fun x H1 => ∃ c, x = .bl c ∧ Q (.bl (!c)) H1 := Iff.rfl
theorem w_If {t : TT} {ta tb : TE} {σ : L2.St} {H : Hp} {Q : VK} : tIf t ta tb σ H Q ↔ t σ H fun c H1 => if c = true then ta σ H1 Q else tb σ H1 Q := Iff.rfl
theorem w_Chain {r r2 : R2} {ta tb tc : TE} {σ : L2.St} {H : Hp} {Q : VK} : tChain r r2 ta tb tc σ H Q ↔ ta σ H fun x H1 => tb σ H1 fun y H2 => r x y H2 fun z H3 => ∃ k, z = .bl k ∧ (if k = true then tc σ H3 fun w H4 => r2 y w H4 Q else Q (.bl false) H3) := Iff.rfl
theorem w_TruG {K : PySem.W.Frag} {ta : TE} {σ : L2.St} {H : Hp} {Q : Bool → Hp → Prop} : tTruG K ta σ H Q ↔ ta σ H fun x H1 => truR K x H1 Q := Iff.rfl
theorem w_TruB {K : PySem.W.Frag} {b : Bool} {H : Hp} {Q : Bool → Hp → Prop} : truR K (.bl b) H Q ↔ Q b H := Iff.rfl
theorem w_TruI {K : PySem.W.Frag} {i : Int} {H : Hp} {Q : Bool → Hp → Prop} : truR K (.int i) H Q ↔ Q (i != 0) H := Iff.rfl
theorem w_TruN {K : PySem.W.Frag} {H : Hp} {Q : Bool → Hp → Prop} : truR K .non H Q ↔ Q false H := Iff.rfl
theorem w_Tup {t : TA} {σ : L2.St} {H : Hp} {Q : VK} : tTup t σ H Q ↔ t σ H fun xs H1 => xs.length ≤ sizeLine ∧ ∀ p, H1 p = none → Q (.ref p) (upd H1 p (.tup xs)) := Iff.rfl
theorem w_Lst {t : TA} {σ : L2.St} {H : Hp} {Q : VK} : tLst t σ H Q ↔ t σ H fun xs H1 => xs.length ≤ sizeLine ∧ ∀ p, H1 p = none → Q (.ref p) (upd H1 p (.lst xs)) := Iff.rfl
theorem w_Par {i j : Nat} {a b : TE} {D : Ends} {σ : L2.St} {H : Hp} : tPar i j (tCons a (tCons b tNil)) D σ H ↔ a σ H fun x H1 => b σ H1 fun y H2 => gName i x σ H2 fun σ1 H3 => gName j y σ1 H3 D.nx := by
  have e : ∀ (x y : V) (P : V → V → Prop), (∃ v w, [x, y] = [v, w] ∧ P v w) ↔ P x y := fun x y P => ⟨fun ⟨_, _, e, h⟩ => by cases e; exact h, fun h => ⟨_, _, rfl, h⟩⟩
  simp only [tPar, tCons, tNil, gName, e]
theorem w_Sub {to ti : TE} {t : TSet} {v : V} {σ : L2.St} {H : Hp} {Q : L2.St → Hp → Prop} : gSub to ti t v σ H Q ↔ to σ H fun o H1 => ti σ H1 fun i H2 => t o i v H2 fun H3 => Q σ H3 := Iff.rfl
theorem w_M1 {r : V → List V → Hp → VK → Prop} {to te : TE} {σ : L2.St} {H : Hp} {Q : VK} : tM1 r to te σ H Q ↔ to σ H fun x H1 => (∃ a, x = .str a) ∧ te σ H1 fun y H2 => r x [y] H2 Q := Iff.rfl
theorem w_BM {K : PySem.W.Frag} {T : String} {r : V → List V → Hp → VK → Prop} {to : TE} {t : TA} {σ : L2.St} {H : Hp} {Q : VK} : tBM K T r to t σ H Q ↔ to σ H fun x H1 => tyV K T x H1 ∧ t σ H1 fun xs H2 => r x xs H2 Q := Iff.rfl
theorem w_ReplC {to : TE} {y z : Str} {σ : L2.St} {H : Hp} {Q : VK} : CwR.tReplC to y z σ H Q ↔ to σ H fun v H1 => ∃ x, v = .str x ∧ x.length + (x.length + 1) * z.length ≤ 16777216 ∧ Q (.str (Txt.replace x y z)) H1 := Iff.rfl
theorem w_RaiseC {C : Addr} {f : Str} {W : WX} {ta : TA} {D : Ends} {σ : L2.St} {H : Hp} : tRaiseC C f W ta D σ H ↔ ta σ H fun vs H1 => rMk C f vs H1 fun cls d H2 => W cls d σ H2 := Iff.rfl
theorem w_Fmt02 {te : TE} {σ : L2.St} {H : Hp} {Q : VK} : tFmt02 te σ H Q ↔ te σ H fun x H1 => ∃ i : Nat, x = .int (i : Int) ∧ i < 100 ∧ Q (.str (S (dig2 i))) H1 := Iff.rfl
theorem w_FmtG {te : TE} {σ : L2.St} {H : Hp} {Q : VK} : tFmtG te σ H Q ↔ te σ H fun x H1 => fmtR x H1 Q := Iff.rfl
theorem w_FmtS {y : Str} {H : Hp} {Q : VK} : fmtR (.str y) H Q ↔ y.length ≤ sizeLine ∧ Q (.str y) H := Iff.rfl
theorem w_FmtI {i : Int} {H : Hp} {Q : VK} : fmtR (.int i) H Q ↔ i.natAbs.log2 < 1920 ∧ Q (.str (Str.ofString (toString i))) H := Iff.rfl
theorem o_AddII {K : PySem.W.Frag} {i j : Int} {H : Hp} {Q : VK} : rAddG K (.int i) (.int j) H Q ↔ Q (.int (i + j)) H := Iff.rfl
theorem o_AddSS {K : PySem.W.Frag} {a b : Str} {H : Hp} {Q : VK} : rAddG K (.str a) (.str b) H Q ↔ a.length + b.length ≤ sizeLine ∧ Q (.str (a ++ b)) H := Iff.rfl
theorem o_AddRR {K : PySem.W.Frag} {p q : Addr} {H : Hp} {Q : VK} : rAddG K (.ref p) (.ref q) H Q ↔ (∃ xs ys, H p = some (.lst xs) ∧ H q = some (.lst ys) ∧ xs.length + ys.length ≤ sizeLine ∧ ∀ r, H r = none → Q (.ref r) (upd H r (.lst (xs ++ ys)))) ∨ rCatA K (.ref p) (.ref q) H Q := Iff.rfl
theorem o_SubII {i j : Int} {H : Hp} {Q : VK} : rSubG (.int i) (.int j) H Q ↔ Q (.int (i - j)) H := Iff.rfl
theorem o_MulII {i j : Int} {H : Hp} {Q : VK} : rMulG (.int i) (.int j) H Q ↔ (CMul i j ∨ CMulW i j) ∧ Q (.int (i * j)) H := Iff.rfl
theorem o_MulSI {a : Str} {n : Int} {H : Hp} {Q : VK} : rMulG (.str a) (.int n) H Q ↔ MulOk a n ∧ Q (.str (Txt.mul a n)) H := Iff.rfl
theorem o_ModII {i j : Int} {H : Hp} {Q : VK} : rModG (.int i) (.int j) H Q ↔ 0 < j ∧ Q (.int (i % j)) H := Iff.rfl
theorem o_DivII {i j : Int} {H : Hp} {Q : VK} : rDivG (.int i) (.int j) H Q ↔ CDivW i j ∧ Q (.int (i / j)) H := Iff.rfl
theorem o_PowII {i j : Int} {H : Hp} {Q : VK} : rPowG (.int i) (.int j) H Q ↔ CPow i j ∧ Q (.int (i ^ j.toNat)) H := Iff.rfl
theorem o_LtII {i j : Int} {H : Hp} {Q : VK} : rLtG (.int i) (.int j) H Q ↔ Q (.bl (decide (i < j))) H := Iff.rfl
theorem o_LtSS {a b : Str} {H : Hp} {Q : VK} : rLtG (.str a) (.str b) H Q ↔ Q (.bl (decide (tl a < tl b))) H := Iff.rfl
theorem o_LeII {i j : Int} {H : Hp} {Q : VK} : rLeG (.int i) (.int j) H Q ↔ Q (.bl (decide (i ≤ j))) H := Iff.rfl
theorem o_LeSS {a b : Str} {H : Hp} {Q : VK} : rLeG (.str a) (.str b) H Q ↔ Q (.bl (!decide (tl b < tl a))) H := Iff.rfl
theorem o_GtII {i j : Int} {H : Hp} {Q : VK} : rGtG (.int i) (.int j) H Q ↔ Q (.bl (decide (j < i))) H := Iff.rfl
theorem o_GtSS {a b : Str} {H : Hp} {Q : VK} : rGtG (.str a) (.str b) H Q ↔ Q (.bl (decide (tl b < tl a))) H := Iff.rfl
theorem o_GeII {i j : Int} {H : Hp} {Q : VK} : rGeG (.int i) (.int j) H Q ↔ Q (.bl (decide (j ≤ i))) H := Iff.rfl
theorem o_GeSS {a b : Str} {H : Hp} {Q : VK} : rGeG (.str a) (.str b) H Q ↔ Q (.bl (!decide (tl a < tl b))) H := Iff.rfl
theorem o_EqII {K : PySem.W.Frag} {i j : Int} {H : Hp} {Q : VK} : rEqG K (.int i) (.int j) H Q ↔ Q (.bl (decide (i = j))) H := Iff.rfl
theorem o_EqSS {K : PySem.W.Frag} {a b : Str} {H : Hp} {Q : VK} : rEqG K (.str a) (.str b) H Q ↔ Q (.bl (decide (tl a = tl b))) H := Iff.rfl
theorem o_EqBB {K : PySem.W.Frag} {a b : Bool} {H : Hp} {Q : VK} : rEqG K (.bl a) (.bl b) H Q ↔ Q (.bl (decide (a = b))) H := Iff.rfl
theorem o_EqRR {K : PySem.W.Frag} {a b : Addr} {H : Hp} {Q : VK} : rEqG K (.ref a) (.ref b) H Q ↔ rEqD K (.ref a) (.ref b) H Q := Iff.rfl
theorem o_NeII {K : PySem.W.Frag} {i j : Int} {H : Hp} {Q : VK} : rNeG K (.int i) (.int j) H Q ↔ Q (.bl (!decide (i = j))) H := Iff.rfl
theorem o_NeSS {K : PySem.W.Frag} {a b : Str} {H : Hp} {Q : VK} : rNeG K (.str a) (.str b) H Q ↔ Q (.bl (!decide (tl a = tl b))) H := Iff.rfl
theorem o_NeBB {K : PySem.W.Frag} {a b : Bool} {H : Hp} {Q : VK} : rNeG K (.bl a) (.bl b) H Q ↔ Q (.bl (!decide (a = b))) H := Iff.rfl
theorem o_NeRR {K : PySem.W.Frag} {a b : Addr} {H : Hp} {Q : VK} : rNeG K (.ref a) (.ref b) H Q ↔ rNeD K (.ref a) (.ref b) H Q := Iff.rfl
theorem o_InR {K : PySem.W.Frag} {x : V} {p : Addr} {neg : Bool} {H : Hp} {Q : VK} : rInG K neg x (.ref p) H Q ↔ ∃ xs, (SqL K H p xs ∨ SqT K H p xs) ∧ flatV x = true ∧ xs.all flatV = true ∧ Q (.bl (if neg then !inV x xs else inV x xs)) H := Iff.rfl
theorem o_InS {K : PySem.W.Frag} {c : Nat} {z : Str} {neg : Bool} {H : Hp} {Q : VK} : rInG K neg (.str ⟨#[c]⟩) (.str z) H Q ↔ Q (.bl (if neg then !decide (c ∈ tl z) else decide (c ∈ tl z))) H := ⟨fun ⟨_, e, h⟩ => by cases e; exact h, fun h => ⟨_, rfl, h⟩⟩
theorem o_IxS {K : PySem.W.Frag} {z : Str} {i : Int} {H : Hp} {Q : VK} : rIxG K (.str z) (.int i) H Q ↔ z.length ≤ sizeLine ∧ ∃ c, atI (tl z) i = some c ∧ Q (.str (S [c])) H := Iff.rfl
theorem o_IxR {K : PySem.W.Frag} {p : Addr} {i : Int} {H : Hp} {Q : VK} : rIxG K (.ref p) (.int i) H Q ↔ ∃ xs v, (SqL K H p xs ∨ SqT K H p xs) ∧ atI xs i = some v ∧ Q v H := Iff.rfl
theorem o_SlS {K : PySem.W.Frag} {z : Str} {lo hi : Option Int} {H : Hp} {Q : VK} : rSlG K (.str z) lo hi H Q ↔ z.length ≤ sizeLine ∧ Q (.str (cutS z lo hi)) H := Iff.rfl
theorem o_SlR {K : PySem.W.Frag} {a : Addr} {lo hi : Option Int} {H : Hp} {Q : VK} : rSlG K (.ref a) lo hi H Q ↔ (∃ xs, SqL K H a xs ∧ ∀ p, H p = none → Q (.ref p) (upd H p (.lst (cutV xs lo hi)))) ∨ rSlT K (.ref a) lo hi H Q := Iff.rfl
theorem o_LenS {K : PySem.W.Frag} {z : Str} {H : Hp} {Q : VK} : rLenG K [.str z] H Q ↔ z.length ≤ sizeLine ∧ Q (.int z.length) H := Iff.rfl
theorem o_LenR {K : PySem.W.Frag} {p : Addr} {H : Hp} {Q : VK} : rLenG K [.ref p] H Q ↔ ∃ ys, (SqL K H p ys ∨ SqT K H p ys) ∧ Q (.int ys.length) H := Iff.rfl
theorem o_IntI {i : Int} {H : Hp} {Q : VK} : rIntG [.int i] H Q ↔ Q (.int i) H := Iff.rfl
theorem o_IntB {b : Bool} {H : Hp} {Q : VK} : rIntG [.bl b] H Q ↔ Q (.int (if b then 1 else 0)) H := Iff.rfl
theorem o_IntS {a : Str} {H : Hp} {Q : VK} : rIntG [.str a] H Q ↔ ∃ n, PySem.intText? a = some n ∧ a.length ≤ 640 ∧ Q (.int n) H := Iff.rfl
theorem o_Abs {i : Int} {H : Hp} {Q : VK} : rAbsG [.int i] H Q ↔ Q (.int (if i < 0 then -i else i)) H := Iff.rfl
theorem o_Max {i j : Int} {H : Hp} {Q : VK} : rMaxG [.int i, .int j] H Q ↔ Q (.int (if j > i then j else i)) H := Iff.rfl
theorem o_Min {i j : Int} {H : Hp} {Q : VK} : rMinG [.int i, .int j] H Q ↔ Q (.int (if j < i then j else i)) H := Iff.rfl
theorem o_Str {i : Int} {H : Hp} {Q : VK} : rStrG [.int i] H Q ↔ i.natAbs.log2 < 1920 ∧ Q (.str (Str.ofString (toString i))) H := Iff.rfl
theorem o_Divmod {i j : Int} {H : Hp} {Q : VK} : rDivmodG [.int i, .int j] H Q ↔ CDiv i j ∧ ∀ p, H p = none → Q (.ref p) (upd H p (.tup [.int (i / j), .int (i % j)])) := Iff.rfl
theorem x_Bl {a : Bool} {P : Bool → Prop} : (∃ k, V.bl a = V.bl k ∧ P k) ↔ P a := ⟨fun ⟨_, e, h⟩ => by cases e; exact h, fun h => ⟨_, rfl, h⟩⟩
theorem x_Int {a : Int} {P : Int → Prop} : (∃ k, V.int a = V.int k ∧ P k) ↔ P a := ⟨fun ⟨_, e, h⟩ => by cases e; exact h, fun h => ⟨_, rfl, h⟩⟩
theorem x_Str {a : Str} {P : Str → Prop} : (∃ k, V.str a = V.str k ∧ P k) ↔ P a := ⟨fun ⟨_, e, h⟩ => by cases e; exact h, fun h => ⟨_, rfl, h⟩⟩
theorem x_Ref {a : Addr} {P : Addr → Prop} : (∃ k, V.ref a = V.ref k ∧ P k) ↔ P a := ⟨fun ⟨_, e, h⟩ => by cases e; exact h, fun h => ⟨_, rfl, h⟩⟩
theorem x_StrT {a : Str} : (∃ k, V.str a = V.str k) ↔ True := ⟨fun _ => trivial, fun _ => ⟨_, rfl⟩⟩
theorem w_For {wi : TI} {g : TG} {tb : TS} {D : Ends} {σ : L2.St} {H : Hp} : tFor wi g tb D σ H ↔ wi σ H fun J H1 => Loop J g tb D σ H1 := Iff.rfl
theorem w_Lc {wi : TI} {g : TG} {tt : TT} {te : TE} {vs : List Nat} {σ : L2.St} {H : Hp} {Q : VK} : tLc wi g tt te vs σ H Q ↔ wi σ H fun J H1 => ∀ D, H1 D = none → LoopC J g tt te vs σ H1 D (Q (.ref D)) := Iff.rfl
theorem w_iEnum {K : PySem.W.Frag} {ta : TA} {σ : L2.St} {H : Hp} {R : It → Hp → Prop} : iEnum K ta σ H R ↔ ta σ H fun vs H1 => ∃ a xs, vs = [.ref a] ∧ SqL K H1 a xs ∧ R (Ite K a) H1 := Iff.rfl
theorem w_iZipG {K : PySem.W.Frag} {k1 k2 : Bool} {ta : TA} {σ : L2.St} {H : Hp} {R : It → Hp → Prop} : iZipG K k1 k2 ta σ H R ↔ ta σ H fun vs H1 => ∃ a b xs ys, vs = [.ref a, .ref b] ∧ SqB K k1 H1 a xs ∧ SqB K k2 H1 b ys ∧ R (ItzG K k1 k2 a b) H1 := Iff.rfl
theorem w_iList {K : PySem.W.Frag} {te : TE} {σ : L2.St} {H : Hp} {R : It → Hp → Prop} : iList K te σ H R ↔ te σ H fun x H1 => ∃ a, x = .ref a ∧ (∃ xs, SqL K H1 a xs) ∧ R (Itl K a) H1 := Iff.rfl
theorem w_iTup {K : PySem.W.Frag} {te : TE} {σ : L2.St} {H : Hp} {R : It → Hp → Prop} : iTup K te σ H R ↔ te σ H fun x H1 => ∃ a, x = .ref a ∧ (∃ xs, SqT K H1 a xs) ∧ R (Itt K a) H1 := Iff.rfl
theorem w_iStr {te : TE} {σ : L2.St} {H : Hp} {R : It → Hp → Prop} : iStr te σ H R ↔ te σ H fun v H1 => ∃ x, v = .str x ∧ R (Its x) H1 := Iff.rfl
theorem w_iR1 {te : TE} {σ : L2.St} {H : Hp} {R : It → Hp → Prop} : iRng1 (tCons te tNil) σ H R ↔ te σ H fun v H1 => ∃ j, v = .int j ∧ -(2 ^ 62) ≤ j ∧ j < 2 ^ 62 ∧ R (Itr 0 j.toNat) H1 := by
  unfold iRng1 tCons tNil
  simp only [List.cons.injEq, and_true]
theorem w_iR2 {ta tb : TE} {σ : L2.St} {H : Hp} {R : It → Hp → Prop} : iRng2 (tCons ta (tCons tb tNil)) σ H R ↔ ta σ H fun v H1 => tb σ H1 fun u H2 => iR2 v u H2 R := Iff.rfl
end G
namespace G
open PySem PySem.Spec PyProof.Rows L2
section
variable {X : Cx} {k : Nat} {ps : List Str} {sp : Sp} {x : Str} {e : Expr} {es : List Expr} {t : TA} {p pos : Pos} {E : L2.St → XK}
/-- a call in the body of a try -/
theorem pe_cS (C : CallOk X.prog X.w X.K X.mg X.base x k ps sp) (hr : Room k X.A) (hx : ∀ σ, PassesAt (L2.CX X.prog X.w) X σ (E σ)) (ha : PA X (e :: es) t) (hg : Gl X x := by rfl)
    (hdb : (x == ("__debug__" : Str)) = false := by decide) (he : starEach (e :: es) X.env = (false, eval e X.env) :: starEach es X.env := by rfl) (hpl : (backTo pos (starEach es X.env)).any (·.1) = false := by rfl) :
    PE X (.Call (.Name x p) (e :: es) [] pos) (tCallS sp E t) := by
  obtain ⟨f, fd, hm, hk, hb, F⟩ := C.ex
  exact pe_callS F hr hg hm hk hb hx ha hdb he hpl
end
theorem w_CallS {sp : Sp} {E : L2.St → XK} {t : TA} {σ : L2.St} {H : Hp} {Q : VK} : tCallS sp E t σ H Q ↔ t σ H fun vs H1 => sp vs H1 Q (E σ) := Iff.rfl
theorem w_Xf {a : Addr} {cls : Value} {d : Option Addr} {C : Addr} {f : Str} {te : TE} {σ : L2.St} {H : Hp} {Q : VK} : tXf a cls d C f te σ H Q ↔
    te σ H fun x H1 => x = .ref a ∧ cls = .ref C ∧ ∃ (dd : Addr) (fs : List (Str × V)) (v : V), d = some dd ∧ H1 dd = some (.xd fs) ∧ fs.lookup f = some v ∧ Q v H1 := Iff.rfl
end G
namespace G
open PySem PySem.Spec PyProof.Rows L2
/-! own operators of own classes -/
structure MetOk (P : Program) (w : World) (K : PySem.W.Frag) (mg : Str → Option Value) (base : Heap) (C : Addr) (nm : Str) (k : Nat) (ps : List Str) (sp : Sp) : Prop where
  ex : ∃ (f : Addr) (fd : FuncData), PySem.W.findIn K (.ref C) nm = some (some (.ref f)) ∧ PySem.W.isFn K (.ref f) = true ∧ PySem.W.keepIn K (.ref f) = true ∧ Binds K fd ps [] ∧ FnOk P w K mg base (L2.CX P w) k f fd ps sp
section
variable {X : Cx} {C : Addr} {k : Nat} {ps : List Str} {sp : Sp} {E : XK} {nm : Str}
theorem back_of {pins : List (Addr × Obj)} {σ : L2.St} {Q : VK} {v : Value} {s : Shared} (h : EP X pins σ Q v s) : PySem.W.CmpBack (EP X pins σ Q) v s := by
  obtain ⟨x, H, I, r, q⟩ := id h
  cases v <;> first
    | exact h
    | (cases x <;> first
        | (obtain ⟨t, r⟩ := r; cases r)
        | cases r)
theorem vals2 {x y : V} {u v : Value} (a : RelV x u) (b : RelV y v) : Vals [x, y] [u, v] := .cons a (.cons b .nil)
theorem vals1' {x : V} {u : Value} (a : RelV x u) : Vals [x] [u] := .cons a .nil
/-- both are instances of the class at C -/
def rOwn (C : Addr) (sp : Sp) (E : XK) : R2 := fun x y H Q => ∃ a b dx dy fs gs, x = .ref a ∧ y = .ref b ∧ H a = some (.ins C dx fs) ∧ H b = some (.ins C dy gs) ∧ sp [x, y] H Q E
theorem op_own {op : Operator} (M : MetOk X.prog X.w X.K X.mg X.base C nm k ps sp) (hn : PySem.dunder op.info.2 = nm) (hc : PySem.W.selfFirst X.K C = true) (hr : Room k X.A) (hx : Passes (L2.CX X.prog X.w) X E) : OpR X (binaryOp op) (rOwn C sp E) := by
  intro pins s σ H x y v u Q I rx ry h
  obtain ⟨a, b, dx, dy, fs, gs, rfl, rfl, ha, hb, q⟩ := h
  cases rx
  cases ry
  obtain ⟨f, fd, hs, hf, _, hbd, F⟩ := M.ex
  obtain ⟨mA, J, _⟩ := ins_get I.hok ha
  obtain ⟨mB, J', _⟩ := ins_get I.hok hb
  obtain ⟨od, J, _⟩ := J.look
  obtain ⟨od', J', _⟩ := J'.look
  obtain ⟨m, hF⟩ := I.fr
  subst hn
  refine PySem.W.binop_K hF I.ok.mod.kin J J'.type hc hs hf ?_
  exact wpAny_mono (run_fn F hr hbd .nil hx I (vals2 (x := .ref a) (y := .ref b) rfl rfl) (by exact q)) (fun v s' h => back_of h) fun _ _ e => e
/-- an instance of the class at C, and a number -/
def rOwnI (C : Addr) (sp : Sp) (E : XK) : R2 := fun x y H Q => ∃ a dx fs i, x = .ref a ∧ y = .int i ∧ H a = some (.ins C dx fs) ∧ sp [x, y] H Q E
theorem op_ownI {op : Operator} {fo ro rc : Option Value} (M : MetOk X.prog X.w X.K X.mg X.base C nm k ps sp) (hn : PySem.dunder op.info.2 = nm) (hc : PySem.W.selfFirst X.K C = true)
    (hrr : PySem.W.findIn X.K (.ref C) (PySem.dunderR op.info.2) = some rc) (hp : rc = none ∨ ∃ g : Addr, rc = some (.ref g)) (h1 : PySem.W.findIn X.K (.type "int") (PySem.dunder op.info.2) = some fo) (h2 : PySem.W.findIn X.K (.type "int") (PySem.dunderR op.info.2) = some ro)
    (hsub : PySem.W.subIn X.K (.type "int") (.ref C) = some false) (hr : Room k X.A) (hx : Passes (L2.CX X.prog X.w) X E) : OpR X (binaryOp op) (rOwnI C sp E) := by
  intro pins s σ H x y v u Q I rx ry h
  obtain ⟨a, dx, fs, i, rfl, rfl, ha, q⟩ := h
  cases rx
  obtain ⟨t, rfl⟩ := ry
  obtain ⟨f, fd, hs, hf, _, hbd, F⟩ := M.ex
  obtain ⟨mA, J, _⟩ := ins_get I.hok ha
  obtain ⟨od, J, _⟩ := J.look
  obtain ⟨m, hF⟩ := I.fr
  subst hn
  refine PySem.W.ksp_binT (T := "int") hF I.ok.mod.kin J rfl hc hs hf hrr hp h1 h2 hsub ?_
  exact wpAny_mono (run_fn F hr hbd .nil hx I (vals2 (x := .ref a) (y := .int i) rfl ⟨t, rfl⟩) (by exact q)) (fun v s' h => back_of h) fun _ _ e => e
/-- == of two instances of the class at C, by its own -/
theorem op_ownEq (M : MetOk X.prog X.w X.K X.mg X.base C "__eq__" k ps sp) (hu : X.A.units < cLine) (hr : Room k X.A) (hx : Passes (L2.CX X.prog X.w) X E) : OpR X (compareOp .Eq) (rOwn C sp E) := by
  intro pins s σ H x y v u Q I rx ry h
  obtain ⟨a, b, dx, dy, fs, gs, rfl, rfl, ha, hb, q⟩ := h
  cases rx
  cases ry
  obtain ⟨f, fd, hs, hf, _, hbd, F⟩ := M.ex
  obtain ⟨mA, J, _⟩ := ins_get I.hok ha
  obtain ⟨mB, J', _⟩ := ins_get I.hok hb
  obtain ⟨od, J, _⟩ := J.look
  obtain ⟨od', J', _⟩ := J'.look
  obtain ⟨m, hF⟩ := I.fr
  show wpAny (model X.prog X.w) X.A (richCompare .Eq (.ref a) (.ref b)) (EP X pins σ Q) X.xe s
  refine PySem.W.cmp_K (op := .Eq) (tb := .ref C) hu hF I.ok.mod.kin J J'.type (by simp [PySem.W.notFirst]) hs hf ?_
  exact wpAny_mono (run_fn F hr hbd .nil hx I (vals2 (x := .ref a) (y := .ref b) rfl rfl) (by exact q)) (fun v s' h => back_of h) fun _ _ e => e
/-- the truth of an instance, by its own __bool__ -/
theorem tru_own {a dx : Addr} {fs : List (Str × V)} {pins : List (Addr × Obj)} {s : Shared} {σ : L2.St} {H : Hp} {R : Bool → Shared → Prop} (M : MetOk X.prog X.w X.K X.mg X.base C "__bool__" k ps sp) (hr : Room k X.A) (hx : Passes (L2.CX X.prog X.w) X E) (I : Inv X pins σ H s)
    (ha : H a = some (.ins C dx fs)) (q : sp [.ref a] H (fun v H' => ∃ b, v = .bl b ∧ ∀ s', Inv X pins σ H' s' → R b s') E) : wpAny (model X.prog X.w) X.A (truthy (.ref a)) R X.xe s := by
  obtain ⟨f, fd, hs, hf, _, hbd, F⟩ := M.ex
  obtain ⟨mA, J, _⟩ := ins_get I.hok ha
  obtain ⟨od, J, _⟩ := J.look
  obtain ⟨m, hF⟩ := I.fr
  refine PySem.W.truthy_K hF I.ok.mod.kin J hs hf ?_
  refine wpAny_mono (run_fn F hr hbd .nil hx I (vals1' (x := .ref a) rfl) (by exact q)) (fun v s' h => ?_) fun _ _ e => e
  obtain ⟨x, H', I', r, q2⟩ := h
  obtain ⟨b, ex, h2⟩ := q2
  subst ex
  cases r
  exact h2 s' I'
/-- a def called from a built-in -/
theorem run_in1 {f : Addr} {fd : FuncData} {pins : List (Addr × Obj)} {σ : L2.St} {H : Hp} {s : Shared} {Q : VK} {us : List Value} {vs : List V} (F : FnOk X.prog X.w X.K X.mg X.base (L2.CX X.prog X.w) k f fd ps sp) (hr : Room k X.A.in1) (hb : Binds X.K fd ps [])
    (hx : Passes (L2.CX X.prog X.w) X E) (I : Inv X pins σ H s) (r : Vals vs us) (h : sp vs H Q E) : wpAny (model X.prog X.w) X.A.in1 (call (.ref f) us) (EP X pins σ Q) X.xe s := by
  have hl := F.len _ _ _ _ h
  have e := I.env0
  have e0 : Env0 X.prog X.w X.K X.mg X.base X.A.in1 X.stack s H := ⟨e.frames, e.mod, e.bs, e.bsz, e.funs, e.frf, e.hok, e.bare⟩
  have hb2 := hb s us I.kIn (by rw [List.append_nil, ← r.length]; exact hl)
  rw [List.append_nil] at hb2
  refine wpAny_call (codeAny_mono (F.run X.A.in1 X.stack s H ⟨us, []⟩ us vs Q E hr e0 hb2 r h) fun q s' hq => ?_)
  cases q with
  | error e => exact hx pins σ H s e s' I hq
  | ok fl =>
    cases fl with
    | ret u => exact I.after hq
    | next => exact False.elim hq
    | brk => exact False.elim hq
    | cont => exact False.elim hq
def rLenOwn (C : Addr) (sp : Sp) (E : XK) : List V → Hp → VK → Prop := fun vs H Q => ∃ a dx fs, vs = [.ref a] ∧ H a = some (.ins C dx fs) ∧ sp [.ref a] H (fun v H' => ∃ n : Int, v = .int n ∧ 0 ≤ n ∧ n < 2 ^ 63 ∧ Q (.int n) H') E
theorem call_lenOwn (M : MetOk X.prog X.w X.K X.mg X.base C "__len__" k ps sp) (hr : Room k X.A.in1) (hx : Passes (L2.CX X.prog X.w) X E) : CallR X (.builtin "len") (rLenOwn C sp E) := by
  intro pins s σ H xs us Q I r h
  obtain ⟨a, dx, fs, rfl, ha, q⟩ := h
  obtain ⟨u, rfl, ru⟩ := vals1 r
  cases ru
  obtain ⟨f, fd, hs, hf, _, hbd, F⟩ := M.ex
  obtain ⟨mA, J, _⟩ := ins_get I.hok ha
  obtain ⟨od, J, _⟩ := J.look
  obtain ⟨m, hF⟩ := I.fr
  refine PySem.W.len_K hF I.ok.mod.kin J hs hf ?_
  refine wpAny_mono (run_in1 F hr hbd hx I (vals1' (x := .ref a) rfl) q) (fun v s' h => ?_) fun _ _ e => e
  obtain ⟨x, H', I', r', q2⟩ := h
  obtain ⟨n, ex, h0, h1, h2⟩ := q2
  subst ex
  obtain ⟨t, rfl⟩ := r'
  exact ⟨⟨h0, h1⟩, ⟨.int n, H', I'.tok _, ⟨_, rfl⟩, h2⟩⟩
end
end G
namespace PySem.W
open PySem PySem.Calls PyProof.Rows
section
variable {prog : Program} {w : World} {A : Around} {E : Value → Shared → Prop} {s : Shared} {K : Frag} {x C L f : Addr} {h₀ : Heap} {m : Str → Option Value} {ox : Obj} {od : Option Obj} {b tb : Value}
/-- object's != asks the own == and turns its answer about -/
theorem objNe_body {Q : Fin → Shared → Prop} (X : K.In s.heap) (I : InstAt s.heap x ox C od) (hse : findIn K (.ref C) "__eq__" = some (some (.ref f))) (hf : isFn K (.ref f) = true) (hu : A.units < cLine)
    (h : wpAny (model prog w) A (call (.ref f) [.ref x, b]) (fun v s' => ∃ c, v = .bool c ∧ Q (.done (.ret (.bool (!c)))) s') E s) : wpAny (model prog w) A (Builtin.«object.__ne__» ⟨[.ref x, b], []⟩) Q E s := by
  unfold Builtin.«object.__ne__»
  refine wpAny_bind (wpAny_pure ?_)
  refine wpAny_bind (wpAny_cRoomFor hu ?_)
  refine wpAny_bind (m := callSpecialIfBound? (.ref x) (Str.ofString "__eq__") [b]) (ifBound_K X I hse hf (wpAny_mono h (fun r s' hr => ?_) fun _ _ e => e))
  obtain ⟨c, rfl, hq⟩ := hr
  exact wpAny_bind (wpAny_truthy_bool (wpAny_pure hq))
theorem ne_ownK {Q : Value → Shared → Prop} (hu : A.units + 1 < cLine) (F : Fr h₀ L s.heap m) (X₀ : K.In h₀) (I : InstAt s.heap x ox C od) (hb : Looks (model prog w) s.heap (typeOf b) tb) (hn : notFirst K C tb = true)
    (hse : findIn K (.ref C) "__eq__" = some (some (.ref f))) (hf : isFn K (.ref f) = true) (hsn : findIn K (.ref C) "__ne__" = some (some (.builtin "object.__ne__"))) (hsub : subIn K (.ref C) (.type "object") = some true)
    (h : wpAny (model prog w) A.in1 (call (.ref f) [.ref x, b]) (fun v s' => ∃ c, v = .bool c ∧ Q (.bool (!c)) s') E s) : wpAny (model prog w) A (richCompare .NotEq (.ref x) b) Q E s := by
  have X := X₀.keeps F.keep
  have inst : Looks (model prog w) s.heap (isInstance (.ref x) (.type "object")) true := I.type.andThen (looks_subIn X hsub)
  have one : wpAny (model prog w) A (tryCompare (.ref x) (cmpInfo .NotEq).2.1 b) (fun r s' => ∃ v, r = some v ∧ Q v s') E s := by
    show wpAny (model prog w) A (tryCompare (.ref x) (Str.ofString "__ne__") b) _ E s
    unfold tryCompare
    refine wpAny_bind ?_
    simp only [callSpecialIfBound?, bindSpecialIfBound?]
    refine wpAny_holding (wpAny_bind (wpAny_bind (wpAny_bind (I.type.here ((looks_findIn X hsn).here ?_)))))
    refine wpAny_bind (wpAny_askSetting (wpAny_ite ?_))
    have fin : wpAny (model prog w) A (call (.builtin "object.__ne__") ([.ref x] ++ [b]) >>= fun v => pure (some v))
        (fun r s' => wpAny (model prog w) A (match r with | some .notImplemented => pure none | none => pure none | some v => pure (some v)) (fun r s' => ∃ v, r = some v ∧ Q v s') E s') E s := by
      refine wpAny_bind (wpAny_call (codeAny_call_builtin PySem.F.cmp_object.ne.plain PySem.F.cmpEntry_ne (check_slot PySem.F.cmpKind_ne PySem.F.cmpSplit_ne inst (PySem.F.cmpArgs_ne _ _) ?_)))
      refine objNe_body (A := A.in1) X I hse hf hu (wpAny_mono h (fun v s' hv => ?_) fun _ _ e => e)
      obtain ⟨c, rfl, hq⟩ := hv
      first
        | exact ⟨c, rfl, ⟨_, rfl, wpAny_pure (wpAny_pure ⟨_, rfl, hq⟩)⟩⟩
        | exact ⟨c, rfl, wpAny_pure (wpAny_pure ⟨_, rfl, hq⟩)⟩
    have hbi : bindSpecial (.builtin "object.__ne__") (.ref x) = pure (.builtin "object.__ne__", [.ref x]) := PySem.F.cmp_object.ne.bind (.ref x)
    rw [hbi]
    split
    · exact wpAny_bind (wpAny_pure (wpAny_pure (by exact fin)))
    · exact wpAny_tryCatch (wpAny_bind (wpAny_pure (wpAny_pure (by exact fin))))
  unfold richCompare
  simp only [oneThing_ref]
  refine wpAny_holding (wpAny_bind (wpAny_cRoomFor (Nat.lt_of_succ_lt hu) ?_))
  refine wpAny_bind (I.type.here (wpAny_bind (hb.here ?_)))
  split
  · rename_i q
    have e : subIn K tb (.ref C) = some false := by
      rcases Bool.or_eq_true_iff.mp hn with e | e
      · rw [beq_iff_eq.mp e] at q
        simp at q
      · exact beq_iff_eq.mp e
    refine wpAny_bind ((looks_subIn X e).here ?_)
    simp only [Bool.false_eq_true, if_false]
    refine wpAny_bind (wpAny_mono one (fun r s' z => ?_) fun _ _ e => e)
    obtain ⟨v, rfl, z⟩ := z
    exact wpAny_pure z
  · refine wpAny_bind (wpAny_pure ?_)
    simp only [Bool.false_eq_true, if_false]
    refine wpAny_bind (wpAny_mono one (fun r s' z => ?_) fun _ _ e => e)
    obtain ⟨v, rfl, z⟩ := z
    exact wpAny_pure z
end
end PySem.W
namespace G
open PySem PySem.Spec PyProof.Rows L2
section
variable {X : Cx} {C : Addr} {k : Nat} {ps : List Str} {sp : Sp} {E : XK}
/-- != of two instances of the class at C, which has an own == and no own != -/
def rOwnNe (C : Addr) (sp : Sp) (E : XK) : R2 := fun x y H Q => ∃ a b dx dy fs gs, x = .ref a ∧ y = .ref b ∧ H a = some (.ins C dx fs) ∧ H b = some (.ins C dy gs) ∧ sp [x, y] H (fun v H' => ∃ c, v = .bl c ∧ Q (.bl (!c)) H') E
theorem op_ownNe (M : MetOk X.prog X.w X.K X.mg X.base C "__eq__" k ps sp) (hsn : PySem.W.findIn X.K (.ref C) "__ne__" = some (some (.builtin "object.__ne__"))) (hsub : PySem.W.subIn X.K (.ref C) (.type "object") = some true) (hu : X.A.units + 1 < cLine) (hr : Room k X.A.in1)
    (hx : Passes (L2.CX X.prog X.w) X E) : OpR X (compareOp .NotEq) (rOwnNe C sp E) := by
  intro pins s σ H x y v u Q I rx ry h
  obtain ⟨a, b, dx, dy, fs, gs, rfl, rfl, ha, hb, q⟩ := h
  cases rx
  cases ry
  obtain ⟨f, fd, hs, hf, _, hbd, F⟩ := M.ex
  obtain ⟨mA, J, _⟩ := ins_get I.hok ha
  obtain ⟨mB, J', _⟩ := ins_get I.hok hb
  obtain ⟨od, J, _⟩ := J.look
  obtain ⟨od', J', _⟩ := J'.look
  obtain ⟨m, hF⟩ := I.fr
  show wpAny (model X.prog X.w) X.A (richCompare .NotEq (.ref a) (.ref b)) (EP X pins σ Q) X.xe s
  refine PySem.W.ne_ownK (tb := .ref C) hu hF I.ok.mod.kin J J'.type (by simp [PySem.W.notFirst]) hs hf hsn hsub ?_
  refine wpAny_mono (run_in1 F hr hbd hx I (vals2 (x := .ref a) (y := .ref b) rfl rfl) q) (fun v s' h => ?_) fun _ _ e => e
  obtain ⟨x, H', I', r', q2⟩ := h
  obtain ⟨c, ex, h2⟩ := q2
  subst ex
  cases r'
  exact ⟨c, rfl, .bl (!c), H', I', rfl, h2⟩
end
end G
namespace G
open PySem PySem.Spec PyProof.Rows L2
section
variable {X : Cx}
/-- tuple(list): the new tuple's record is known -/
theorem call_tupleF : CallR X (.type "tuple") (fun xs H Q => ∃ p ys, xs = [.ref p] ∧ SqL X.K H p ys ∧ ∀ l o, H l = none → o.cls = .type "tuple" → o.dict = none → Q (.ref l) (upd H l (.frz o (.tup ys)))) := by
  intro pins s σ H x us Q I r h
  obtain ⟨p, ys, rfl, hq, q⟩ := h
  obtain ⟨u, rfl, rx⟩ := vals1 r
  cases rx
  obtain ⟨its, r', pl, hz⟩ := I.list hq
  have hlen := r'.length
  refine call_tuple_list pl.isList (fun h' kp => ?_) (by simp only [List.size_toArray] <;> omega)
  have I1 : Inv X pins σ H { s with heap := h' } := I.kept (t' := s.toks) kp
  have I2 : Inv X pins σ (upd H h'.objs.size (.frz { cls := .type "tuple", data := .seq its.toArray } (.tup ys))) { s with heap := h'.push { cls := .type "tuple", data := .seq its.toArray } } :=
    I1.laid (t' := s.toks) (fun b o e => Heap.get?_push_of_some _ e) (Nat.le_refl _) ⟨Heap.get?_push_size _ rfl, (show ObjOk X.prog X.w _ _ _ (.tup ys) from ⟨hz, its, r', IsTup.new _ _⟩)⟩
  exact ⟨.ref h'.objs.size, _, I2, rfl, q _ _ (I1.hok.fresh (Nat.le_refl _)) rfl rfl⟩
/-- pairs told with their keys' values -/
theorem pairs_vals {pins : List (Addr × Obj)} {σ : L2.St} {H : Hp} {s : Shared} (I : Inv X pins σ H s) : ∀ {ps : List Addr} {kvs : List (Key × V)}, Paired (fun p kv => SqT X.K H p [kV kv.1, kv.2]) ps kvs →
    ∃ (prs : List (Key × Value)) (us : List (Value × Value)), KV kvs prs ∧ prs.length = ps.length ∧ us.length = ps.length ∧
      ∀ (j : Nat) (k v : Value), us[j]? = some (k, v) → ∃ (b : Addr) (q : Key), ps[j]? = some b ∧ prs[j]? = some (q, v) ∧ IsTup s.heap b #[k, v] ∧ keyIs q k = true := by
  intro ps kvs h
  obtain ⟨prs, rel, hl, hp⟩ := pairs_of I h
  have pick : ∀ j, j < prs.length → ∃ u : Value × Value, ∀ q, prs[j]? = some q → ∃ b, ps[j]? = some b ∧ u.2 = q.2 ∧ IsTup s.heap b #[u.1, q.2] ∧ keyIs q.1 u.1 = true := fun j hj => by
    obtain ⟨b, u, e1, e2, e3⟩ := hp j prs[j] (List.getElem?_eq_getElem hj)
    refine ⟨(u, prs[j].2), fun q hq => ?_⟩
    rw [List.getElem?_eq_getElem hj] at hq
    cases hq
    exact ⟨b, e1, rfl, e2, e3⟩
  have all : ∀ n, n ≤ prs.length → ∃ us : List (Value × Value), us.length = n ∧ ∀ (j : Nat) (k v : Value), us[j]? = some (k, v) → ∃ (b : Addr) (q : Key), ps[j]? = some b ∧ prs[j]? = some (q, v) ∧ IsTup s.heap b #[k, v] ∧ keyIs q k = true := by
    intro n
    induction n with
    | zero => intro _; exact ⟨[], rfl, fun j k v e => by simp at e⟩
    | succ n ih =>
      intro hn
      obtain ⟨us, hu, hus⟩ := ih (by omega)
      obtain ⟨w, hw⟩ := pick n (by omega)
      obtain ⟨b, e1, e2, e3, e4⟩ := hw prs[n] (List.getElem?_eq_getElem (by omega))
      refine ⟨us ++ [w], by rw [List.length_append, hu]; rfl, fun j k v e => ?_⟩
      by_cases hj : j < n
      · rw [List.getElem?_append_left (by omega)] at e
        exact hus j k v e
      · rw [List.getElem?_append_right (by omega)] at e
        have hj0 : j = n := by
          have := (List.getElem?_eq_some_iff.mp e).1
          simp at this
          omega
        subst hj0
        rw [hu, Nat.sub_self] at e
        have ew : w = (k, v) := Option.some.inj e
        subst ew
        have ev : v = prs[j].2 := e2
        refine ⟨b, prs[j].1, e1, ?_, by rw [ev]; exact e3, e4⟩
        rw [List.getElem?_eq_getElem (by omega), ev]
  obtain ⟨us, hu, hus⟩ := all prs.length (Nat.le_refl _)
  exact ⟨prs, us, rel, hl, by rw [hu, hl], hus⟩
/-- a tuple whose record is known to hold no attributes: made here, or of the written part -/
def PlainT (K : PySem.W.Frag) (H : Hp) (a : Addr) (xs : List V) : Prop :=
  (∃ o, H a = some (.frz o (.tup xs)) ∧ o.cls = .type "tuple" ∧ o.dict = none) ∨ (∃ o its n, K.lookup a = some o ∧ o.cls = .type "tuple" ∧ o.dict = none ∧ o.data = .seq its n ∧ its.size ≤ sizeLine ∧ Vals xs its.toList)
theorem PlainT.same {K : PySem.W.Frag} {H H' : Hp} {a : Addr} {xs : List V} (h : PlainT K H a xs) (s : Same H H') : PlainT K H' a xs := by
  rcases h with ⟨o, h1, h2⟩ | h
  · exact .inl ⟨o, s _ _ h1, h2⟩
  · exact .inr h
theorem PlainT.sq {K : PySem.W.Frag} {H : Hp} {a : Addr} {xs : List V} (h : PlainT K H a xs) : SqT K H a xs := by
  rcases h with ⟨o, h1, _⟩ | ⟨o, its, n, h1, h2, h3, h4, h5, h6⟩
  · exact .inl (.inr ⟨o, h1⟩)
  · exact .inr ⟨o, its, n, h1, h2, h4, h5, h6⟩
theorem PlainT.ty {K : PySem.W.Frag} {H : Hp} {a : Addr} {xs : List V} (h : PlainT K H a xs) : TyX K H (.ref a) (.type "tuple") := by
  rcases h with ⟨o, h1, _⟩ | ⟨o, its, n, h1, h2, _⟩
  · exact .fTuple h1
  · exact .kTuple h1 h2
/-- dict(tuple of pairs), the tuple's record known -/
theorem call_dictF (hcalm : X.calm = true) : CallR X (.type "dict") (fun xs H Q => ∃ (a : Addr) (ps : List Addr) (kvs : List (Key × V)), xs = [.ref a] ∧ PlainT X.K H a (ps.map V.ref) ∧
    Paired (fun p kv => SqT X.K H p [kV kv.1, kv.2]) ps kvs ∧ ∀ p, H p = none → Q (.ref p) (upd H p (.dK (mergeK [] kvs)))) := by
  intro pins s σ H xs us Q I r q
  obtain ⟨a, ps, kvs, rfl, ha, hp, q⟩ := q
  obtain ⟨u, rfl, rx⟩ := vals1 r
  cases rx
  obtain ⟨o, n, its, ho, hc, hod, hd, hz, rv⟩ : ∃ (o : Obj) (n : Nat) (its : List Value), s.heap.get? a = some o ∧ o.cls = .type "tuple" ∧ o.dict = none ∧ o.data = .seq its.toArray n ∧ (ps.map V.ref).length ≤ sizeLine ∧ Vals (ps.map V.ref) its := by
    rcases ha with ⟨o, ha, hc, hod⟩ | ⟨o, its, n, h1, h2, h3, h4, h5, h6⟩
    · obtain ⟨ho, hz, its, rv, ob, hob, hc2, n, hd⟩ := (show ObjOk X.prog X.w H s.heap a (.frz o (.tup (ps.map V.ref))) from I.hok a _ ha)
      rw [ho] at hob
      cases hob
      exact ⟨o, n, its, ho, hc, hod, hd, hz, rv⟩
    · exact ⟨o, n, its.toList, I.kIn a o h1, h2, h3, by simpa using h4, by rw [h6.length]; simpa using h5, h6⟩
  have ei := refs_at rv
  subst ei
  rw [List.length_map] at hz
  obtain ⟨prs, uv, rel, hl, hul, hpr⟩ := pairs_vals I hp
  have ok : PlainSeq "tuple" s.heap a (ps.map Value.ref).toArray ∧ PairItems s.heap (ps.map Value.ref).toArray (fun j => ps.getD j 0) uv := by
    refine ⟨⟨o, n, ho, hc, hod, hd⟩, by simp [hul], fun j k v e => ?_⟩
    obtain ⟨b, q', e1, e2, e3, e4⟩ := hpr j k v e
    have hb : ps.getD j 0 = b := by rw [List.getD_eq_getElem?_getD, e1]; rfl
    dsimp only
    rw [hb]
    refine ⟨by simp [e1], ?_⟩
    obtain ⟨o2, h1, h2, n2, h3⟩ := e3
    exact .inl ⟨o2, h1, h2, n2, h3⟩
  refine PySem.call_dict_pairs (knd := mixKind X.prog X.w) (kvs := prs) (PairArg.tuple a (ps.map Value.ref).toArray (fun j => ps.getD j 0) uv) (I.ok.hd hcalm) ok ⟨by rw [hl, hul], fun i key v e => ?_⟩ (by rw [hul]; exact hz) fun h' tk hd' k => ?_
  · obtain ⟨b, q', e1, e2, e3, e4⟩ := hpr i key v e
    exact ⟨q', e2, e4⟩
  · have hm : (s.heap.objs.size == sysModules) = false := beq_eq_false_iff_ne.mpr (Nat.ne_of_gt I.big)
    have hlen : (mergeK [] kvs).length ≤ sizeLine := by
      refine Nat.le_trans (length_mergeK kvs []) ?_
      rw [List.length_nil, Nat.zero_add, rel.length, hl]
      exact hz
    exact ⟨.ref s.heap.objs.size, upd H s.heap.objs.size (.dK (mergeK [] kvs)), I.laid (t' := tk) (fun b o e => k b o (by simp) e) (Nat.le_refl _) (show ObjOk X.prog X.w _ _ _ (.dK (mergeK [] kvs)) from ⟨hlen, hm, merged [] prs, KV.merge rel .nil, hd'⟩), rfl, q _ (I.hok.fresh (Nat.le_refl _))⟩
end
end G
/-! Objects, bundled: their making, methods, properties. -/
namespace G
open PySem PySem.Spec PyProof.Rows L2
structure MkOk (P : Program) (w : World) (K : PySem.W.Frag) (mg : Str → Option Value) (base : Heap) (x : Str) (C : Addr) (k : Nat) (ps : List Str) (ds : List Value) (dvs : List V) (sp : Sp) : Prop where
  ex : ∃ (f : Addr) (fd : FuncData), mg x = some (.ref C) ∧ Mk K C f ∧ Binds K fd ps ds ∧ Vals dvs ds ∧ FnOk P w K mg base (L2.CX P w) k f fd ps sp
structure PropOk (P : Program) (w : World) (K : PySem.W.Frag) (mg : Str → Option Value) (base : Heap) (C : Addr) (nm : Str) (k : Nat) (ps : List Str) (sp : Sp) : Prop where
  ex : ∃ (p g : Addr) (fd : FuncData), PropOf K C nm p g ∧ Binds K fd ps [] ∧ FnOk P w K mg base (L2.CX P w) k g fd ps sp
section
variable {X : Cx} {C : Addr} {k : Nat} {ps : List Str} {sp : Sp} {E : XK} {x m : Str} {p apos pos : Pos} {o e : Expr} {es : List Expr} {to : TE} {t : TA} {ds : List Value} {dvs : List V}
/-- o.m(e, ..) -/
theorem pe_mC {pl : Sem Bool} (c : Cls X.K C) (M : MetOk X.prog X.w X.K X.mg X.base C m k ps sp) (hr : Room k X.A) (hx : Passes (L2.CX X.prog X.w) X E) (ho : PE X o to) (ha : PA X (e :: es) t)
    (hst : starEach (e :: es) X.env = (false, eval e X.env) :: starEach es X.env := by rfl) (hpl : (backTo pos (starEach es X.env)).any (·.1) = false := by rfl)
    (ht : eval (.Call (.Attribute o m apos) (e :: es) [] pos) X.env = (do
      let ov ← eval o X.env
      standAt apos.atName
      let (f, first) ← holding [ov] (getMethod ov m pl)
      callWith pos f first (backTo pos (starEach (e :: es) X.env)) (backToKw pos (keywordEach [] X.env))) := by rfl) :
    PE X (.Call (.Attribute o m apos) (e :: es) [] pos) (tMeth C m sp [] E to t) := by
  obtain ⟨f, fd, hs, hf, hk, hbd, F⟩ := M.ex
  exact pe_meth (pl := pl) ho c ⟨hs, hf, hk⟩ F hr hbd .nil hx ha hst hpl ht
/-- o.m() -/
theorem pe_mC0 {pl : Sem Bool} (c : Cls X.K C) (M : MetOk X.prog X.w X.K X.mg X.base C m k ps sp) (hr : Room k X.A) (hx : Passes (L2.CX X.prog X.w) X E) (ho : PE X o to)
    (ht : eval (.Call (.Attribute o m apos) [] [] pos) X.env = (do
      let ov ← eval o X.env
      standAt apos.atName
      let (f, first) ← holding [ov] (getMethod ov m pl)
      callWith pos f first (backTo pos (starEach [] X.env)) (backToKw pos (keywordEach [] X.env))) := by rfl) :
    PE X (.Call (.Attribute o m apos) [] [] pos) (tMeth C m sp [] E to tNil) := by
  obtain ⟨f, fd, hs, hf, hk, hbd, F⟩ := M.ex
  exact pe_meth0 (pl := pl) ho c ⟨hs, hf, hk⟩ F hr hbd .nil hx ht
/-- C(e, ..) and C() -/
theorem pe_mkC (M : MkOk X.prog X.w X.K X.mg X.base x C k ps ds dvs sp) (hr : Room (k + 1) X.A) (hx : Passes (L2.CX X.prog X.w) X E) (ha : PA X (e :: es) t) (hg : Gl X x := by rfl)
    (hdb : (x == ("__debug__" : Str)) = false := by decide) (he : starEach (e :: es) X.env = (false, eval e X.env) :: starEach es X.env := by rfl) (hpl : (backTo pos (starEach es X.env)).any (·.1) = false := by rfl) :
    PE X (.Call (.Name x p) (e :: es) [] pos) (tMake C sp dvs E t) := by
  obtain ⟨f, fd, hm, mk, hb, hd, F⟩ := M.ex
  exact pe_make mk F hr hg hm hb hd hx ha hdb he hpl
theorem pe_mkC0 (M : MkOk X.prog X.w X.K X.mg X.base x C k ps ds dvs sp) (hr : Room (k + 1) X.A) (hx : Passes (L2.CX X.prog X.w) X E) (hg : Gl X x := by rfl) (hdb : (x == ("__debug__" : Str)) = false := by decide) :
    PE X (.Call (.Name x p) [] [] pos) (tMake C sp dvs E tNil) := by
  obtain ⟨f, fd, hm, mk, hb, hd, F⟩ := M.ex
  exact pe_make0 mk F hr hg hm hb hd hx hdb
/-- e.f, a property -/
theorem pe_propC (c : Cls X.K C) (M : PropOk X.prog X.w X.K X.mg X.base C m k ps sp) (hr : Room (k + 1) X.A) (hx : Passes (L2.CX X.prog X.w) X.nox E) (he : PE X o to) (hab : attributeBase o m X.env (eval o X.env) = eval o X.env := by rfl) :
    PE X (.Attribute o m pos) (tProp C sp [] E to) := by
  obtain ⟨p, g, fd, hp, hb, F⟩ := M.ex
  exact pe_prop he c hp F hr hb .nil hx hab
end
end G
namespace G
open PySem PySem.Spec PyProof.Rows L2
/-! steps of the readings of objects -/
section
variable {K : PySem.W.Frag} {C : Addr} {m f : Str} {sp : Sp} {E : XK} {to tv : TE} {t : TA} {σ : L2.St} {H : Hp} {Q : VK} {D : Ends} {dvs : List V}
theorem w_Meth : tMeth C m sp [] E to t σ H Q ↔ to σ H fun x H1 => ∃ a dx fs, x = .ref a ∧ H1 a = some (.ins C dx fs) ∧ fs.lookup m = none ∧ t σ H1 fun vs H2 => sp (x :: vs) H2 Q E := by
  unfold tMeth
  simp only [List.append_nil]
theorem w_Make : tMake C sp dvs E t σ H Q ↔ t σ H fun vs H1 => ∀ x dx, H1 x = none → H1 dx = none → dx ≠ x → sp (.ref x :: (vs ++ dvs)) (upd (upd H1 dx (.own x)) x (.ins C dx [])) (fun v H2 => v = .non ∧ Q (.ref x) H2) E := Iff.rfl
theorem w_Prop : tProp C sp [] E to σ H Q ↔ to σ H fun x H1 => ∃ a dx fs, x = .ref a ∧ H1 a = some (.ins C dx fs) ∧ sp [.ref a] H1 Q E := Iff.rfl
theorem w_Fld : tFld K to f σ H Q ↔ to σ H fun x H1 => ∃ a C dx fs v, x = .ref a ∧ H1 a = some (.ins C dx fs) ∧ Cls K C ∧ NoAttr K C f ∧ fs.lookup f = some v ∧ Q v H1 := Iff.rfl
theorem w_sFld : sFld K to tv f D σ H ↔ tv σ H fun y H1 => to σ H1 fun x H2 => ∃ a C dx fs, x = .ref a ∧ H2 a = some (.ins C dx fs) ∧ Cls K C ∧ NoAttr K C f ∧ fs.length < 1000 ∧ D.nx σ (upd H2 a (.ins C dx (putF f y fs))) := Iff.rfl
end
/-! isinstance, by the shapes -/
def rIsiH (K : PySem.W.Frag) : List V → Hp → VK → Prop := fun vs H Q => match vs with
  | [.ref a, .ty n] => ∃ T b, TyX K H (.ref a) (.type T) ∧ kitB T n = some b ∧ Q (.bl b) H
  | [.ref a, .ref C] => ∃ t b, TyX K H (.ref a) t ∧ PySem.W.kitOne K t (.ref C) = some b ∧ Q (.bl b) H
  | vs => rIsiG vs H Q
theorem call_isiH {X : Cx} : CallR X (.builtin "isinstance") (rIsiH X.K) := by
  intro pins s σ H xs us Q I r h
  unfold rIsiH at h
  split at h
  · obtain ⟨T, b, ty, k, q⟩ := h
    exact call_isi pins s σ H _ us Q I r ⟨_, _, .type T, .type _, b, rfl, .ty _, ty, kit_ty k, q⟩
  · obtain ⟨t, b, ty, k, q⟩ := h
    exact call_isi pins s σ H _ us Q I r ⟨_, _, t, .ref _, b, rfl, .own _, ty, k, q⟩
  · exact call_isiG pins s σ H _ us Q I r h
theorem kit_tt : kitB "tuple" "tuple" = some true := by decide +kernel
theorem isiH_ii {K : PySem.W.Frag} {i : Int} {H : Hp} {Q : VK} : rIsiH K [.int i, .ty "int"] H Q ↔ Q (.bl true) H := isi_ii
theorem isiH_ib {K : PySem.W.Frag} {i : Int} {H : Hp} {Q : VK} : rIsiH K [.int i, .ty "bool"] H Q ↔ Q (.bl false) H := isi_ib
theorem isiH_ss {K : PySem.W.Frag} {z : Str} {H : Hp} {Q : VK} : rIsiH K [.str z, .ty "str"] H Q ↔ Q (.bl true) H := isi_ss
theorem isiH_rt {K : PySem.W.Frag} {a : Addr} {n : String} {H : Hp} {Q : VK} : rIsiH K [.ref a, .ty n] H Q ↔ ∃ T b, TyX K H (.ref a) (.type T) ∧ kitB T n = some b ∧ Q (.bl b) H := Iff.rfl
theorem isiH_rr {K : PySem.W.Frag} {a C : Addr} {H : Hp} {Q : VK} : rIsiH K [.ref a, .ref C] H Q ↔ ∃ t b, TyX K H (.ref a) t ∧ PySem.W.kitOne K t (.ref C) = some b ∧ Q (.bl b) H := Iff.rfl
/-- a module's text -/
theorem pe_gS {X : Cx} {x : Str} {z : Str} {pos : Pos} (hm : ∃ t, X.mg x = some (.str z t)) (hg : Gl X x := by rfl) (hd : (x == ("__debug__" : Str)) = false := by decide) : PE X (.Name x pos) (tC (.str z)) := by
  obtain ⟨t, h⟩ := hm
  exact pe_glob hg h ⟨t, rfl⟩ hd
/-- a module's class -/
theorem pe_gR {X : Cx} {x : Str} {C : Addr} {pos : Pos} (h : X.mg x = some (.ref C)) (hg : Gl X x := by rfl) (hd : (x == ("__debug__" : Str)) = false := by decide) : PE X (.Name x pos) (tC (.ref C)) := pe_glob hg h rfl hd
end G
namespace G
open PySem PySem.Spec PyProof.Rows L2
theorem w_DGet2 {td ty tx : TE} {σ : L2.St} {H : Hp} {Q : VK} : tDGet2 td ty tx σ H Q ↔ td σ H fun x H1 => ∃ a, x = .ref a ∧ IsD H1 a ∧ ty σ H1 fun y H2 => tx σ H2 fun z H3 => ∃ o, DGet H3 a y o ∧ Q (o.getD z) H3 := Iff.rfl
/-- a field, the module's fragment named -/
theorem pe_fldK {X : Cx} (K : PySem.W.Frag) {e : Expr} {f : Str} {ta : TE} {pos : Pos} (he : PE X e ta) (hb : attributeBase e f X.env (eval e X.env) = eval e X.env) (h : X.K = K := by rfl) : PE X (.Attribute e f pos) (tFld K ta f) := by
  subst h
  exact pe_fld he hb
end G
/-! Data in the place of values and heaps: what the readings are lifted to. -/
namespace G
open PySem PySem.Spec PyProof.Rows L2

/-- data: what never changes stands in it whole; what may change stands at a place -/
inductive D where
  | non | bl (b : Bool) | int (i : Int) | str (z : Str) | ty (n : String) | cls (c : String)
  | tup (xs : List D) | tuq (xs : List D) | lst (xs : List D) | lsk (xs : List D) | dct (ks : List Key) (xs : List D) | dtt (ks : List (List Key)) (xs : List D) | dck (ks : List Str) (xs : List D) | obj (c : String) (ns : List String) (xs : List D)
  | ref (i : Nat)
/-- what may change -/
inductive AO where
  | lst (xs : List D) | dct (ks : List Key) (xs : List D) | dctL (ks : List Key) (xs : List D) | dtt (ks : List (List Key)) (xs : List D) | dttL (ks : List (List Key)) (xs : List D) | obj (c : String) (ns : List String) (xs : List D)
abbrev AH := List AO
abbrev AS := List (Option D)
inductive Res (α : Type) where
  | ok (a : α) (M : AH) | exc (c : String) (p : Option (List String × List D)) (M : AH) | stuck
def Res.bind {α β : Type} (r : Res α) (k : α → AH → Res β) : Res β := match r with
  | .ok a M => k a M
  | .exc c p M => .exc c p M
  | .stuck => .stuck
inductive SRes where
  | nx (δ : AS) (M : AH) | rt (d : D) (M : AH) | bk (δ : AS) (M : AH) | ct (δ : AS) (M : AH) | exc (c : String) (p : Option (List String × List D)) (δ : AS) (M : AH) | stuck
def Res.thenS {α : Type} (r : Res α) (δ : AS) (k : α → AH → SRes) : SRes := match r with
  | .ok a M => k a M
  | .exc c p M => .exc c p δ M
  | .stuck => .stuck

mutual
def D.beq : D → D → Bool
  | .non, .non => true
  | .bl a, .bl b => a == b
  | .int a, .int b => decide (a = b)
  | .str a, .str b => decide (a = b)
  | .ty a, .ty b => decide (a = b)
  | .cls a, .cls b => decide (a = b)
  | .tup a, .tup b => D.beqL a b
  | .tuq a, .tuq b => D.beqL a b
  | .lst a, .lst b => D.beqL a b
  | .lsk a, .lsk b => D.beqL a b
  | .dct k a, .dct l b => decide (k = l) && D.beqL a b
  | .dtt k a, .dtt l b => decide (k = l) && D.beqL a b
  | .dck k a, .dck l b => decide (k = l) && D.beqL a b
  | .obj c k a, .obj d l b => decide (c = d) && (decide (k = l) && D.beqL a b)
  | .ref i, .ref j => decide (i = j)
  | _, _ => false
def D.beqL : List D → List D → Bool
  | [], [] => true
  | a :: as, b :: bs => D.beq a b && D.beqL as bs
  | _, _ => false
end
mutual
theorem D.beq_refl : ∀ a : D, D.beq a a = true
  | .non => by simp [D.beq]
  | .bl a => by simp [D.beq]
  | .int a => by simp [D.beq]
  | .str a => by simp [D.beq]
  | .ty a => by simp [D.beq]
  | .cls a => by simp [D.beq]
  | .tup a => by simp [D.beq, D.beqL_refl a]
  | .tuq a => by simp [D.beq, D.beqL_refl a]
  | .lsk a => by simp [D.beq, D.beqL_refl a]
  | .lst a => by simp [D.beq, D.beqL_refl a]
  | .dct k a => by simp [D.beq, D.beqL_refl a]
  | .dtt k a => by simp [D.beq, D.beqL_refl a]
  | .dck k a => by simp [D.beq, D.beqL_refl a]
  | .obj c k a => by simp [D.beq, D.beqL_refl a]
  | .ref i => by simp [D.beq]
theorem D.beqL_refl : ∀ a : List D, D.beqL a a = true
  | [] => by simp [D.beqL]
  | a :: as => by simp [D.beqL, D.beq_refl a, D.beqL_refl as]
end
mutual
theorem D.beq_eq : ∀ {a b : D}, D.beq a b = true → a = b
  | .non, b, h => by cases b <;> simp [D.beq] at h ⊢
  | .bl a, b, h => by cases b <;> simp [D.beq] at h ⊢; exact h
  | .int a, b, h => by cases b <;> simp [D.beq] at h ⊢; exact h
  | .str a, b, h => by cases b <;> simp [D.beq] at h ⊢; exact h
  | .ty a, b, h => by cases b <;> simp [D.beq] at h ⊢; exact h
  | .cls a, b, h => by cases b <;> simp [D.beq] at h ⊢; exact h
  | .tup a, b, h => by cases b <;> simp [D.beq] at h ⊢; exact D.beqL_eq h
  | .tuq a, b, h => by cases b <;> simp [D.beq] at h ⊢; exact D.beqL_eq h
  | .lsk a, b, h => by cases b <;> simp [D.beq] at h ⊢; exact D.beqL_eq h
  | .lst a, b, h => by cases b <;> simp [D.beq] at h ⊢; exact D.beqL_eq h
  | .dct k a, b, h => by cases b <;> simp [D.beq] at h ⊢; exact ⟨h.1, D.beqL_eq h.2⟩
  | .dtt k a, b, h => by cases b <;> simp [D.beq] at h ⊢; exact ⟨h.1, D.beqL_eq h.2⟩
  | .dck k a, b, h => by cases b <;> simp [D.beq] at h ⊢; exact ⟨h.1, D.beqL_eq h.2⟩
  | .obj c k a, b, h => by cases b <;> simp [D.beq] at h ⊢; exact ⟨h.1, h.2.1, D.beqL_eq h.2.2⟩
  | .ref i, b, h => by cases b <;> simp [D.beq] at h ⊢; exact h
theorem D.beqL_eq : ∀ {a b : List D}, D.beqL a b = true → a = b
  | [], b, h => by cases b <;> simp [D.beqL] at h ⊢
  | a :: as, b, h => by
    cases b with
    | nil => simp [D.beqL] at h
    | cons b bs =>
      simp only [D.beqL, Bool.and_eq_true] at h
      rw [D.beq_eq h.1, D.beqL_eq h.2]
end
def AO.beq : AO → AO → Bool
  | .lst a, .lst b => D.beqL a b
  | .dct k a, .dct l b => decide (k = l) && D.beqL a b
  | .dctL k a, .dctL l b => decide (k = l) && D.beqL a b
  | .dtt k a, .dtt l b => decide (k = l) && D.beqL a b
  | .dttL k a, .dttL l b => decide (k = l) && D.beqL a b
  | .obj c k a, .obj d l b => decide (c = d) && (decide (k = l) && D.beqL a b)
  | _, _ => false
theorem AO.beq_refl : ∀ a : AO, AO.beq a a = true
  | .lst a => by simp [AO.beq, D.beqL_refl a]
  | .dct k a => by simp [AO.beq, D.beqL_refl a]
  | .dctL k a => by simp [AO.beq, D.beqL_refl a]
  | .dtt k a => by simp [AO.beq, D.beqL_refl a]
  | .dttL k a => by simp [AO.beq, D.beqL_refl a]
  | .obj c k a => by simp [AO.beq, D.beqL_refl a]
theorem AO.beq_eq : ∀ {a b : AO}, AO.beq a b = true → a = b
  | .lst a, b, h => by cases b <;> simp [AO.beq] at h ⊢; exact D.beqL_eq h
  | .dct k a, b, h => by cases b <;> simp [AO.beq] at h ⊢; exact ⟨h.1, D.beqL_eq h.2⟩
  | .dctL k a, b, h => by cases b <;> simp [AO.beq] at h ⊢; exact ⟨h.1, D.beqL_eq h.2⟩
  | .dtt k a, b, h => by cases b <;> simp [AO.beq] at h ⊢; exact ⟨h.1, D.beqL_eq h.2⟩
  | .dttL k a, b, h => by cases b <;> simp [AO.beq] at h ⊢; exact ⟨h.1, D.beqL_eq h.2⟩
  | .obj c k a, b, h => by cases b <;> simp [AO.beq] at h ⊢; exact ⟨h.1, h.2.1, D.beqL_eq h.2.2⟩

/-! no place from n on stands in it -/
mutual
def D.clo (n : Nat) : D → Bool
  | .tup a => D.cloL n a
  | .tuq a => D.cloL n a
  | .lsk a => D.cloL n a
  | .lst a => D.cloL n a
  | .dct _ a => D.cloL n a
  | .dtt _ a => D.cloL n a
  | .dck _ a => D.cloL n a
  | .obj _ _ a => D.cloL n a
  | .ref i => decide (i < n)
  | _ => true
def D.cloL (n : Nat) : List D → Bool
  | [] => true
  | a :: as => D.clo n a && D.cloL n as
end
def AO.clo (n : Nat) : AO → Bool
  | .lst a => D.cloL n a
  | .dct _ a => D.cloL n a
  | .dctL _ a => D.cloL n a
  | .dtt _ a => D.cloL n a
  | .dttL _ a => D.cloL n a
  | .obj _ _ a => D.cloL n a
/-- what stood at the places ahead of n has no place behind it, or stands as it did -/
def okOld (M M' : AH) : Bool := (List.range M.length).all fun i => match M[i]?, M'[i]? with
  | some a, some b => AO.beq b a || AO.clo M.length b
  | _, _ => false
/-! what is new stands whole in the answer -/
mutual
def frz (M' : AH) (n : Nat) : Nat → D → Option D
  | k, d => if D.clo n d then some d else match k with
    | 0 => none
    | k + 1 => match d with
      | .ref i => match M'[i]? with
        | some (.lst xs) => (frzL M' n k xs).map .lst
        | some (.dct ks xs) => (frzL M' n k xs).map (.dct ks)
        | some (.dctL ks xs) => (frzL M' n k xs).map (.dct ks)
        | some (.dtt ks xs) => (frzL M' n k xs).map (.dtt ks)
        | some (.dttL ks xs) => (frzL M' n k xs).map (.dtt ks)
        | some (.obj c ns xs) => (frzL M' n k xs).map (.obj c ns)
        | none => none
      | .tup xs => (frzL M' n k xs).map .tup
      | .tuq xs => (frzL M' n k xs).map .tuq
      | .lsk xs => (frzL M' n k xs).map .lsk
      | .lst xs => (frzL M' n k xs).map .lst
      | .dct ks xs => (frzL M' n k xs).map (.dct ks)
      | .dtt ks xs => (frzL M' n k xs).map (.dtt ks)
      | .dck ks xs => (frzL M' n k xs).map (.dck ks)
      | .obj c ns xs => (frzL M' n k xs).map (.obj c ns)
      | d => some d
  termination_by k d => (k, 0)
def frzL (M' : AH) (n : Nat) : Nat → List D → Option (List D)
  | k, [] => some []
  | k, d :: ds => match frz M' n k d, frzL M' n k ds with
    | some d', some ds' => some (d' :: ds')
    | _, _ => none
  termination_by k ds => (k, ds.length + 1)
end

/-- names of addresses; the tables of code objects -/
structure Kap where
  adr : String → Addr
  T : List (Addr × Str)
  w : World
instance : CoeFun Kap fun _ => String → Addr := ⟨Kap.adr⟩
/-- what a loop may lock -/
def Lk : HO → Prop
  | .dK _ => True
  | .dT _ => True
  | _ => False
/-- all stands, some of it locked -/
def Le (H H' : Hp) : Prop := ∀ a o, H a = some o → H' a = some o ∨ (Lk o ∧ ∃ od, H' a = some (.frz od o))
theorem Le.refl (H : Hp) : Le H H := fun _ _ h => .inl h
theorem _root_.L2.Same.toLe {H H' : Hp} (s : Same H H') : Le H H' := fun a o h => .inl (s a o h)
theorem Le.ex {H H' : Hp} (s : Le H H') {a : Addr} {o : HO} (h : H a = some o) (n : ¬ Lk o) : H' a = some o := (s a o h).elim id fun q => (n q.1).elim
theorem Le.rd {H H' : Hp} (s : Le H H') {a : Addr} {o : HO} (h : Rd H a o) : Rd H' a o := by
  rcases h with h | ⟨od, h⟩
  · rcases s a o h with q | ⟨_, od, q⟩
    · exact .inl q
    · exact .inr ⟨od, q⟩
  · exact .inr ⟨od, s.ex h (fun z => z)⟩
theorem Le.trans {H H1 H2 : Hp} (a : Le H H1) (b : Le H1 H2) : Le H H2 := fun x o h => by
  rcases a x o h with q | ⟨l, od, q⟩
  · exact b x o q
  · exact .inr ⟨l, od, b.ex q fun z => z⟩
theorem Le.none {H H' : Hp} (s : Le H H') {a : Addr} (h : H' a = none) : H a = none := by
  cases e : H a with
  | none => rfl
  | some o => rcases s a o e with q | ⟨_, _, q⟩ <;> rw [h] at q <;> cases q
/-- nothing of ours stands there -/
def Nn (H : Hp) (a : Addr) : Prop := H a = none ∨ ∃ ps, H a = some (.tbl ps)
theorem Nn.no {H : Hp} {a : Addr} {o : HO} (n : Nn H a) (h : H a = some o) (t : ∀ ps, o ≠ .tbl ps) : False := by
  rcases n with n | ⟨ps, n⟩ <;> rw [h] at n <;> cases n
  exact t _ rfl
theorem Nn.upd {H : Hp} {a p : Addr} {o : HO} (n : Nn (upd H p o) a) (hp : a = p → Nn H a) (ne : a ≠ p → L2.upd H p o a = H a := fun h => upd_ne h) : Nn H a := by
  by_cases h : a = p
  · exact hp h
  · unfold Nn at n
    rw [ne h] at n
    exact n
/-- a dict of the written part -/
def KDk (K : PySem.W.Frag) (w : World) (p : Addr) (ks : List Str) (vs : List V) : Prop := ks.length = vs.length ∧ (∃ es n, KDict K w p es n) ∧ ∀ z : Str, ∃ r : Option Value, PySem.W.nsIn K p z = some r ∧ L2.RelO ((ks.zip vs).lookup z) r
section
variable (K : PySem.W.Frag) (κ : Kap)
mutual
inductive Rep (ι : List Addr) (F : Hp) : D → V → Prop
  | non : Rep ι F .non .non
  | bl (b : Bool) : Rep ι F (.bl b) (.bl b)
  | int (i : Int) : Rep ι F (.int i) (.int i)
  | str (z : Str) : Rep ι F (.str z) (.str z)
  | ty (n : String) : Rep ι F (.ty n) (.ty n)
  | cls (c : String) : Rep ι F (.cls c) (.ref (κ c))
  | tup {ds : List D} {a : Addr} {vs : List V} : PlainT K F a vs → RepL ι F ds vs → Rep ι F (.tup ds) (.ref a)
  | tuq {ds : List D} {a : Addr} {vs : List V} : SqT K F a vs → RepL ι F ds vs → Rep ι F (.tuq ds) (.ref a)
  | lst {ds : List D} {a : Addr} {vs : List V} : F a = some (.lst vs) → RepL ι F ds vs → Rep ι F (.lst ds) (.ref a)
  | lsk {ds : List D} {a : Addr} {vs : List V} : SqL K F a vs → RepL ι F ds vs → Rep ι F (.lsk ds) (.ref a)
  | dct {ks : List Key} {ds : List D} {a : Addr} {vs : List V} : Rd F a (.dK (ks.zip vs)) → ks.length = vs.length → RepL ι F ds vs → Rep ι F (.dct ks ds) (.ref a)
  | dtt {ks : List (List Key)} {ds : List D} {a : Addr} {vs : List V} : Rd F a (.dT (ks.zip vs)) → ks.length = vs.length → RepL ι F ds vs → Rep ι F (.dtt ks ds) (.ref a)
  | dck {ks : List Str} {ds : List D} {a : Addr} {vs : List V} : KDk K κ.w a ks vs → RepL ι F ds vs → Rep ι F (.dck ks ds) (.ref a)
  | obj {c : String} {ns : List String} {ds : List D} {a dx : Addr} {vs : List V} : F a = some (.ins (κ c) dx ((ns.map Str.ofString).zip vs)) → ns.length = vs.length → RepL ι F ds vs → Rep ι F (.obj c ns ds) (.ref a)
  | ref {i : Nat} {a : Addr} : ι[i]? = some a → Rep ι F (.ref i) (.ref a)
inductive RepL (ι : List Addr) (F : Hp) : List D → List V → Prop
  | nil : RepL ι F [] []
  | cons {d : D} {v : V} {ds : List D} {vs : List V} : Rep ι F d v → RepL ι F ds vs → RepL ι F (d :: ds) (v :: vs)
end
inductive RepO (ι : List Addr) (F : Hp) : AO → HO → Prop
  | lst {ds : List D} {vs : List V} : RepL K κ ι F ds vs → RepO ι F (.lst ds) (.lst vs)
  | dct {ks : List Key} {ds : List D} {vs : List V} : ks.length = vs.length → RepL K κ ι F ds vs → RepO ι F (.dct ks ds) (.dK (ks.zip vs))
  | dctL {ks : List Key} {ds : List D} {vs : List V} {od : Obj} : ks.length = vs.length → RepL K κ ι F ds vs → RepO ι F (.dctL ks ds) (.frz od (.dK (ks.zip vs)))
  | dtt {ks : List (List Key)} {ds : List D} {vs : List V} : ks.length = vs.length → RepL K κ ι F ds vs → RepO ι F (.dtt ks ds) (.dT (ks.zip vs))
  | dttL {ks : List (List Key)} {ds : List D} {vs : List V} {od : Obj} : ks.length = vs.length → RepL K κ ι F ds vs → RepO ι F (.dttL ks ds) (.frz od (.dT (ks.zip vs)))
  | obj {c : String} {ns : List String} {ds : List D} {dx : Addr} {vs : List V} : ns.length = vs.length → RepL K κ ι F ds vs → RepO ι F (.obj c ns ds) (.ins (κ c) dx ((ns.map Str.ofString).zip vs))
structure RelH (ι : List Addr) (F H : Hp) (M : AH) : Prop where
  le : Le F H
  tb : LamX.Tabs κ.T H
  nt : ∀ a ps, F a ≠ some (.tbl ps)
  len : ι.length = M.length
  nd : ι.Nodup
  dis : ∀ a, a ∈ ι → F a = none
  pl : ∀ (i : Nat) (o : AO), M[i]? = some o → ∃ a ho, ι[i]? = some a ∧ H a = some ho ∧ RepO K κ ι F o ho
end
structure Ext (ι : List Addr) (F H : Hp) (ι' : List Addr) (F' H' : Hp) : Prop where
  pre : ι <+: ι'
  frz : Same F F'
  frame : ∀ a o, H a = some o → (a ∉ ι ∨ ∃ od u, o = .frz od u) → (∀ ps, o ≠ .tbl ps) → H' a = some o ∨ (Lk o ∧ ∃ od, H' a = some (.frz od o))
  dom : ∀ a, Nn H' a → Nn H a
  nι : ∀ a, a ∈ ι' → a ∈ ι ∨ Nn H a
  nF : ∀ a o, F' a = some o → F a = some o ∨ Nn H a
theorem Ext.refl {ι : List Addr} {F H : Hp} : Ext ι F H ι F H := ⟨List.prefix_rfl, Same.refl _, fun _ _ h _ _ => .inl h, fun _ h => h, fun _ h => .inl h, fun _ _ h => .inl h⟩
theorem Ext.trans {ι ι1 ι2 : List Addr} {F H F1 H1 F2 H2 : Hp} (a : Ext ι F H ι1 F1 H1) (b : Ext ι1 F1 H1 ι2 F2 H2) : Ext ι F H ι2 F2 H2 where
  pre := a.pre.trans b.pre
  frz := a.frz.trans b.frz
  frame := fun x o h n t => by
    have n1 : ∀ {o' : HO}, H1 x = some o' → (o' = o ∨ ∃ od u, o' = .frz od u) → (x ∉ ι1 ∨ ∃ od u, o' = .frz od u) := fun {o'} _ ho => by
      rcases ho with rfl | ho
      · rcases n with n | n
        · exact .inl fun h1 => (a.nι x h1).elim n fun e => (e.no h t).elim
        · exact .inr n
      · exact .inr ho
    rcases a.frame x o h n t with q | ⟨l, od, q⟩
    · exact b.frame x o q (n1 q (.inl rfl)) t
    · rcases b.frame x _ q (n1 q (.inr ⟨_, _, rfl⟩)) (fun ps z => by cases z) with q2 | ⟨z, _⟩
      · exact .inr ⟨l, od, q2⟩
      · exact z.elim
  dom := fun x h => a.dom x (b.dom x h)
  nι := fun x h => (b.nι x h).elim (a.nι x) fun e => .inr (a.dom x e)
  nF := fun x o h => (b.nF x o h).elim (a.nF x o) fun e => .inr (a.dom x e)
section
variable {K : PySem.W.Frag} {κ : Kap} {ι ι' : List Addr} {F F' H H' : Hp} {M M' : AH}
theorem _root_.L2.SqT.monoF {a : Addr} {xs : List V} (h : SqT K F a xs) (s : Same F F') : SqT K F' a xs := by
  rcases h with h | h
  · rcases h with h | ⟨o, h⟩
    · exact .inl (.inl (s _ _ h))
    · exact .inl (.inr ⟨o, s _ _ h⟩)
  · exact .inr h
theorem _root_.L2.SqL.monoF {a : Addr} {xs : List V} (h : SqL K F a xs) (s : Same F F') : SqL K F' a xs := by
  rcases h with h | h
  · rcases h with h | ⟨o, h⟩
    · exact .inl (.inl (s _ _ h))
    · exact .inl (.inr ⟨o, s _ _ h⟩)
  · exact .inr h
theorem _root_.L2.SqT.monoL {a : Addr} {xs : List V} (h : SqT K F a xs) (s : Le F F') : SqT K F' a xs := by
  rcases h with h | h
  · rcases h with h | ⟨o, h⟩
    · exact .inl (.inl (s.ex h fun z => z))
    · exact .inl (.inr ⟨o, s.ex h fun z => z⟩)
  · exact .inr h
theorem _root_.L2.SqL.monoL {a : Addr} {xs : List V} (h : SqL K F a xs) (s : Le F F') : SqL K F' a xs := by
  rcases h with h | h
  · rcases h with h | ⟨o, h⟩
    · exact .inl (.inl (s.ex h fun z => z))
    · exact .inl (.inr ⟨o, s.ex h fun z => z⟩)
  · exact .inr h
theorem rd_same {a : Addr} {o : HO} (h : Rd F a o) (s : Same F F') : Rd F' a o := s.toLe.rd h
theorem pre_get {i : Nat} {a : Addr} (p : ι <+: ι') (h : ι[i]? = some a) : ι'[i]? = some a := by
  obtain ⟨r, rfl⟩ := p
  rw [List.getElem?_append_left (List.getElem?_eq_some_iff.mp h).1]
  exact h
mutual
theorem Rep.mono (p : ι <+: ι') (s : Same F F') {d : D} {v : V} : Rep K κ ι F d v → Rep K κ ι' F' d v
  | .non => .non
  | .bl b => .bl b
  | .int i => .int i
  | .str z => .str z
  | .ty n => .ty n
  | .cls c => .cls c
  | .tup h r => .tup (h.same s) (RepL.mono p s r)
  | .tuq h r => .tuq (h.monoF s) (RepL.mono p s r)
  | .lst h r => .lst (s _ _ h) (RepL.mono p s r)
  | .lsk h r => .lsk (h.monoF s) (RepL.mono p s r)
  | .dct h l r => .dct (rd_same h s) l (RepL.mono p s r)
  | .dtt h l r => .dtt (rd_same h s) l (RepL.mono p s r)
  | .dck h r => .dck h (RepL.mono p s r)
  | .obj h l r => .obj (s _ _ h) l (RepL.mono p s r)
  | .ref h => .ref (pre_get p h)
theorem RepL.mono (p : ι <+: ι') (s : Same F F') {ds : List D} {vs : List V} : RepL K κ ι F ds vs → RepL K κ ι' F' ds vs
  | .nil => .nil
  | .cons a b => .cons (Rep.mono p s a) (RepL.mono p s b)
end
theorem Rep.ext {d : D} {v : V} (e : Ext ι F H ι' F' H') (r : Rep K κ ι F d v) : Rep K κ ι' F' d v := r.mono e.pre e.frz
theorem RepL.ext {d : List D} {v : List V} (e : Ext ι F H ι' F' H') (r : RepL K κ ι F d v) : RepL K κ ι' F' d v := r.mono e.pre e.frz
theorem RepL.len : ∀ {ds : List D} {vs : List V}, RepL K κ ι F ds vs → ds.length = vs.length
  | _, _, .nil => rfl
  | _, _, .cons _ r => by simp [RepL.len r]
mutual
theorem Rep.clo {d : D} {v : V} : Rep K κ ι F d v → D.clo ι.length d = true
  | .non => by simp [D.clo]
  | .bl b => by simp [D.clo]
  | .int i => by simp [D.clo]
  | .str z => by simp [D.clo]
  | .ty n => by simp [D.clo]
  | .cls c => by simp [D.clo]
  | .tup h r => by simp only [D.clo]; exact RepL.clo r
  | .tuq h r => by simp only [D.clo]; exact RepL.clo r
  | .lst h r => by simp only [D.clo]; exact RepL.clo r
  | .lsk h r => by simp only [D.clo]; exact RepL.clo r
  | .dct h l r => by simp only [D.clo]; exact RepL.clo r
  | .dtt h l r => by simp only [D.clo]; exact RepL.clo r
  | .dck h r => by simp only [D.clo]; exact RepL.clo r
  | .obj h l r => by simp only [D.clo]; exact RepL.clo r
  | .ref h => by simp only [D.clo]; exact decide_eq_true (List.getElem?_eq_some_iff.mp h).1
theorem RepL.clo {ds : List D} {vs : List V} : RepL K κ ι F ds vs → D.cloL ι.length ds = true
  | .nil => by simp [D.cloL]
  | .cons a b => by simp only [D.cloL, Bool.and_eq_true]; exact ⟨Rep.clo a, RepL.clo b⟩
end
end
end G
namespace G
open PySem PySem.Spec PyProof.Rows L2

/-- what is wanted behind a step that gives r; R tells how what it gives is held -/
def Post {α β : Type} (K : PySem.W.Frag) (κ : Kap) (R : List Addr → Hp → α → β → Prop) (ι : List Addr) (F H : Hp) (r : Res α) (Q : β → Hp → Prop) (E : XK) : Prop := match r with
  | .ok d M' => ∀ v H' ι' F', Ext ι F H ι' F' H' → RelH K κ ι' F' H' M' → R ι' F' d v → Q v H'
  | .exc c none M' => ∀ H' ι' F', Ext ι F H ι' F' H' → RelH K κ ι' F' H' M' → E (.ref (κ c)) none H'
  | .exc c (some (ns, ds)) M' => ∀ e H' ι' F' vs, Nn H e → Ext ι F H ι' F' H' → RelH K κ ι' F' H' M' → ns.length = vs.length → RepL K κ ι' F' ds vs → H' e = some (.xd ((ns.map Str.ofString).zip vs)) → E (.ref (κ c)) (some e) H'
  | .stuck => False
/-- what is wanted of an exception, and what else is known of the names -/
structure EK where
  E : L2.St → XK
  χ : List Addr → L2.St → Hp → Hp → Prop
  mono : ∀ ι ι' σ F F' H H', Ext ι F H ι' F' H' → χ ι σ F H → χ ι' σ F' H'
def EK.plain (E : L2.St → XK) : EK := ⟨E, fun _ _ _ _ => True, fun _ _ _ _ _ _ _ _ _ => trivial⟩
def EK.of (E : XK) : EK := EK.plain fun _ => E
def EK.Free (E : EK) : Prop := ∀ ι σ F H i v, E.χ ι σ F H → E.χ ι (σ.set i v) F H
theorem free_plain {E : L2.St → XK} : (EK.plain E).Free := fun _ _ _ _ _ _ _ => trivial
theorem free_of {E : XK} : (EK.of E).Free := fun _ _ _ _ _ _ _ => trivial
/-- how the names are held -/
structure RelS (K : PySem.W.Frag) (κ : Kap) (E : EK) (ι : List Addr) (F H : Hp) (δ : AS) (σ : L2.St) : Prop where
  len : δ.length = σ.length
  pl : ∀ (i : Nat) (d : D), δ[i]? = some (some d) → ∃ v, σ[i]? = some (some v) ∧ Rep K κ ι F d v
  chi : E.χ ι σ F H
def SPost (K : PySem.W.Frag) (κ : Kap) (ι : List Addr) (F H : Hp) (r : SRes) (T : Ends) (E : EK) : Prop := match r with
  | .nx δ M' => ∀ σ' H' ι' F', Ext ι F H ι' F' H' → RelH K κ ι' F' H' M' → RelS K κ E ι' F' H' δ σ' → T.nx σ' H'
  | .bk δ M' => ∀ σ' H' ι' F', Ext ι F H ι' F' H' → RelH K κ ι' F' H' M' → RelS K κ E ι' F' H' δ σ' → T.bk σ' H'
  | .ct δ M' => ∀ σ' H' ι' F', Ext ι F H ι' F' H' → RelH K κ ι' F' H' M' → RelS K κ E ι' F' H' δ σ' → T.ct σ' H'
  | .rt d M' => ∀ v H' ι' F', Ext ι F H ι' F' H' → RelH K κ ι' F' H' M' → Rep K κ ι' F' d v → T.rt v H'
  | .exc c none δ M' => ∀ σ' H' ι' F', Ext ι F H ι' F' H' → RelH K κ ι' F' H' M' → RelS K κ E ι' F' H' δ σ' → E.E σ' (.ref (κ c)) none H'
  | .exc c (some (ns, ds)) δ M' => ∀ σ' e H' ι' F' vs, Nn H e → Ext ι F H ι' F' H' → RelH K κ ι' F' H' M' → RelS K κ E ι' F' H' δ σ' → ns.length = vs.length → RepL K κ ι' F' ds vs → H' e = some (.xd ((ns.map Str.ofString).zip vs)) → E.E σ' (.ref (κ c)) (some e) H'
  | .stuck => False
section
variable {K : PySem.W.Frag} {κ : Kap} {ι ι' : List Addr} {F F' H H' : Hp} {M M' : AH}
theorem RelS.ext {E : EK} {δ : AS} {σ : L2.St} (h : RelS K κ E ι F H δ σ) (e : Ext ι F H ι' F' H') : RelS K κ E ι' F' H' δ σ := ⟨h.len, fun i d q => (h.pl i d q).imp fun _ x => ⟨x.1, x.2.ext e⟩, E.mono _ _ _ _ _ _ _ e h.chi⟩
theorem RelS.set {E : EK} {δ : AS} {σ : L2.St} (h : RelS K κ E ι F H δ σ) (hf : E.Free) {d : D} {v : V} (r : Rep K κ ι F d v) (i : Nat) : RelS K κ E ι F H (δ.set i (some d)) (σ.set i (some v)) := by
  refine ⟨by simp [h.len], fun j e q => ?_, hf _ _ _ _ _ _ h.chi⟩
  by_cases hj : i = j
  · subst hj
    rw [List.getElem?_set_self'] at q
    cases hd : δ[i]? with
    | none => rw [hd] at q; cases q
    | some x =>
      rw [hd] at q
      have hi : i < σ.length := by rw [← h.len]; exact (List.getElem?_eq_some_iff.mp hd).1
      cases q
      exact ⟨v, by rw [List.getElem?_set_self hi], r⟩
  · rw [List.getElem?_set_ne hj] at q ⊢
    exact h.pl j e q
theorem Post.mono {α β : Type} {R : List Addr → Hp → α → β → Prop} {r : Res α} {Q Q' : β → Hp → Prop} {E : XK} (e : Ext ι F H ι' F' H') (h : Post K κ R ι F H r Q E) (hq : ∀ v H, Q v H → Q' v H) : Post K κ R ι' F' H' r Q' E := by
  unfold Post at h ⊢
  split
  · exact fun v H2 ι2 F2 e2 r2 q2 => hq _ _ (h v H2 ι2 F2 (e.trans e2) r2 q2)
  · exact fun H2 ι2 F2 e2 r2 => h H2 ι2 F2 (e.trans e2) r2
  · exact fun x H2 ι2 F2 vs n2 e2 r2 => h x H2 ι2 F2 vs (e.dom _ n2) (e.trans e2) r2
  · exact h
theorem SPost.mono {r : SRes} {T : Ends} {E : EK} (e : Ext ι F H ι' F' H') (h : SPost K κ ι F H r T E) : SPost K κ ι' F' H' r T E := by
  unfold SPost at h ⊢
  split <;> first
    | exact fun v H2 ι2 F2 e2 r2 q2 => h v H2 ι2 F2 (e.trans e2) r2 q2
    | exact fun x y H2 ι2 F2 vs n2 e2 r2 => h x y H2 ι2 F2 vs (e.dom _ n2) (e.trans e2) r2
    | exact h
/-- a step, then another one -/
theorem Post.bind {α β γ ε : Type} {R : List Addr → Hp → α → β → Prop} {S : List Addr → Hp → γ → ε → Prop} {r : Res α} {k : α → AH → Res γ} {Q : ε → Hp → Prop} {E : XK} (h : Post K κ S ι F H (r.bind k) Q E) :
    Post K κ R ι F H r (fun v H1 => ∃ d M1 ι1 F1, Ext ι F H ι1 F1 H1 ∧ RelH K κ ι1 F1 H1 M1 ∧ R ι1 F1 d v ∧ Post K κ S ι1 F1 H1 (k d M1) Q E) E := by
  unfold Res.bind at h
  cases r with
  | ok d M1 => exact fun v H1 ι1 F1 e rh rd => ⟨d, M1, ι1, F1, e, rh, rd, Post.mono e h fun _ _ x => x⟩
  | exc c p M1 =>
    cases p with
    | none => exact h
    | some p => exact h
  | stuck => exact h
theorem SPost.thenS {α β : Type} {R : List Addr → Hp → α → β → Prop} {r : Res α} {k : α → AH → SRes} {δ : AS} {σ : L2.St} {T : Ends} {E : EK} (hs : RelS K κ E ι F H δ σ) (h : SPost K κ ι F H (r.thenS δ k) T E) :
    Post K κ R ι F H r (fun v H1 => ∃ d M1 ι1 F1, Ext ι F H ι1 F1 H1 ∧ RelH K κ ι1 F1 H1 M1 ∧ R ι1 F1 d v ∧ SPost K κ ι1 F1 H1 (k d M1) T E) (E.E σ) := by
  unfold Res.thenS at h
  cases r with
  | ok d M1 => exact fun v H1 ι1 F1 e rh rd => ⟨d, M1, ι1, F1, e, rh, rd, SPost.mono e h⟩
  | exc c p M1 =>
    cases p with
    | none => exact fun H1 ι1 F1 e rh => h σ H1 ι1 F1 e rh (hs.ext e)
    | some p => exact fun x H1 ι1 F1 vs n e rh => h σ x H1 ι1 F1 vs n e rh (hs.ext e)
  | stuck => exact h
/-- an answer that is at hand -/
theorem Post.here {α β : Type} {R : List Addr → Hp → α → β → Prop} {d : α} {v : β} {Q : β → Hp → Prop} {E : XK} (h : Post K κ R ι F H (.ok d M) Q E) (rh : RelH K κ ι F H M) (r : R ι F d v) : Q v H := h v H ι F Ext.refl rh r

/-! ### changes of the heap -/
theorem getAt {α : Type} {l : List α} {i j : Nat} {a : α} (nd : l.Nodup) (hi : l[i]? = some a) (hj : l[j]? = some a) : i = j := by
  obtain ⟨h1, e1⟩ := List.getElem?_eq_some_iff.mp hi
  obtain ⟨h2, e2⟩ := List.getElem?_eq_some_iff.mp hj
  exact (List.getElem_inj nd).mp (e1.trans e2.symm)
/-- tables are kept -/
theorem tabs_keep {T : List (Addr × Str)} (t : LamX.Tabs T H) (k : ∀ b o, H b = some o → (∀ ps, o ≠ .tbl ps) → (∀ φ, o = .ext φ → H' b = some o)) (kt : ∀ b ps, H b = some (.tbl ps) → H' b = some (.tbl ps)) : LamX.Tabs T H' := fun p hp => by
  obtain ⟨ps, h1, h2, h3⟩ := t p hp
  refine ⟨ps, kt _ _ h1, h2, fun pos cv hc => ?_⟩
  obtain ⟨c, e1, e2⟩ := h3 pos cv hc
  exact ⟨c, e1, k _ _ e2 LamX.codeO_ne _ rfl⟩
theorem tabs_same {T : List (Addr × Str)} (t : LamX.Tabs T H) (s : Same H H') : LamX.Tabs T H' := tabs_keep t (fun b o h _ _ _ => s _ _ h) fun b ps h => s _ _ h
/-- a new thing that never changes -/
theorem RelH.newF (h : RelH K κ ι F H M) {p : Addr} (hp : H p = none) (o : HO) (ht : ∀ ps, o ≠ .tbl ps := by intro ps z; cases z) : Ext ι F H ι (upd F p o) (upd H p o) ∧ RelH K κ ι (upd F p o) (upd H p o) M := by
  have fp : F p = none := by
    cases e : F p with
    | none => rfl
    | some o => rw [h.le.none hp] at e; cases e
  have pn : p ∉ ι := fun hm => by
    obtain ⟨i, hi⟩ := List.mem_iff_getElem?.mp hm
    have : i < M.length := by rw [← h.len]; exact (List.getElem?_eq_some_iff.mp hi).1
    obtain ⟨a, ho, e1, e2, _⟩ := h.pl i M[i] (List.getElem?_eq_getElem this)
    rw [hi] at e1
    cases e1
    rw [hp] at e2
    cases e2
  have sF : Same F (upd F p o) := sameI fp
  refine ⟨⟨List.prefix_rfl, sF, fun a u e _ _ => .inl (sameI hp a u e), fun a e => ?_, fun a h => .inl h, fun a u e => ?_⟩, ⟨fun a u e => ?_, tabs_same h.tb (sameI hp), fun a ps e => ?_, h.len, h.nd, fun a ha => ?_, fun i u e => ?_⟩⟩
  · exact e.upd fun z => by rw [z]; exact .inl hp
  · by_cases ha : a = p
    · rw [ha]; exact .inr (.inl hp)
    · rw [upd_ne ha] at e; exact .inl e
  · by_cases ha : a = p
    · rw [ha, upd_same] at e ⊢; exact .inl e
    · rw [upd_ne ha] at e ⊢; exact h.le _ _ e
  · by_cases ha : a = p
    · rw [ha, upd_same] at e; exact ht ps (Option.some.inj e)
    · rw [upd_ne ha] at e; exact h.nt _ _ e
  · rw [upd_ne (fun e => by rw [e] at ha; exact pn ha)]
    exact h.dis a ha
  · obtain ⟨a, ho, e1, e2, r⟩ := h.pl i u e
    refine ⟨a, ho, e1, sameI hp _ _ e2, ?_⟩
    cases r with
    | lst r => exact .lst (r.mono List.prefix_rfl sF)
    | dct l r => exact .dct l (r.mono List.prefix_rfl sF)
    | dctL l r => exact .dctL l (r.mono List.prefix_rfl sF)
    | dtt l r => exact .dtt l (r.mono List.prefix_rfl sF)
    | dttL l r => exact .dttL l (r.mono List.prefix_rfl sF)
    | obj l r => exact .obj l (r.mono List.prefix_rfl sF)
theorem RepO.mono {o : AO} {ho : HO} (p : ι <+: ι') (s : Same F F') (r : RepO K κ ι F o ho) : RepO K κ ι' F' o ho := by
  cases r with
  | lst r => exact .lst (r.mono p s)
  | dct l r => exact .dct l (r.mono p s)
  | dctL l r => exact .dctL l (r.mono p s)
  | dtt l r => exact .dtt l (r.mono p s)
  | dttL l r => exact .dttL l (r.mono p s)
  | obj l r => exact .obj l (r.mono p s)
/-- an address that is held is taken -/
theorem RelH.taken (h : RelH K κ ι F H M) {a : Addr} (ha : a ∈ ι) : ∃ (i : Nat) (o : AO) (ho : HO), ι[i]? = some a ∧ M[i]? = some o ∧ H a = some ho ∧ RepO K κ ι F o ho := by
  obtain ⟨i, hi⟩ := List.mem_iff_getElem?.mp ha
  have hl : i < M.length := by rw [← h.len]; exact (List.getElem?_eq_some_iff.mp hi).1
  obtain ⟨a', ho, e1, e2, r⟩ := h.pl i M[i] (List.getElem?_eq_getElem hl)
  rw [hi] at e1
  cases e1
  exact ⟨i, _, ho, hi, List.getElem?_eq_getElem hl, e2, r⟩
theorem RelH.notin (h : RelH K κ ι F H M) {p : Addr} (hp : H p = none) : p ∉ ι := fun hm => by
  obtain ⟨i, o, ho, _, _, e, _⟩ := h.taken hm
  rw [hp] at e
  cases e
theorem RelH.freeF (h : RelH K κ ι F H M) {p : Addr} (hp : H p = none) : F p = none := by
  cases e : F p with
  | none => rfl
  | some o => rw [h.le.none hp] at e; cases e
/-- a thing that was made beside is taken in -/
theorem RelH.adopt (h : RelH K κ ι F H M) {p : Addr} {o : AO} {ho : HO} (hp : H p = some ho) (hF : F p = none) (hn : p ∉ ι) (r : RepO K κ ι F o ho) : RelH K κ (ι ++ [p]) F H (M ++ [o]) := by
  refine ⟨h.le, h.tb, h.nt, by simp [h.len], ?_, fun a ha => ?_, fun i u e => ?_⟩
  · rw [List.nodup_append]
    exact ⟨h.nd, by simp, fun a ha b hb => by
      have : b = p := by simpa using hb
      subst this
      exact fun e => by rw [e] at ha; exact hn ha⟩
  · rcases List.mem_append.mp ha with ha | ha
    · exact h.dis a ha
    · have : a = p := by simpa using ha
      rw [this]; exact hF
  · by_cases hi : i < M.length
    · rw [List.getElem?_append_left hi] at e
      obtain ⟨a, ho', e1, e2, r'⟩ := h.pl i u e
      exact ⟨a, ho', pre_get (List.prefix_append ..) e1, e2, r'.mono (List.prefix_append ..) (Same.refl _)⟩
    · rw [List.getElem?_append_right (by omega)] at e
      have hi0 : i - M.length = 0 := by
        have := (List.getElem?_eq_some_iff.mp e).1
        simp at this
        omega
      rw [hi0] at e
      cases e
      refine ⟨p, ho, ?_, hp, r.mono (List.prefix_append ..) (Same.refl _)⟩
      have : i = ι.length := by have := h.len; omega
      rw [this]
      simp
/-- a new thing that may change -/
theorem RelH.new (h : RelH K κ ι F H M) {p : Addr} {o : AO} {ho : HO} (hp : H p = none) (r : RepO K κ ι F o ho) : Ext ι F H (ι ++ [p]) F (upd H p ho) ∧ RelH K κ (ι ++ [p]) F (upd H p ho) (M ++ [o]) ∧ (ι ++ [p])[M.length]? = some p := by
  have h1 : RelH K κ ι F (upd H p ho) M := ⟨h.le.trans (Same.toLe (sameI hp)), tabs_same h.tb (sameI hp), h.nt, h.len, h.nd, h.dis, fun i u e => by
    obtain ⟨a, ho', e1, e2, r'⟩ := h.pl i u e
    exact ⟨a, ho', e1, sameI hp _ _ e2, r'⟩⟩
  refine ⟨⟨List.prefix_append .., Same.refl _, fun a u e _ _ => .inl (sameI hp a u e), fun a e => ?_, fun a ha => ?_, fun a u e => .inl e⟩, h1.adopt upd_same (h.freeF hp) (h.notin hp) r, by rw [← h.len]; simp⟩
  · exact e.upd fun z => by rw [z]; exact .inl hp
  · rcases List.mem_append.mp ha with ha | ha
    · exact .inl ha
    · have : a = p := by simpa using ha
      rw [this]; exact .inr (.inl hp)
/-- a thing that is held is no table, and is locked only as a dict -/
theorem RepO.noTbl {o : AO} {ho : HO} (r : RepO K κ ι F o ho) : (∀ ps, ho ≠ .tbl ps) ∧ ∀ φ, ho ≠ .ext φ := by
  cases r <;> exact ⟨(fun _ z => by cases z), (fun _ z => by cases z)⟩
/-- what is not locked -/
def AO.open : AO → Bool
  | .dctL _ _ => false
  | .dttL _ _ => false
  | _ => true
theorem RepO.noFrz {o : AO} {ho : HO} (r : RepO K κ ι F o ho) (h : o.open = true) : ∀ od u, ho ≠ .frz od u := by
  cases r <;> first
    | (cases h; done)
    | exact fun _ _ z => by cases z
/-- what may change changes -/
theorem RelH.put (h : RelH K κ ι F H M) {i : Nat} {a : Addr} {o o0 : AO} {ho : HO} (ha : ι[i]? = some a) (h0 : M[i]? = some o0) (ho0 : o0.open = true) (r : RepO K κ ι F o ho) : Ext ι F H ι F (upd H a ho) ∧ RelH K κ ι F (upd H a ho) (M.set i o) := by
  have hm : a ∈ ι := List.mem_iff_getElem?.mpr ⟨i, ha⟩
  obtain ⟨b, hb, e1, hHa, ra⟩ := h.pl i o0 h0
  rw [ha] at e1
  cases e1
  have nt := ra.noTbl
  have nf := ra.noFrz ho0
  refine ⟨⟨List.prefix_rfl, Same.refl _, fun b u e n t => .inl (by
      rw [upd_ne (fun z => by
        rw [z, hHa] at e
        cases e
        rcases n with n | ⟨od, u, n⟩
        · exact n (z ▸ hm)
        · exact nf _ _ n)]
      exact e), fun b e => ?_, fun b hb => .inl hb, fun b u e => .inl e⟩, ⟨fun b u e => ?_, ?_, h.nt, by simp [h.len], h.nd, h.dis, fun j u e => ?_⟩⟩
  · by_cases hb : b = a
    · rw [hb] at e
      exact (e.no upd_same r.noTbl.1).elim
    · exact e.upd fun z => (hb z).elim
  · have hb : b ≠ a := fun z => by
      rw [z, h.dis a hm] at e
      cases e
    rw [upd_ne hb]
    exact h.le _ _ e
  · refine tabs_keep h.tb (fun b o e t φ hφ => ?_) fun b ps e => ?_
    · rw [upd_ne (fun z => by rw [z, hHa] at e; cases e; exact nt.2 _ hφ)]; exact e
    · rw [upd_ne (fun z => by rw [z, hHa] at e; cases e; exact nt.1 _ rfl)]; exact e
  · by_cases hj : i = j
    · subst hj
      rw [List.getElem?_set_self (by rw [← h.len]; exact (List.getElem?_eq_some_iff.mp ha).1)] at e
      cases e
      exact ⟨a, ho, ha, upd_same, r⟩
    · rw [List.getElem?_set_ne hj] at e
      obtain ⟨b, ho', e1, e2, r'⟩ := h.pl j u e
      have hb : b ≠ a := fun z => hj (getAt h.nd ha (z ▸ e1))
      exact ⟨b, ho', e1, by rw [upd_ne hb]; exact e2, r'⟩
/-- what stands at a place -/
theorem RelH.at_ (h : RelH K κ ι F H M) {i : Nat} {a : Addr} {o : AO} (ha : ι[i]? = some a) (ho : M[i]? = some o) : ∃ u, H a = some u ∧ RepO K κ ι F o u := by
  obtain ⟨b, u, e1, e2, r⟩ := h.pl i o ho
  rw [ha] at e1
  cases e1
  exact ⟨u, e2, r⟩
end
end G
namespace G
open PySem PySem.Spec PyProof.Rows L2
/-! ### a def's end: what is new stands whole in the answer, the rest is let go -/
def frzN : Nat := 12
def fin (M : AH) (r : Res D) : Res D := match r with
  | .ok d M' => if okOld M M' then (match frz M' M.length frzN d with | some d' => .ok d' (M'.take M.length) | none => .stuck) else .stuck
  | .exc c none M' => if okOld M M' then .exc c none (M'.take M.length) else .stuck
  | .exc c (some (ns, ds)) M' => if okOld M M' then (match frzL M' M.length frzN ds with | some ds' => .exc c (some (ns, ds')) (M'.take M.length) | none => .stuck) else .stuck
  | .stuck => .stuck
open Classical in
noncomputable def Fz (ι' : List Addr) (n : Nat) (F' H' : Hp) : Hp := fun a => if a ∈ ι'.drop n then H' a else F' a
section
variable {K : PySem.W.Frag} {κ : Kap} {ι ι' : List Addr} {F F' H H' : Hp} {M M' : AH} {n : Nat}
theorem drop_some (h : RelH K κ ι' F' H' M') {a : Addr} (ha : a ∈ ι'.drop n) : F' a = none := h.dis a (List.mem_of_mem_drop ha)
theorem Fz_same (h : RelH K κ ι' F' H' M') : Same F' (Fz ι' n F' H') := fun a u e => by
  unfold Fz
  by_cases ha : a ∈ ι'.drop n
  · rw [drop_some h ha] at e; cases e
  · rw [if_neg ha]; exact e
theorem Fz_le (h : RelH K κ ι' F' H' M') : Le (Fz ι' n F' H') H' := fun a u e => by
  unfold Fz at e
  split at e
  · exact .inl e
  · exact h.le _ _ e
theorem take_get {i : Nat} {a : Addr} (h : ι'[i]? = some a) (hi : i < n) : (ι'.take n)[i]? = some a := by
  rw [List.getElem?_take, if_pos hi]; exact h
mutual
theorem Rep.take (s : Same F F') {d : D} {v : V} : Rep K κ ι' F d v → D.clo n d = true → Rep K κ (ι'.take n) F' d v
  | .non, _ => .non
  | .bl b, _ => .bl b
  | .int i, _ => .int i
  | .str z, _ => .str z
  | .ty n, _ => .ty n
  | .cls c, _ => .cls c
  | .tup h r, c => .tup (h.same s) (RepL.take s r (by simpa only [D.clo] using c))
  | .tuq h r, c => .tuq (h.monoF s) (RepL.take s r (by simpa only [D.clo] using c))
  | .lst h r, c => .lst (s _ _ h) (RepL.take s r (by simpa only [D.clo] using c))
  | .lsk h r, c => .lsk (h.monoF s) (RepL.take s r (by simpa only [D.clo] using c))
  | .dct h l r, c => .dct (rd_same h s) l (RepL.take s r (by simpa only [D.clo] using c))
  | .dtt h l r, c => .dtt (rd_same h s) l (RepL.take s r (by simpa only [D.clo] using c))
  | .dck h r, c => .dck h (RepL.take s r (by simpa only [D.clo] using c))
  | .obj h l r, c => .obj (s _ _ h) l (RepL.take s r (by simpa only [D.clo] using c))
  | .ref h, c => .ref (take_get h (by simpa only [D.clo, decide_eq_true_eq] using c))
theorem RepL.take (s : Same F F') {ds : List D} {vs : List V} : RepL K κ ι' F ds vs → D.cloL n ds = true → RepL K κ (ι'.take n) F' ds vs
  | .nil, _ => .nil
  | .cons a b, c => by
    simp only [D.cloL, Bool.and_eq_true] at c
    exact .cons (Rep.take s a c.1) (RepL.take s b c.2)
end
theorem RepO.take (s : Same F F') {o : AO} {u : HO} (r : RepO K κ ι' F o u) (c : AO.clo n o = true) : RepO K κ (ι'.take n) F' o u := by
  cases r with
  | lst r => exact .lst (r.take s c)
  | dct l r => exact .dct l (r.take s c)
  | dctL l r => exact .dctL l (r.take s c)
  | dtt l r => exact .dtt l (r.take s c)
  | dttL l r => exact .dttL l (r.take s c)
  | obj l r => exact .obj l (r.take s c)
theorem RepO.clo {o : AO} {u : HO} (r : RepO K κ ι F o u) : AO.clo ι.length o = true := by
  cases r with
  | lst r => exact r.clo
  | dct l r => exact r.clo
  | dctL l r => exact r.clo
  | dtt l r => exact r.clo
  | dttL l r => exact r.clo
  | obj l r => exact r.clo
theorem mem_drop_of {i : Nat} {a : Addr} (h : ι'[i]? = some a) (hi : n ≤ i) : a ∈ ι'.drop n := by
  refine List.mem_iff_getElem?.mpr ⟨i - n, ?_⟩
  rw [List.getElem?_drop]
  have : n + (i - n) = i := by omega
  rw [this]
  exact h
mutual
theorem frz_rep (h : RelH K κ ι' F' H' M') : ∀ (k : Nat) (d d' : D) (v : V), frz M' n k d = some d' → Rep K κ ι' F' d v → Rep K κ (ι'.take n) (Fz ι' n F' H') d' v := fun k d d' v e r => by
  unfold frz at e
  by_cases hc : D.clo n d = true
  · rw [if_pos hc] at e
    cases e
    exact r.take (Fz_same h) hc
  · rw [if_neg hc] at e
    cases k with
    | zero => cases e
    | succ k =>
      have ih := frzL_rep h k
      cases r with
      | non => simp [D.clo] at hc
      | bl b => simp [D.clo] at hc
      | int i => simp [D.clo] at hc
      | str z => simp [D.clo] at hc
      | ty n => simp [D.clo] at hc
      | cls c => simp [D.clo] at hc
      | tup q r =>
        obtain ⟨x, hx, rfl⟩ := Option.map_eq_some_iff.mp e
        exact .tup (q.same (Fz_same h)) (ih _ _ _ hx r)
      | tuq q r =>
        obtain ⟨x, hx, rfl⟩ := Option.map_eq_some_iff.mp e
        exact .tuq (q.monoF (Fz_same h)) (ih _ _ _ hx r)
      | lst q r =>
        obtain ⟨x, hx, rfl⟩ := Option.map_eq_some_iff.mp e
        exact .lst (Fz_same h _ _ q) (ih _ _ _ hx r)
      | lsk q r =>
        obtain ⟨x, hx, rfl⟩ := Option.map_eq_some_iff.mp e
        exact .lsk (q.monoF (Fz_same h)) (ih _ _ _ hx r)
      | dct q l r =>
        obtain ⟨x, hx, rfl⟩ := Option.map_eq_some_iff.mp e
        exact .dct (rd_same q (Fz_same h)) l (ih _ _ _ hx r)
      | dtt q l r =>
        obtain ⟨x, hx, rfl⟩ := Option.map_eq_some_iff.mp e
        exact .dtt (rd_same q (Fz_same h)) l (ih _ _ _ hx r)
      | dck q r =>
        obtain ⟨x, hx, rfl⟩ := Option.map_eq_some_iff.mp e
        exact .dck q (ih _ _ _ hx r)
      | obj q l r =>
        obtain ⟨x, hx, rfl⟩ := Option.map_eq_some_iff.mp e
        exact .obj (Fz_same h _ _ q) l (ih _ _ _ hx r)
      | @ref i a q =>
        have hi : n ≤ i := by
          simp only [D.clo, decide_eq_true_eq] at hc
          omega
        have hm := mem_drop_of q hi
        have e1 : Fz ι' n F' H' a = H' a := by unfold Fz; rw [if_pos hm]
        simp only at e
        cases hM : M'[i]? with
        | none => rw [hM] at e; cases e
        | some o =>
          rw [hM] at e
          obtain ⟨u, hu, ru⟩ := h.at_ q hM
          cases ru with
          | lst ru =>
            obtain ⟨x, hx, rfl⟩ := Option.map_eq_some_iff.mp e
            exact .lst (e1.trans hu) (ih _ _ _ hx ru)
          | dct l ru =>
            obtain ⟨x, hx, rfl⟩ := Option.map_eq_some_iff.mp e
            exact .dct (.inl (e1.trans hu)) l (ih _ _ _ hx ru)
          | dctL l ru =>
            obtain ⟨x, hx, rfl⟩ := Option.map_eq_some_iff.mp e
            exact .dct (.inr ⟨_, e1.trans hu⟩) l (ih _ _ _ hx ru)
          | dtt l ru =>
            obtain ⟨x, hx, rfl⟩ := Option.map_eq_some_iff.mp e
            exact .dtt (.inl (e1.trans hu)) l (ih _ _ _ hx ru)
          | dttL l ru =>
            obtain ⟨x, hx, rfl⟩ := Option.map_eq_some_iff.mp e
            exact .dtt (.inr ⟨_, e1.trans hu⟩) l (ih _ _ _ hx ru)
          | obj l ru =>
            obtain ⟨x, hx, rfl⟩ := Option.map_eq_some_iff.mp e
            exact .obj (e1.trans hu) l (ih _ _ _ hx ru)
  termination_by k d => (k, 0)
theorem frzL_rep (h : RelH K κ ι' F' H' M') : ∀ (k : Nat) (ds ds' : List D) (vs : List V), frzL M' n k ds = some ds' → RepL K κ ι' F' ds vs → RepL K κ (ι'.take n) (Fz ι' n F' H') ds' vs := fun k ds ds' vs e r => by
  cases ds with
  | nil =>
    unfold frzL at e
    cases r
    cases e
    exact .nil
  | cons d ds =>
    unfold frzL at e
    cases r with
    | cons a b =>
      cases e1 : frz M' n k d with
      | none => rw [e1] at e; cases e
      | some x =>
        cases e2 : frzL M' n k ds with
        | none => rw [e1, e2] at e; cases e
        | some y =>
          rw [e1, e2] at e
          cases e
          exact .cons (frz_rep h k d x _ e1 a) (frzL_rep h k ds y _ e2 b)
  termination_by k ds => (k, ds.length + 1)
end
theorem okOld_at (h : okOld M M' = true) {i : Nat} (hi : i < M.length) : ∃ a b, M[i]? = some a ∧ M'[i]? = some b ∧ (b = a ∨ AO.clo M.length b = true) := by
  have q := List.all_eq_true.mp h i (List.mem_range.mpr hi)
  cases ha : M[i]? with
  | none => rw [ha] at q; cases q
  | some a =>
    cases hb : M'[i]? with
    | none => rw [ha, hb] at q; cases q
    | some b =>
      rw [ha, hb] at q
      rcases Bool.or_eq_true_iff.mp q with q | q
      · exact ⟨a, b, rfl, rfl, .inl (AO.beq_eq q)⟩
      · exact ⟨a, b, rfl, rfl, .inr q⟩
/-- what is new is let go -/
theorem fin_ext (h : RelH K κ ι F H M) (e : Ext ι F H ι' F' H') (h' : RelH K κ ι' F' H' M') (ok : okOld M M' = true) :
    ι'.take M.length = ι ∧ Ext ι F H ι (Fz ι' M.length F' H') H' ∧ RelH K κ ι (Fz ι' M.length F' H') H' (M'.take M.length) := by
  have hl := h.len
  have ht : ι'.take M.length = ι := by
    obtain ⟨r, hr⟩ := e.pre
    rw [← hr, ← hl, List.take_left]
  have hd : ∀ a, a ∈ ι → a ∉ ι'.drop M.length := fun a ha hb => by
    have nd := h'.nd
    rw [← List.take_append_drop M.length ι', ht, List.nodup_append] at nd
    exact nd.2.2 a ha a hb rfl
  refine ⟨ht, ⟨List.prefix_rfl, e.frz.trans (Fz_same h'), e.frame, e.dom, fun a ha => .inl ha, fun a u q => ?_⟩, ⟨Fz_le h', h'.tb, fun a ps q => ?_, ?_, h.nd, fun a ha => ?_, fun i o q => ?_⟩⟩
  · unfold Fz at q
    by_cases ha : a ∈ ι'.drop M.length
    · refine (e.nι a (List.mem_of_mem_drop ha)).elim (fun z => absurd ha (hd a z)) .inr
    · rw [if_neg ha] at q
      exact e.nF a u q
  · unfold Fz at q
    split at q
    · rename_i ha
      obtain ⟨_, _, _, _, _, e, r⟩ := h'.taken (List.mem_of_mem_drop ha)
      rw [q] at e
      cases e
      cases r
    · exact h'.nt _ _ q
  · rw [List.length_take]
    have h1 : M.length ≤ M'.length := by
      rw [← h'.len, ← hl]
      exact e.pre.length_le
    omega
  · unfold Fz
    rw [if_neg (hd a ha)]
    exact h'.dis a (e.pre.subset ha)
  · rw [List.getElem?_take] at q
    split at q
    · rename_i hi
      obtain ⟨a, ho, e1, e2, r⟩ := h'.pl i o q
      obtain ⟨x, y, hx, hy, hxy⟩ := okOld_at ok hi
      rw [q] at hy
      cases hy
      have hc : AO.clo M.length o = true := by
        rcases hxy with z | z
        · obtain ⟨_, _, _, _, r0⟩ := h.pl i x hx
          rw [z, ← hl]
          exact r0.clo
        · exact z
      refine ⟨a, ho, ?_, e2, ?_⟩
      · rw [← ht]; exact take_get e1 hi
      · rw [← ht]
        exact r.take (Fz_same h') hc
    · cases q
theorem fin_post {r : Res D} {Q : VK} {E : XK} (h : RelH K κ ι F H M) (p : Post K κ (Rep K κ) ι F H (fin M r) Q E) : Post K κ (Rep K κ) ι F H r Q E := by
  cases r with
  | ok d M' =>
    intro v H' ι' F' e h' rd
    simp only [fin] at p
    split at p
    · rename_i ok
      obtain ⟨ht, e2, h2⟩ := fin_ext h e h' ok
      cases hf : frz M' M.length frzN d with
      | none => rw [hf] at p; exact p.elim
      | some d' =>
        rw [hf] at p
        have r2 := frz_rep h' frzN d d' v hf rd
        rw [ht] at r2
        exact p v H' ι _ e2 h2 r2
    · exact p.elim
  | exc c q M' =>
    cases q with
    | none =>
      intro H' ι' F' e h'
      simp only [fin] at p
      split at p
      · rename_i ok
        obtain ⟨ht, e2, h2⟩ := fin_ext h e h' ok
        exact p H' ι _ e2 h2
      · exact p.elim
    | some q =>
      obtain ⟨ns, ds⟩ := q
      intro x H' ι' F' vs nx e h' hl rd hx
      simp only [fin] at p
      split at p
      · rename_i ok
        obtain ⟨ht, e2, h2⟩ := fin_ext h e h' ok
        cases hf : frzL M' M.length frzN ds with
        | none => rw [hf] at p; exact p.elim
        | some d' =>
          rw [hf] at p
          have r2 := frzL_rep h' frzN ds d' vs hf rd
          rw [ht] at r2
          exact p x H' ι _ vs nx e2 h2 hl r2 hx
      · exact p.elim
  | stuck => exact p.elim

/-! ### defs -/
/-- what a def does, told of data -/
abbrev FD := List D → AH → Res D
def outS (r : SRes) : Res D := match r with
  | .nx _ M => .ok .non M
  | .rt d M => .ok d M
  | .exc c p _ M => .exc c p M
  | _ => .stuck
def fnF (n p : Nat) (fs : AS → AH → SRes) : FD := fun ds M => if ds.length = p then fin M (outS (fs (ds.map some ++ List.replicate (n - ds.length) none) M)) else .stuck
def conc (K : PySem.W.Frag) (κ : Kap) (f : FD) : Sp := fun vs H Q E => ∃ ds M ι F, RelH K κ ι F H M ∧ RepL K κ ι F ds vs ∧ Post K κ (Rep K κ) ι F H (f ds M) Q E
/-- a block, lifted -/
def LS (K : PySem.W.Frag) (κ : Kap) (E : EK) (t : TS) (f : AS → AH → SRes) : Prop := ∀ σ δ H M ι F T, RelS K κ E ι F H δ σ → RelH K κ ι F H M → SPost K κ ι F H (f δ M) T E → t T σ H
theorem conc_len {N ps : List Str} {fs : AS → AH → SRes} (vs : List V) (H : Hp) (Q : VK) (E : XK) (h : conc K κ (fnF N.length ps.length fs) vs H Q E) : vs.length = ps.length := by
  obtain ⟨ds, M, ι, F, rh, rd, p⟩ := h
  unfold fnF at p
  split at p
  · rename_i hl
    rw [← rd.len, hl]
  · exact p.elim
theorem relS_start {N : List Str} {ds : List D} {vs : List V} {E : XK} (r : RepL K κ ι F ds vs) : RelS K κ (EK.of E) ι F H (ds.map some ++ List.replicate (N.length - ds.length) none) (L2.start N vs) := by
  have hl := r.len
  refine ⟨by unfold L2.start; simp [hl], fun i d e => ?_, trivial⟩
  unfold L2.start
  by_cases hi : i < ds.length
  · rw [List.getElem?_append_left (by simpa using hi), List.getElem?_map] at e
    have e' : ds[i]? = some d := by
      cases q : ds[i]? with
      | none => rw [q] at e; cases e
      | some x => rw [q] at e; cases e; rfl
    have get : ∀ {ds : List D} {vs : List V} {i : Nat}, RepL K κ ι F ds vs → ds[i]? = some d → ∃ v, vs[i]? = some v ∧ Rep K κ ι F d v := by
      intro ds vs i r e
      induction i generalizing ds vs with
      | zero => cases r with
        | nil => cases e
        | cons a b => cases e; exact ⟨_, rfl, a⟩
      | succ i ih => cases r with
        | nil => cases e
        | cons a b => exact ih b (by simpa using e)
    obtain ⟨v, hv, rv⟩ := get r e'
    refine ⟨v, ?_, rv⟩
    rw [List.getElem?_append_left (by rw [List.length_map]; omega), List.getElem?_map, hv]
    rfl
  · rw [List.getElem?_append_right (by simpa using hi), List.getElem?_replicate] at e
    split at e <;> cases e
/-- the body's reading from the lifted one -/
theorem body_of {N ps : List Str} {fs : AS → AH → SRes} {t : TS} {vs : List V} {Q : VK} {E : XK} (L : LS K κ (EK.of E) t fs) (h : conc K κ (fnF N.length ps.length fs) vs H Q E) : t { nx := fun _ H' => Q .non H', rt := Q } (L2.start N vs) H := by
  obtain ⟨ds, M, ι, F, rh, rd, p⟩ := h
  unfold fnF at p
  split at p
  · have p := fin_post rh p
    refine L _ _ H M ι F _ (relS_start rd) rh ?_
    revert p
    generalize fs _ M = r
    intro p
    cases r with
    | nx δ M' => exact fun σ' H' ι' F' e h' _ => p .non H' ι' F' e h' .non
    | rt d M' => exact p
    | exc c q δ M' =>
      cases q with
      | none => exact fun σ' H' ι' F' e h' _ => p H' ι' F' e h'
      | some q => exact fun σ' x H' ι' F' vs nx e h' _ hl rd hx => p x H' ι' F' vs nx e h' hl rd hx
    | bk δ M' => exact p.elim
    | ct δ M' => exact p.elim
    | stuck => exact p.elim
  · exact p.elim
end
end G
namespace G
open PySem PySem.Spec PyProof.Rows L2
/-! ### lifted judgements -/
abbrev FE := AS → AH → Res D
abbrev FT := AS → AH → Res Bool
abbrev FA := AS → AH → Res (List D)
abbrev FO := AS → AH → Res (Option Int)
abbrev FS := AS → AH → SRes
def REq {α : Type} : List Addr → Hp → α → α → Prop := fun _ _ a b => a = b
section
variable (K : PySem.W.Frag) (κ : Kap) (E : EK)
def LE (t : TE) (f : FE) : Prop := ∀ σ δ H M ι F Q, RelS K κ E ι F H δ σ → RelH K κ ι F H M → Post K κ (Rep K κ) ι F H (f δ M) Q (E.E σ) → t σ H Q
def LT (t : TT) (f : FT) : Prop := ∀ σ δ H M ι F Q, RelS K κ E ι F H δ σ → RelH K κ ι F H M → Post K κ REq ι F H (f δ M) Q (E.E σ) → t σ H Q
def LA (t : TA) (f : FA) : Prop := ∀ σ δ H M ι F Q, RelS K κ E ι F H δ σ → RelH K κ ι F H M → Post K κ (RepL K κ) ι F H (f δ M) Q (E.E σ) → t σ H Q
def LO (t : TO) (f : FO) : Prop := ∀ σ δ H M ι F Q, RelS K κ E ι F H δ σ → RelH K κ ι F H M → Post K κ REq ι F H (f δ M) Q (E.E σ) → t σ H Q
/-- operators, calls of built-ins, by values -/
def LR2 (r : R2) (g : D → D → AH → Res D) : Prop := ∀ H M ι F x y v w Q (e : XK), RelH K κ ι F H M → Rep K κ ι F x v → Rep K κ ι F y w → Post K κ (Rep K κ) ι F H (g x y M) Q e → r v w H Q
def LR1 (r : V → Hp → VK → Prop) (g : D → AH → Res D) : Prop := ∀ H M ι F x v Q (e : XK), RelH K κ ι F H M → Rep K κ ι F x v → Post K κ (Rep K κ) ι F H (g x M) Q e → r v H Q
def LRN (r : List V → Hp → VK → Prop) (g : List D → AH → Res D) : Prop := ∀ H M ι F x v Q (e : XK), RelH K κ ι F H M → RepL K κ ι F x v → Post K κ (Rep K κ) ι F H (g x M) Q e → r v H Q
def LRM (r : V → List V → Hp → VK → Prop) (g : D → List D → AH → Res D) : Prop := ∀ H M ι F x xs v vs Q (e : XK), RelH K κ ι F H M → Rep K κ ι F x v → RepL K κ ι F xs vs → Post K κ (Rep K κ) ι F H (g x xs M) Q e → r v vs H Q
end
/-! the functions -/
def fVar (i : Nat) : FE := fun δ M => match δ[i]? with | some (some d) => .ok d M | _ => .stuck
def fC (d : D) : FE := fun _ M => .ok d M
def fOp (g : D → D → AH → Res D) (fa fb : FE) : FE := fun δ M => (fa δ M).bind fun x M1 => (fb δ M1).bind fun y M2 => g x y M2
def fUn (g : D → AH → Res D) (fa : FE) : FE := fun δ M => (fa δ M).bind fun x M1 => g x M1
def asB (d : D) (M : AH) : Res Bool := match d with | .bl b => .ok b M | _ => .stuck
def fTest (fe : FE) : FT := fun δ M => (fe δ M).bind asB
def listOf (d : D) (M : AH) : Option (List D) := match d with
  | .lst xs => some xs
  | .lsk xs => some xs
  | .ref i => match M[i]? with | some (.lst xs) => some xs | _ => none
  | _ => none
def tupOf (d : D) : Option (List D) := match d with
  | .tup xs => some xs
  | .tuq xs => some xs
  | _ => none
def dctOf (d : D) (M : AH) : Option (List Key × List D) := match d with
  | .dct ks xs => some (ks, xs)
  | .ref i => match M[i]? with | some (.dct ks xs) => some (ks, xs) | some (.dctL ks xs) => some (ks, xs) | _ => none
  | _ => none
def dttOf (d : D) (M : AH) : Option (List (List Key) × List D) := match d with
  | .dtt ks xs => some (ks, xs)
  | .ref i => match M[i]? with | some (.dtt ks xs) => some (ks, xs) | some (.dttL ks xs) => some (ks, xs) | _ => none
  | _ => none
def truD (d : D) (M : AH) : Res Bool := match d with
  | .bl b => .ok b M
  | .int i => .ok (i != 0) M
  | .non => .ok false M
  | .str z => if z.length ≤ sizeLine then .ok ((z.length : Int) != 0) M else .stuck
  | d => match tupOf d with
    | some xs => .ok (!xs.isEmpty) M
    | none => match listOf d M with
      | some xs => .ok (!xs.isEmpty) M
      | none => match dctOf d M with
        | some (ks, _) => .ok (!ks.isEmpty) M
        | none => .stuck
def fTru (fe : FE) : FT := fun δ M => (fe δ M).bind truD
def fAnd (a b : FT) : FT := fun δ M => (a δ M).bind fun c M1 => if c then b δ M1 else .ok false M1
def fOr (a b : FT) : FT := fun δ M => (a δ M).bind fun c M1 => if c then .ok true M1 else b δ M1
def fNot (a : FT) : FT := fun δ M => (a δ M).bind fun c M1 => .ok (!c) M1
def fAndV (a b : FE) : FE := fun δ M => (a δ M).bind fun x M1 => (asB x M1).bind fun c M1 => if c then b δ M1 else .ok (.bl false) M1
def fOrV (a b : FE) : FE := fun δ M => (a δ M).bind fun x M1 => (asB x M1).bind fun c M1 => if c then .ok (.bl true) M1 else b δ M1
def fNotV (a : FE) : FE := fun δ M => (a δ M).bind fun x M1 => (asB x M1).bind fun c M1 => .ok (.bl (!c)) M1
def fIf (t : FT) (a b : FE) : FE := fun δ M => (t δ M).bind fun c M1 => if c then a δ M1 else b δ M1
def fNil : FA := fun _ M => .ok [] M
def fCons (a : FE) (r : FA) : FA := fun δ M => (a δ M).bind fun x M1 => (r δ M1).bind fun xs M2 => .ok (x :: xs) M2
def fTup (a : FA) : FE := fun δ M => (a δ M).bind fun xs M1 => if xs.length ≤ sizeLine then .ok (.tup xs) M1 else .stuck
def fLst (a : FA) : FE := fun δ M => (a δ M).bind fun xs M1 => if xs.length ≤ sizeLine then .ok (.ref M1.length) (M1 ++ [.lst xs]) else .stuck
def fCall (f : FD) (a : FA) : FE := fun δ M => (a δ M).bind fun xs M1 => f xs M1
def fCB (g : List D → AH → Res D) (a : FA) : FE := fun δ M => (a δ M).bind fun xs M1 => g xs M1
def fMt (g : D → List D → AH → Res D) (o : FE) (a : FA) : FE := fun δ M => (o δ M).bind fun x M1 => (a δ M1).bind fun xs M2 => g x xs M2
def fNoPart : FO := fun _ M => .ok none M
def fPart (a : FE) : FO := fun δ M => (a δ M).bind fun x M1 => match x with | .int i => .ok (some i) M1 | _ => .stuck
def fSl (g : D → Option Int → Option Int → AH → Res D) (a : FE) (lo hi : FO) : FE := fun δ M => (a δ M).bind fun x M1 => (lo δ M1).bind fun l M2 => (hi δ M2).bind fun u M3 => g x l u M3
def fChain (g h : D → D → AH → Res D) (a b c : FE) : FE := fun δ M => (a δ M).bind fun x M1 => (b δ M1).bind fun y M2 => (g x y M2).bind fun z M3 => (asB z M3).bind fun k M3 => if k then (c δ M3).bind fun w M4 => h y w M4 else .ok (.bl false) M3
section
variable {K : PySem.W.Frag} {κ : Kap} {E : EK} {ι ι' : List Addr} {F F' H H' : Hp} {M M' : AH}
theorem le_var {i : Nat} : LE K κ E (tVar i) (fVar i) := fun σ δ H M ι F Q hs hh p => by
  unfold fVar at p
  split at p
  · rename_i d e
    obtain ⟨v, h1, h2⟩ := hs.pl i d e
    exact ⟨v, h1, p.here hh h2⟩
  · exact p.elim
theorem le_C {d : D} {v : V} (h : ∀ ι F, Rep K κ ι F d v) : LE K κ E (tC v) (fC d) := fun σ δ H M ι F Q hs hh p => p.here hh (h ι F)
theorem le_int {i : Int} : LE K κ E (tC (.int i)) (fC (.int i)) := le_C fun _ _ => .int i
theorem le_str {z : Str} : LE K κ E (tC (.str z)) (fC (.str z)) := le_C fun _ _ => .str z
theorem le_bl {b : Bool} : LE K κ E (tC (.bl b)) (fC (.bl b)) := le_C fun _ _ => .bl b
theorem le_non : LE K κ E (tC .non) (fC .non) := le_C fun _ _ => .non
theorem le_ty {n : String} : LE K κ E (tC (.ty n)) (fC (.ty n)) := le_C fun _ _ => .ty n
theorem le_cls {c : String} : LE K κ E (tC (.ref (κ c))) (fC (.cls c)) := le_C fun _ _ => .cls c
theorem le_op {r : R2} {g : D → D → AH → Res D} {ta tb : TE} {fa fb : FE} (hr : LR2 K κ r g) (ha : LE K κ E ta fa) (hb : LE K κ E tb fb) : LE K κ E (tOp r ta tb) (fOp g fa fb) := fun σ δ H M ι F Q hs hh p => by
  refine ha σ δ H M ι F _ hs hh ((Post.bind (R := Rep K κ) p).mono Ext.refl ?_)
  rintro v H1 ⟨d, M1, ι1, F1, e1, h1, r1, p1⟩
  refine hb σ δ H1 M1 ι1 F1 _ (hs.ext e1) h1 ((Post.bind (R := Rep K κ) p1).mono Ext.refl ?_)
  rintro w H2 ⟨d2, M2, ι2, F2, e2, h2, r2, p2⟩
  exact hr H2 M2 ι2 F2 d d2 v w Q _ h2 (r1.ext e2) r2 p2
theorem le_un {r : V → Hp → VK → Prop} {g : D → AH → Res D} {ta : TE} {fa : FE} (hr : LR1 K κ r g) (ha : LE K κ E ta fa) : LE K κ E (tUn r ta) (fUn g fa) := fun σ δ H M ι F Q hs hh p => by
  refine ha σ δ H M ι F _ hs hh ((Post.bind (R := Rep K κ) p).mono Ext.refl ?_)
  rintro v H1 ⟨d, M1, ι1, F1, e1, h1, r1, p1⟩
  exact hr H1 M1 ι1 F1 d v Q _ h1 r1 p1
theorem asB_inv {d : D} {v : V} {Q : Bool → Hp → Prop} {E : XK} (hh : RelH K κ ι F H M) (r : Rep K κ ι F d v) (p : Post K κ REq ι F H (asB d M) Q E) : ∃ k, v = .bl k ∧ Q k H := by
  unfold asB at p
  split at p
  · cases r
    exact ⟨_, rfl, p.here hh rfl⟩
  · exact p.elim
theorem lt_test {te : TE} {fe : FE} (h : LE K κ E te fe) : LT K κ E (tTest te) (fTest fe) := fun σ δ H M ι F Q hs hh p => by
  refine h σ δ H M ι F _ hs hh ((Post.bind (R := Rep K κ) p).mono Ext.refl ?_)
  rintro v H1 ⟨d, M1, ι1, F1, e1, h1, r1, p1⟩
  exact asB_inv h1 r1 p1
theorem relH_ref (hh : RelH K κ ι F H M) {i : Nat} {v : V} (r : Rep K κ ι F (.ref i) v) {o : AO} (e : M[i]? = some o) : ∃ a u, v = .ref a ∧ ι[i]? = some a ∧ H a = some u ∧ RepO K κ ι F o u := by
  cases r with
  | ref h =>
    obtain ⟨u, hu, ru⟩ := hh.at_ h e
    exact ⟨_, u, rfl, h, hu, ru⟩
theorem list_at (hh : RelH K κ ι F H M) {d : D} {v : V} {xs : List D} (r : Rep K κ ι F d v) (e : listOf d M = some xs) : ∃ a vs, v = .ref a ∧ SqL K H a vs ∧ RepL K κ ι F xs vs := by
  unfold listOf at e
  split at e
  · cases e
    cases r with
    | lst h r => exact ⟨_, _, rfl, .inl (.inl (hh.le.ex h fun z => z)), r⟩
  · cases e
    cases r with
    | lsk h r => exact ⟨_, _, rfl, h.monoL hh.le, r⟩
  · split at e
    · rename_i q
      cases e
      obtain ⟨a, u, rfl, h1, h2, h3⟩ := relH_ref hh r q
      cases h3 with
      | lst h3 => exact ⟨a, _, rfl, .inl (.inl h2), h3⟩
    · cases e
  · cases e
theorem tup_at (hh : RelH K κ ι F H M) {d : D} {v : V} {xs : List D} (r : Rep K κ ι F d v) (e : tupOf d = some xs) : ∃ a vs, v = .ref a ∧ SqT K H a vs ∧ RepL K κ ι F xs vs := by
  unfold tupOf at e
  split at e
  · cases e
    cases r with
    | tup h r => exact ⟨_, _, rfl, h.sq.monoL hh.le, r⟩
  · cases e
    cases r with
    | tuq h r => exact ⟨_, _, rfl, h.monoL hh.le, r⟩
  · cases e
theorem dct_at (hh : RelH K κ ι F H M) {d : D} {v : V} {ks : List Key} {xs : List D} (r : Rep K κ ι F d v) (e : dctOf d M = some (ks, xs)) : ∃ a vs, v = .ref a ∧ Rd H a (.dK (ks.zip vs)) ∧ ks.length = vs.length ∧ RepL K κ ι F xs vs := by
  unfold dctOf at e
  split at e
  · cases e
    cases r with
    | dct h l r => exact ⟨_, _, rfl, hh.le.rd h, l, r⟩
  · split at e
    · rename_i q
      cases e
      obtain ⟨a, u, rfl, h1, h2, h3⟩ := relH_ref hh r q
      cases h3 with
      | dct l h3 => exact ⟨a, _, rfl, .inl h2, l, h3⟩
    · rename_i q
      cases e
      obtain ⟨a, u, rfl, h1, h2, h3⟩ := relH_ref hh r q
      cases h3 with
      | dctL l h3 => exact ⟨a, _, rfl, .inr ⟨_, h2⟩, l, h3⟩
    · cases e
  · cases e
theorem dtt_at (hh : RelH K κ ι F H M) {d : D} {v : V} {ks : List (List Key)} {xs : List D} (r : Rep K κ ι F d v) (e : dttOf d M = some (ks, xs)) : ∃ a vs, v = .ref a ∧ Rd H a (.dT (ks.zip vs)) ∧ ks.length = vs.length ∧ RepL K κ ι F xs vs := by
  unfold dttOf at e
  split at e
  · cases e
    cases r with
    | dtt h l r => exact ⟨_, _, rfl, hh.le.rd h, l, r⟩
  · split at e
    · rename_i q
      cases e
      obtain ⟨a, u, rfl, h1, h2, h3⟩ := relH_ref hh r q
      cases h3 with
      | dtt l h3 => exact ⟨a, _, rfl, .inl h2, l, h3⟩
    · rename_i q
      cases e
      obtain ⟨a, u, rfl, h1, h2, h3⟩ := relH_ref hh r q
      cases h3 with
      | dttL l h3 => exact ⟨a, _, rfl, .inr ⟨_, h2⟩, l, h3⟩
    · cases e
  · cases e
theorem isE {ds : List D} {vs : List V} (r : RepL K κ ι F ds vs) : (!vs.isEmpty) = !ds.isEmpty := by cases r <;> rfl
theorem zipE {τ : Type} {ks : List τ} {vs : List V} (h : ks.length = vs.length) : (!(ks.zip vs).isEmpty) = !ks.isEmpty := by
  cases ks <;> cases vs <;> simp_all
/-- the truth of a value, locked dicts and dicts of tuples among them -/
def TruX (K : PySem.W.Frag) (x : V) (H : Hp) (k : Bool) : Prop := TruV K x H k ∨ ∃ p kvs, x = .ref p ∧ Rd H p (.dK kvs) ∧ k = !kvs.isEmpty
def tTruX (K : PySem.W.Frag) (ta : TE) : TT := fun σ H Q => ta σ H fun x H1 => ∃ k, TruX K x H1 k ∧ Q k H1
theorem trux_ok {X : Cx} : TruR X (fun x H Q => ∃ k, TruX X.K x H k ∧ Q k H) := by
  intro pins s σ H x v Q I rx h
  obtain ⟨k, h | ⟨p, kvs, rfl, hr, e⟩, q⟩ := h
  · exact tru_ok pins s σ H x v Q I rx ⟨k, h, q⟩
  · cases rx
    have hl := line63
    obtain ⟨hz, hS, vs, r, m⟩ : kvs.length ≤ sizeLine ∧ (p == sysModules) = false ∧ ∃ vs, KV kvs vs ∧ s.heap.DictOf (mixKind X.prog X.w) p vs := hr.ok I.hok
    subst e
    have hlen : kvs.length = vs.length := Paired.length r
    exact wpAny_truthy_dict hS m (by omega) ⟨H, I.tok _, by rw [isEmpty_kv r]; exact q⟩
theorem pt_truX {X : Cx} {a : Expr} {ta : TE} (ha : PE X a ta) (h : X.K = K := by rfl) (he : ∀ whole, isTrue a X.env whole = (do let v ← whole; standAt a.pos; holding [v] (truthy v)) := by intro _; rfl) : PT X a (tTruX K ta) := by
  subst h
  exact ⟨fun pins s σ H Q I h => isTrue_plain (thn (ha.run pins s σ H _ I h) fun v s1 ⟨x, H1, I1, r1, q1⟩ => trux_ok pins s1 σ H1 x v Q I1 r1 q1) (he _)⟩
theorem truD_at {d : D} {v : V} {Q : Bool → Hp → Prop} {e : XK} (hh : RelH K κ ι F H M) (r : Rep K κ ι F d v) (p : Post K κ REq ι F H (truD d M) Q e) : ∃ k, TruX K v H k ∧ Q k H := by
  have gen : ∀ (xs : List D), tupOf d = some xs ∨ listOf d M = some xs → Q (!xs.isEmpty) H → ∃ k, TruX K v H k ∧ Q k H := fun xs hx q => by
    rcases hx with hx | hx
    · obtain ⟨a, vs, rfl, hq, hr⟩ := tup_at hh r hx
      exact ⟨_, .inl (.inr (.inl ⟨vs, hq, rfl⟩)), by rw [isE hr]; exact q⟩
    · obtain ⟨a, vs, rfl, hq, hr⟩ := list_at hh r hx
      exact ⟨_, .inl (.inl ⟨vs, hq, rfl⟩), by rw [isE hr]; exact q⟩
  unfold truD at p
  split at p
  · cases r; exact ⟨_, .inl rfl, p.here hh rfl⟩
  · cases r; exact ⟨_, .inl rfl, p.here hh rfl⟩
  · cases r; exact ⟨_, .inl rfl, p.here hh rfl⟩
  · split at p
    · rename_i hz
      cases r
      exact ⟨_, .inl ⟨hz, rfl⟩, p.here hh rfl⟩
    · exact p.elim
  · split at p
    · rename_i hx
      exact gen _ (.inl hx) (p.here hh rfl)
    · split at p
      · rename_i hx
        exact gen _ (.inr hx) (p.here hh rfl)
      · split at p
        · rename_i hx
          obtain ⟨a, vs, rfl, hq, hl, hr⟩ := dct_at hh r hx
          exact ⟨_, .inr ⟨_, _, rfl, hq, rfl⟩, by rw [zipE hl]; exact p.here hh rfl⟩
        · exact p.elim
theorem lt_tru {te : TE} {fe : FE} (h : LE K κ E te fe) : LT K κ E (tTruX K te) (fTru fe) := fun σ δ H M ι F Q hs hh p => by
  refine h σ δ H M ι F _ hs hh ((Post.bind (R := Rep K κ) p).mono Ext.refl ?_)
  rintro v H1 ⟨d, M1, ι1, F1, e1, h1, r1, p1⟩
  exact truD_at h1 r1 p1
theorem lt_and {a b : TT} {fa fb : FT} (ha : LT K κ E a fa) (hb : LT K κ E b fb) : LT K κ E (tAnd a b) (fAnd fa fb) := fun σ δ H M ι F Q hs hh p => by
  refine ha σ δ H M ι F _ hs hh ((Post.bind (R := REq) p).mono Ext.refl ?_)
  rintro c H1 ⟨d, M1, ι1, F1, e1, h1, r1, p1⟩
  cases (show d = c from r1)
  cases c with
  | true => exact hb σ δ H1 M1 ι1 F1 _ (hs.ext e1) h1 p1
  | false => exact p1.here h1 rfl
theorem lt_or {a b : TT} {fa fb : FT} (ha : LT K κ E a fa) (hb : LT K κ E b fb) : LT K κ E (tOr a b) (fOr fa fb) := fun σ δ H M ι F Q hs hh p => by
  refine ha σ δ H M ι F _ hs hh ((Post.bind (R := REq) p).mono Ext.refl ?_)
  rintro c H1 ⟨d, M1, ι1, F1, e1, h1, r1, p1⟩
  cases (show d = c from r1)
  cases c with
  | false => exact hb σ δ H1 M1 ι1 F1 _ (hs.ext e1) h1 p1
  | true => exact p1.here h1 rfl
theorem lt_not {a : TT} {fa : FT} (ha : LT K κ E a fa) : LT K κ E (tNot a) (fNot fa) := fun σ δ H M ι F Q hs hh p => by
  refine ha σ δ H M ι F _ hs hh ((Post.bind (R := REq) p).mono Ext.refl ?_)
  rintro c H1 ⟨d, M1, ι1, F1, e1, h1, r1, p1⟩
  cases (show d = c from r1)
  exact p1.here h1 rfl
theorem le_andV {a b : TE} {fa fb : FE} (ha : LE K κ E a fa) (hb : LE K κ E b fb) : LE K κ E (tAndV a b) (fAndV fa fb) := fun σ δ H M ι F Q hs hh p => by
  refine ha σ δ H M ι F _ hs hh ((Post.bind (R := Rep K κ) p).mono Ext.refl ?_)
  rintro v H1 ⟨d, M1, ι1, F1, e1, h1, r1, p1⟩
  obtain ⟨k, ev, q⟩ := asB_inv h1 r1 (Post.bind (R := REq) p1)
  obtain ⟨d2, M2, ι2, F2, e2, h2, r2, p2⟩ := q
  cases (show d2 = k from r2)
  refine ⟨k, ev, ?_⟩
  cases k with
  | true => exact hb σ δ H1 M2 ι2 F2 _ ((hs.ext e1).ext e2) h2 p2
  | false => exact p2.here h2 (.bl false)
theorem le_orV {a b : TE} {fa fb : FE} (ha : LE K κ E a fa) (hb : LE K κ E b fb) : LE K κ E (tOrV a b) (fOrV fa fb) := fun σ δ H M ι F Q hs hh p => by
  refine ha σ δ H M ι F _ hs hh ((Post.bind (R := Rep K κ) p).mono Ext.refl ?_)
  rintro v H1 ⟨d, M1, ι1, F1, e1, h1, r1, p1⟩
  obtain ⟨k, ev, q⟩ := asB_inv h1 r1 (Post.bind (R := REq) p1)
  obtain ⟨d2, M2, ι2, F2, e2, h2, r2, p2⟩ := q
  cases (show d2 = k from r2)
  refine ⟨k, ev, ?_⟩
  cases k with
  | false => exact hb σ δ H1 M2 ι2 F2 _ ((hs.ext e1).ext e2) h2 p2
  | true => exact p2.here h2 (.bl true)
theorem le_notV {a : TE} {fa : FE} (ha : LE K κ E a fa) : LE K κ E (tNotV a) (fNotV fa) := fun σ δ H M ι F Q hs hh p => by
  refine ha σ δ H M ι F _ hs hh ((Post.bind (R := Rep K κ) p).mono Ext.refl ?_)
  rintro v H1 ⟨d, M1, ι1, F1, e1, h1, r1, p1⟩
  obtain ⟨k, ev, q⟩ := asB_inv h1 r1 (Post.bind (R := REq) p1)
  obtain ⟨d2, M2, ι2, F2, e2, h2, r2, p2⟩ := q
  cases (show d2 = k from r2)
  exact ⟨k, ev, p2.here h2 (.bl _)⟩
theorem le_if {t : TT} {a b : TE} {ft : FT} {fa fb : FE} (ht : LT K κ E t ft) (ha : LE K κ E a fa) (hb : LE K κ E b fb) : LE K κ E (tIf t a b) (fIf ft fa fb) := fun σ δ H M ι F Q hs hh p => by
  refine ht σ δ H M ι F _ hs hh ((Post.bind (R := REq) p).mono Ext.refl ?_)
  rintro c H1 ⟨d, M1, ι1, F1, e1, h1, r1, p1⟩
  cases (show d = c from r1)
  cases c with
  | true => exact ha σ δ H1 M1 ι1 F1 _ (hs.ext e1) h1 p1
  | false => exact hb σ δ H1 M1 ι1 F1 _ (hs.ext e1) h1 p1
theorem la_nil : LA K κ E tNil fNil := fun σ δ H M ι F Q hs hh p => p.here hh .nil
theorem la_cons {a : TE} {r : TA} {fa : FE} {fr : FA} (ha : LE K κ E a fa) (hr : LA K κ E r fr) : LA K κ E (tCons a r) (fCons fa fr) := fun σ δ H M ι F Q hs hh p => by
  refine ha σ δ H M ι F _ hs hh ((Post.bind (R := Rep K κ) p).mono Ext.refl ?_)
  rintro v H1 ⟨d, M1, ι1, F1, e1, h1, r1, p1⟩
  refine hr σ δ H1 M1 ι1 F1 _ (hs.ext e1) h1 ((Post.bind (R := RepL K κ) p1).mono Ext.refl ?_)
  rintro w H2 ⟨d2, M2, ι2, F2, e2, h2, r2, p2⟩
  exact p2.here h2 (.cons (r1.ext e2) r2)
/-! a tuple whose record is known -/
def tTupF (t : TA) : TE := fun σ H Q => t σ H fun xs H1 => xs.length ≤ sizeLine ∧ ∀ p o, H1 p = none → o.cls = .type "tuple" → o.dict = none → Q (.ref p) (upd H1 p (.frz o (.tup xs)))
theorem pe_tupF {X : Cx} {es : List Expr} {t : TA} {pos : Pos} {x1} (h : PA X es t) : PE X (.Tuple es x1 pos) (tTupF t) := by
  refine ⟨fun pins s σ H Q I hq => ?_⟩
  refine wpAny_Tuple_spliced (thn (h.run pos pins s σ H _ I hq) fun us s1 ⟨xs, H1, I1, r, z, q⟩ => ⟨by rw [← r.length]; exact z, ?_⟩)
  have hf : H1 s1.heap.objs.size = none := I1.hok.fresh (Nat.le_refl _)
  refine ⟨.ref s1.heap.objs.size, upd H1 s1.heap.objs.size (.frz { cls := .type "tuple", data := .seq us.toArray } (.tup xs)), I1.laid (t' := s1.toks) (fun b u e => Heap.get?_push_of_some _ e) (Nat.le_refl _) ?_, rfl, q _ _ hf rfl rfl⟩
  exact ⟨Heap.get?_push_size _ rfl, z, us, r, IsTup.new _ _⟩
theorem le_tup {t : TA} {f : FA} (h : LA K κ E t f) : LE K κ E (tTupF t) (fTup f) := fun σ δ H M ι F Q hs hh p => by
  refine h σ δ H M ι F _ hs hh ((Post.bind (R := RepL K κ) p).mono Ext.refl ?_)
  rintro vs H1 ⟨ds, M1, ι1, F1, e1, h1, r1, p1⟩
  split at p1
  · rename_i hl
    refine ⟨by rw [← r1.len]; exact hl, fun p o hp hc hd => ?_⟩
    obtain ⟨e2, h2⟩ := h1.newF hp (.frz o (.tup vs))
    exact p1 _ _ _ _ e2 h2 (.tup (.inl ⟨o, upd_same, hc, hd⟩) (r1.ext e2))
  · exact p1.elim
theorem le_lst {t : TA} {f : FA} (h : LA K κ E t f) : LE K κ E (tLst t) (fLst f) := fun σ δ H M ι F Q hs hh p => by
  refine h σ δ H M ι F _ hs hh ((Post.bind (R := RepL K κ) p).mono Ext.refl ?_)
  rintro vs H1 ⟨ds, M1, ι1, F1, e1, h1, r1, p1⟩
  split at p1
  · rename_i hl
    refine ⟨by rw [← r1.len]; exact hl, fun p hp => ?_⟩
    obtain ⟨e2, h2, h3⟩ := h1.new (o := .lst ds) (ho := .lst vs) hp (.lst r1)
    exact p1 _ _ _ _ e2 h2 (.ref h3)
  · exact p1.elim
theorem le_call {E1 : XK} {f : FD} {t : TA} {fa : FA} (h : LA K κ (EK.of E1) t fa) : LE K κ (EK.of E1) (tCall (conc K κ f) [] E1 t) (fCall f fa) := fun σ δ H M ι F Q hs hh p => by
  rw [w_Call]
  refine h σ δ H M ι F _ hs hh ((Post.bind (R := RepL K κ) p).mono Ext.refl ?_)
  rintro vs H1 ⟨ds, M1, ι1, F1, e1, h1, r1, p1⟩
  exact ⟨ds, M1, ι1, F1, h1, r1, p1⟩
theorem le_callS {f : FD} {t : TA} {fa : FA} (h : LA K κ E t fa) : LE K κ E (tCallS (conc K κ f) E.E t) (fCall f fa) := fun σ δ H M ι F Q hs hh p => by
  refine h σ δ H M ι F _ hs hh ((Post.bind (R := RepL K κ) p).mono Ext.refl ?_)
  rintro vs H1 ⟨ds, M1, ι1, F1, e1, h1, r1, p1⟩
  exact ⟨ds, M1, ι1, F1, h1, r1, p1⟩
theorem le_CB {r : List V → Hp → VK → Prop} {g : List D → AH → Res D} {t : TA} {fa : FA} (hr : LRN K κ r g) (h : LA K κ E t fa) : LE K κ E (tCB r t) (fCB g fa) := fun σ δ H M ι F Q hs hh p => by
  refine h σ δ H M ι F _ hs hh ((Post.bind (R := RepL K κ) p).mono Ext.refl ?_)
  rintro vs H1 ⟨ds, M1, ι1, F1, e1, h1, r1, p1⟩
  exact hr H1 M1 ι1 F1 ds vs Q _ h1 r1 p1
theorem lo_none : LO K κ E tNoPart fNoPart := fun σ δ H M ι F Q hs hh p => p.here hh rfl
theorem lo_some {t : TE} {f : FE} (h : LE K κ E t f) : LO K κ E (tPart t) (fPart f) := fun σ δ H M ι F Q hs hh p => by
  refine h σ δ H M ι F _ hs hh ((Post.bind (R := Rep K κ) p).mono Ext.refl ?_)
  rintro v H1 ⟨d, M1, ι1, F1, e1, h1, r1, p1⟩
  split at p1
  · cases r1
    exact ⟨_, rfl, p1.here h1 rfl⟩
  · exact p1.elim
def LSl (K : PySem.W.Frag) (κ : Kap) (r : V → Option Int → Option Int → Hp → VK → Prop) (g : D → Option Int → Option Int → AH → Res D) : Prop :=
  ∀ H M ι F x l u v Q (e : XK), RelH K κ ι F H M → Rep K κ ι F x v → Post K κ (Rep K κ) ι F H (g x l u M) Q e → r v l u H Q
theorem le_sl {r : V → Option Int → Option Int → Hp → VK → Prop} {g : D → Option Int → Option Int → AH → Res D} {t : TE} {lo hi : TO} {f : FE} {fl fh : FO} (hr : LSl K κ r g) (h : LE K κ E t f) (hl : LO K κ E lo fl) (hu : LO K κ E hi fh) :
    LE K κ E (L2.tSl r t lo hi) (fSl g f fl fh) := fun σ δ H M ι F Q hs hh p => by
  refine h σ δ H M ι F _ hs hh ((Post.bind (R := Rep K κ) p).mono Ext.refl ?_)
  rintro v H1 ⟨d, M1, ι1, F1, e1, h1, r1, p1⟩
  refine hl σ δ H1 M1 ι1 F1 _ (hs.ext e1) h1 ((Post.bind (R := REq) p1).mono Ext.refl ?_)
  rintro l H2 ⟨d2, M2, ι2, F2, e2, h2, r2, p2⟩
  cases (show d2 = l from r2)
  refine hu σ δ H2 M2 ι2 F2 _ ((hs.ext e1).ext e2) h2 ((Post.bind (R := REq) p2).mono Ext.refl ?_)
  rintro u H3 ⟨d3, M3, ι3, F3, e3, h3, r3, p3⟩
  cases (show d3 = u from r3)
  exact hr H3 M3 ι3 F3 d l u v Q _ h3 ((r1.ext e2).ext e3) p3
theorem le_chain {r r2 : R2} {g g2 : D → D → AH → Res D} {ta tb tc : TE} {fa fb fc : FE} (hr : LR2 K κ r g) (hr2 : LR2 K κ r2 g2) (ha : LE K κ E ta fa) (hb : LE K κ E tb fb) (hc : LE K κ E tc fc) : LE K κ E (tChain r r2 ta tb tc) (fChain g g2 fa fb fc) := fun σ δ H M ι F Q hs hh p => by
  refine ha σ δ H M ι F _ hs hh ((Post.bind (R := Rep K κ) p).mono Ext.refl ?_)
  rintro v H1 ⟨d, M1, ι1, F1, e1, h1, r1, p1⟩
  refine hb σ δ H1 M1 ι1 F1 _ (hs.ext e1) h1 ((Post.bind (R := Rep K κ) p1).mono Ext.refl ?_)
  rintro w H2 ⟨d2, M2, ι2, F2, e2, h2, rr2, p2⟩
  refine hr H2 M2 ι2 F2 d d2 v w _ (E.E σ) h2 (r1.ext e2) rr2 ((Post.bind (R := Rep K κ) p2).mono Ext.refl ?_)
  rintro z H3 ⟨d3, M3, ι3, F3, e3, h3, r3, p3⟩
  obtain ⟨k, ev, q⟩ := asB_inv h3 r3 (Post.bind (R := REq) p3)
  obtain ⟨d4, M4, ι4, F4, e4, h4, r4, p4⟩ := q
  cases (show d4 = k from r4)
  refine ⟨k, ev, ?_⟩
  cases k with
  | false => exact p4.here h4 (.bl false)
  | true =>
    refine hc σ δ H3 M4 ι4 F4 _ ((((hs.ext e1).ext e2).ext e3).ext e4) h4 ((Post.bind (R := Rep K κ) p4).mono Ext.refl ?_)
    rintro x H5 ⟨d5, M5, ι5, F5, e5, h5, r5, p5⟩
    exact hr2 H5 M5 ι5 F5 d2 d5 w x Q _ h5 (((rr2.ext e3).ext e4).ext e5) r5 p5
end
end G
namespace G
open PySem PySem.Spec PyProof.Rows L2
/-! ### operators -/
instance (i j : Int) : Decidable (CMul i j) := by unfold CMul; infer_instance
instance (i j : Int) : Decidable (CMulW i j) := by unfold CMulW; infer_instance
instance (i j : Int) : Decidable (CDivW i j) := by unfold CDivW; infer_instance
instance (i j : Int) : Decidable (CPow i j) := by unfold CPow; infer_instance
instance (i j : Int) : Decidable (CDiv i j) := by unfold CDiv; infer_instance
def gAdd : D → D → AH → Res D := fun x y M => match x, y with
  | .int i, .int j => .ok (.int (i + j)) M
  | .str a, .str b => if a.length + b.length ≤ sizeLine then .ok (.str (a ++ b)) M else .stuck
  | x, y => match tupOf x, tupOf y with
    | some xs, some ys => if xs.length + ys.length ≤ sizeLine then (if xs.isEmpty then .ok y M else if ys.isEmpty then .ok x M else .ok (.tuq (xs ++ ys)) M) else .stuck
    | _, _ => match x, y with
      | .lsk _, _ => .stuck
      | _, .lsk _ => .stuck
      | x, y => match listOf x M, listOf y M with
        | some xs, some ys => if xs.length + ys.length ≤ sizeLine then .ok (.ref M.length) (M ++ [.lst (xs ++ ys)]) else .stuck
        | _, _ => .stuck
def gSubI : D → D → AH → Res D := fun x y M => match x, y with
  | .int i, .int j => .ok (.int (i - j)) M
  | _, _ => .stuck
def gMul : D → D → AH → Res D := fun x y M => match x, y with
  | .int i, .int j => if CMul i j ∨ CMulW i j then .ok (.int (i * j)) M else .stuck
  | .ref l, .int k => match M[l]? with
    | some (.lst xs) => if k < 2 ^ 63 ∧ -(2 ^ 63) ≤ k ∧ xs.length * k.toNat ≤ sizeLine then .ok (.ref M.length) (M ++ [.lst (List.replicate k.toNat xs).flatten]) else .stuck
    | _ => .stuck
  | _, _ => .stuck
def gMod : D → D → AH → Res D := fun x y M => match x, y with
  | .int i, .int j => if 0 < j then .ok (.int (i % j)) M else .stuck
  | _, _ => .stuck
def gDiv : D → D → AH → Res D := fun x y M => match x, y with
  | .int i, .int j => if CDivW i j then .ok (.int (i / j)) M else .stuck
  | _, _ => .stuck
def gPow : D → D → AH → Res D := fun x y M => match x, y with
  | .int i, .int j => if CPow i j then .ok (.int (i ^ j.toNat)) M else .stuck
  | _, _ => .stuck
def gCmp (p : Int → Int → Bool) (q : List Nat → List Nat → Bool) : D → D → AH → Res D := fun x y M => match x, y with
  | .int i, .int j => .ok (.bl (p i j)) M
  | .str a, .str b => .ok (.bl (q (tl a) (tl b))) M
  | _, _ => .stuck
def gLt := gCmp (fun i j => decide (i < j)) fun a b => decide (a < b)
def gLe := gCmp (fun i j => decide (i ≤ j)) fun a b => !decide (b < a)
def gGt := gCmp (fun i j => decide (j < i)) fun a b => decide (b < a)
def gGe := gCmp (fun i j => decide (j ≤ i)) fun a b => !decide (a < b)
/-! data of any depth, compared -/
mutual
def pyD : D → Option PyData
  | .non => some .none
  | .bl b => some (.bool b)
  | .int i => some (.int i)
  | .str z => some (.str z)
  | .tup xs => (pyL xs).map .tuple
  | .tuq xs => (pyL xs).map .tuple
  | .lst xs => (pyL xs).map .list
  | .lsk xs => (pyL xs).map .list
  | _ => none
def pyL : List D → Option (List PyData)
  | [] => some []
  | x :: xs => match pyD x, pyL xs with
    | some a, some b => some (a :: b)
    | _, _ => none
end
def pyOf (d : D) (M : AH) : Option PyData := match d with
  | .ref i => match M[i]? with | some (.lst xs) => (pyL xs).map .list | _ => none
  | d => pyD d
def refD : D → Bool
  | .tup _ => true
  | .tuq _ => true
  | .lst _ => true
  | .lsk _ => true
  | .ref _ => true
  | _ => false
def scalEq : D → D → Option Bool
  | .int i, .int j => some (decide (i = j))
  | .str a, .str b => some (decide (tl a = tl b))
  | .bl a, .bl b => some (decide (a = b))
  | .non, .non => some true
  | .non, .int _ => some false
  | .int _, .non => some false
  | .non, .str _ => some false
  | .str _, .non => some false
  | .non, .bl _ => some false
  | .bl _, .non => some false
  | .int _, .str _ => some false
  | .str _, .int _ => some false
  | .bl _, .str _ => some false
  | .str _, .bl _ => some false
  | _, _ => none
def gEqB (neg : Bool) : D → D → AH → Res D := fun x y M => if refD x || refD y then (match pyOf x M, pyOf y M with
    | some a, some b => if SeqAt.shaped a && SeqAt.shaped b then .ok (.bl (neg != PyData.eqv a b)) M else .stuck
    | _, _ => .stuck)
  else match scalEq x y with
    | some c => .ok (.bl (neg != c)) M
    | none => .stuck
def gEq := gEqB false
def gNe := gEqB true
def isRef : V → Bool
  | .ref _ => true
  | _ => false
section
variable {K : PySem.W.Frag} {κ : Kap} {ι : List Addr} {F H : Hp} {M : AH}
theorem RepL.append {a b : List D} {c d : List V} (h1 : RepL K κ ι F a c) (h2 : RepL K κ ι F b d) : RepL K κ ι F (a ++ b) (c ++ d) := by
  induction a generalizing c with
  | nil => cases h1; exact h2
  | cons x a ih => cases h1 with | cons h3 h4 => exact .cons h3 (ih h4)
theorem rmulK : LR2 K κ rMulG gMul := fun H M ι F x y v w Q e hh rx ry p => by
  unfold gMul at p
  split at p
  · cases rx; cases ry
    split at p
    · rename_i hc
      exact ⟨hc, p.here hh (.int _)⟩
    · exact p.elim
  · split at p
    · rename_i ds q
      split at p
      · rename_i hc
        obtain ⟨a, u, rfl, h1, h2, h3⟩ := relH_ref hh rx q
        cases ry
        cases h3 with
        | @lst _ vs h3 =>
          refine ⟨vs, h2, hc.2.1, hc.1, by rw [← h3.len]; exact hc.2.2, fun r hr => ?_⟩
          have rep : ∀ n, RepL K κ ι F (List.replicate n ds).flatten (List.replicate n vs).flatten := fun n => by
            induction n with
            | zero => exact .nil
            | succ n ih =>
              rw [List.replicate_succ, List.replicate_succ, List.flatten_cons, List.flatten_cons]
              exact h3.append ih
          obtain ⟨e2, hh2, h5⟩ := hh.new (o := .lst (List.replicate _ ds).flatten) (ho := .lst (List.replicate _ vs).flatten) hr (.lst (rep _))
          exact p _ _ _ _ e2 hh2 (.ref h5)
      · exact p.elim
    · exact p.elim
  · exact p.elim
theorem listT {d : D} {v : V} {xs : List D} (hh : RelH K κ ι F H M) (r : Rep K κ ι F d v) (e : listOf d M = some xs) (hk : ∀ ys, d ≠ .lsk ys) : ∃ a vs, v = .ref a ∧ H a = some (.lst vs) ∧ RepL K κ ι F xs vs := by
  unfold listOf at e
  split at e
  · cases e
    cases r with
    | lst h r => exact ⟨_, _, rfl, hh.le.ex h fun z => z, r⟩
  · exact absurd rfl (hk _)
  · split at e
    · rename_i q
      cases e
      obtain ⟨a, u, rfl, h1, h2, h3⟩ := relH_ref hh r q
      cases h3 with
      | lst h3 => exact ⟨a, _, rfl, h2, h3⟩
    · cases e
  · cases e
theorem nE {α β : Type} {xs : List α} {ys : List β} (h : xs.length = ys.length) : (xs = [] ↔ ys = []) := by
  cases xs <;> cases ys <;> simp_all
theorem raddK : LR2 K κ (rAddG K) gAdd := fun H M ι F x y v w Q e hh rx ry p => by
  unfold gAdd at p
  split at p
  · cases rx; cases ry
    exact p.here hh (.int _)
  · split at p
    · rename_i hc
      cases rx; cases ry
      exact ⟨hc, p.here hh (.str _)⟩
    · exact p.elim
  · split at p
    · rename_i xs ys hx hy
      split at p
      · rename_i hl
        obtain ⟨a, vs, rfl, h1, r1⟩ := tup_at hh rx hx
        obtain ⟨b, ws, rfl, h2, r2⟩ := tup_at hh ry hy
        refine .inr ⟨a, b, vs, ws, rfl, rfl, h1, h2, by rw [← r1.len, ← r2.len]; exact hl, fun z => ?_, fun z1 z2 => ?_, fun z1 z2 q hq => ?_⟩
        · have : xs = [] := (nE r1.len).mpr z
          subst this
          exact p.here hh ry
        · have n1 : xs ≠ [] := fun z => z1 ((nE r1.len).mp z)
          have : ys = [] := (nE r2.len).mpr z2
          subst this
          rw [if_neg (by simpa using n1)] at p
          exact p.here hh rx
        · have n1 : xs ≠ [] := fun z => z1 ((nE r1.len).mp z)
          have n2 : ys ≠ [] := fun z => z2 ((nE r2.len).mp z)
          rw [if_neg (by simpa using n1), if_neg (by simpa using n2)] at p
          obtain ⟨e2, h3⟩ := hh.newF hq (.tup (vs ++ ws))
          exact p _ _ _ _ e2 h3 (.tuq (.inl (.inl upd_same)) ((r1.append r2).ext e2))
      · exact p.elim
    · split at p
      · exact p.elim
      · exact p.elim
      · rename_i n1 n2
        split at p
        · rename_i xs ys hx hy
          split at p
          · rename_i hl
            obtain ⟨a, vs, rfl, h1, r1⟩ := listT hh rx hx (fun ys => n1 ys)
            obtain ⟨b, ws, rfl, h2, r2⟩ := listT hh ry hy (fun ys => n2 ys)
            refine .inl ⟨vs, ws, h1, h2, by rw [← r1.len, ← r2.len]; exact hl, fun r hr => ?_⟩
            obtain ⟨e2, hh2, h5⟩ := hh.new (o := .lst (xs ++ ys)) (ho := .lst (vs ++ ws)) hr (.lst (r1.append r2))
            exact p _ _ _ _ e2 hh2 (.ref h5)
          · exact p.elim
        · exact p.elim
theorem rsubK : LR2 K κ rSubG gSubI := fun H M ι F x y v w Q e hh rx ry p => by
  unfold gSubI at p
  split at p
  · cases rx; cases ry
    exact p.here hh (.int _)
  · exact p.elim
theorem rmodK : LR2 K κ rModG gMod := fun H M ι F x y v w Q e hh rx ry p => by
  unfold gMod at p
  split at p
  · split at p
    · rename_i hc
      cases rx; cases ry
      exact ⟨hc, p.here hh (.int _)⟩
    · exact p.elim
  · exact p.elim
theorem rdivK : LR2 K κ rDivG gDiv := fun H M ι F x y v w Q e hh rx ry p => by
  unfold gDiv at p
  split at p
  · split at p
    · rename_i hc
      cases rx; cases ry
      exact ⟨hc, p.here hh (.int _)⟩
    · exact p.elim
  · exact p.elim
theorem rpowK : LR2 K κ rPowG gPow := fun H M ι F x y v w Q e hh rx ry p => by
  unfold gPow at p
  split at p
  · split at p
    · rename_i hc
      cases rx; cases ry
      exact ⟨hc, p.here hh (.int _)⟩
    · exact p.elim
  · exact p.elim
theorem rltK : LR2 K κ rLtG gLt := fun H M ι F x y v w Q e hh rx ry p => by
  unfold gLt gCmp at p
  split at p <;> first | exact p.elim | (cases rx; cases ry; exact p.here hh (.bl _))
theorem rleK : LR2 K κ rLeG gLe := fun H M ι F x y v w Q e hh rx ry p => by
  unfold gLe gCmp at p
  split at p <;> first | exact p.elim | (cases rx; cases ry; exact p.here hh (.bl _))
theorem rgtK : LR2 K κ rGtG gGt := fun H M ι F x y v w Q e hh rx ry p => by
  unfold gGt gCmp at p
  split at p <;> first | exact p.elim | (cases rx; cases ry; exact p.here hh (.bl _))
theorem rgeK : LR2 K κ rGeG gGe := fun H M ι F x y v w Q e hh rx ry p => by
  unfold gGe gCmp at p
  split at p <;> first | exact p.elim | (cases rx; cases ry; exact p.here hh (.bl _))
mutual
theorem pyD_dp (s : Le F H) : ∀ {d : D} {v : V} {e : PyData}, Rep K κ ι F d v → pyD d = some e → Dp K H v e
  | .non, _, _, r, h => by cases r; simp only [pyD] at h; cases h; exact .non
  | .bl b, _, _, r, h => by cases r; simp only [pyD] at h; cases h; exact .bl b
  | .int b, _, _, r, h => by cases r; simp only [pyD] at h; cases h; exact .int b
  | .str b, _, _, r, h => by cases r; simp only [pyD] at h; cases h; exact .str b
  | .tup xs, _, _, r, h => by
    simp only [pyD] at h
    obtain ⟨x, hx, rfl⟩ := Option.map_eq_some_iff.mp h
    cases r with
    | tup q r => exact .tup (q.sq.monoL s) (pyL_dp s r hx)
  | .tuq xs, _, _, r, h => by
    simp only [pyD] at h
    obtain ⟨x, hx, rfl⟩ := Option.map_eq_some_iff.mp h
    cases r with
    | tuq q r => exact .tup (q.monoL s) (pyL_dp s r hx)
  | .lst xs, _, _, r, h => by
    simp only [pyD] at h
    obtain ⟨x, hx, rfl⟩ := Option.map_eq_some_iff.mp h
    cases r with
    | lst q r => exact .lst (.inl (.inl (s.ex q fun z => z))) (pyL_dp s r hx)
  | .lsk xs, _, _, r, h => by
    simp only [pyD] at h
    obtain ⟨x, hx, rfl⟩ := Option.map_eq_some_iff.mp h
    cases r with
    | lsk q r => exact .lst (q.monoL s) (pyL_dp s r hx)
  | .ty _, _, _, r, h => by simp [pyD] at h
  | .cls _, _, _, r, h => by simp [pyD] at h
  | .dct _ _, _, _, r, h => by simp [pyD] at h
  | .obj _ _ _, _, _, r, h => by simp [pyD] at h
  | .ref _, _, _, r, h => by simp [pyD] at h
theorem pyL_dp (s : Le F H) : ∀ {ds : List D} {vs : List V} {es : List PyData}, RepL K κ ι F ds vs → pyL ds = some es → DpAll K H vs es
  | [], _, _, r, h => by cases r; simp only [pyL] at h; cases h; exact .nil
  | d :: ds, _, _, r, h => by
    simp only [pyL] at h
    split at h
    · rename_i e1 e2
      cases h
      cases r with
      | cons a b => exact .cons (pyD_dp s a e1) (pyL_dp s b e2)
    · cases h
end
theorem pyOf_dp (hh : RelH K κ ι F H M) {d : D} {v : V} {e : PyData} (r : Rep K κ ι F d v) (h : pyOf d M = some e) : Dp K H v e := by
  unfold pyOf at h
  split at h
  · split at h
    · rename_i q
      obtain ⟨x, hx, rfl⟩ := Option.map_eq_some_iff.mp h
      obtain ⟨a, u, rfl, h1, h2, h3⟩ := relH_ref hh r q
      cases h3 with
      | lst h3 => exact .lst (.inl (.inl h2)) (pyL_dp hh.le h3 hx)
    · cases h
  · exact pyD_dp hh.le r h
theorem req_gen {v w : V} {a b : PyData} {Q : VK} (h1 : Dp K H v a) (h2 : Dp K H w b) (s1 : SeqAt.shaped a = true) (s2 : SeqAt.shaped b = true) (hr : isRef v = true ∨ isRef w = true) (q : Q (.bl (PyData.eqv a b)) H) : rEqG K v w H Q := by
  have d : rEqD K v w H Q := ⟨a, b, h1, h2, s1, s2, q⟩
  cases v <;> cases w <;> first
    | exact d
    | (simp [isRef] at hr; done)
theorem rne_gen {v w : V} {a b : PyData} {Q : VK} (h1 : Dp K H v a) (h2 : Dp K H w b) (s1 : SeqAt.shaped a = true) (s2 : SeqAt.shaped b = true) (hr : isRef v = true ∨ isRef w = true) (q : Q (.bl (!PyData.eqv a b)) H) : rNeG K v w H Q := by
  have d : rNeD K v w H Q := ⟨a, b, h1, h2, s1, s2, q⟩
  cases v <;> cases w <;> first
    | exact d
    | (simp [isRef] at hr; done)
theorem refD_is {d : D} {v : V} (r : Rep K κ ι F d v) (h : refD d = true) : isRef v = true := by
  cases r <;> first | rfl | (simp [refD] at h)
theorem reqK : LR2 K κ (rEqG K) gEq := fun H M ι F x y v w Q e hh rx ry p => by
  unfold gEq gEqB at p
  split at p
  · rename_i hr
    split at p
    · rename_i a b h1 h2
      split at p
      · rename_i hs
        rw [Bool.and_eq_true] at hs
        simp only [Bool.false_bne] at p
        exact req_gen (pyOf_dp hh rx h1) (pyOf_dp hh ry h2) hs.1 hs.2 ((Bool.or_eq_true_iff.mp hr).imp (refD_is rx) (refD_is ry)) (p.here hh (.bl _))
      · exact p.elim
    · exact p.elim
  · split at p
    · rename_i c hc
      simp only [Bool.false_bne] at p
      unfold scalEq at hc
      split at hc <;> first
        | (cases hc; cases rx; cases ry; exact p.here hh (.bl _))
        | (cases hc; cases rx; cases ry; exact ⟨rfl, p.here hh (.bl _)⟩)
        | (cases hc; cases rx; cases ry; exact ⟨rfl, by simpa using p.here hh (.bl _)⟩)
        | cases hc
    · exact p.elim
theorem rneK : LR2 K κ (rNeG K) gNe := fun H M ι F x y v w Q e hh rx ry p => by
  unfold gNe gEqB at p
  split at p
  · rename_i hr
    split at p
    · rename_i a b h1 h2
      split at p
      · rename_i hs
        rw [Bool.and_eq_true] at hs
        simp only [Bool.true_bne] at p
        exact rne_gen (pyOf_dp hh rx h1) (pyOf_dp hh ry h2) hs.1 hs.2 ((Bool.or_eq_true_iff.mp hr).imp (refD_is rx) (refD_is ry)) (p.here hh (.bl _))
      · exact p.elim
    · exact p.elim
  · split at p
    · rename_i c hc
      simp only [Bool.true_bne] at p
      unfold scalEq at hc
      split at hc <;> first
        | (cases hc; cases rx; cases ry; exact p.here hh (.bl _))
        | (cases hc; cases rx; cases ry; exact ⟨rfl, p.here hh (.bl _)⟩)
        | (cases hc; cases rx; cases ry; exact ⟨rfl, by simpa using p.here hh (.bl _)⟩)
        | cases hc
    · exact p.elim
end
end G
namespace G
open PySem PySem.Spec PyProof.Rows L2
/-! ### subscripts, slices, in, built-ins, methods -/
def gIx : D → D → AH → Res D := fun x y M => match x, y with
  | .str z, .int i => if z.length ≤ sizeLine then (match atI (tl z) i with | some c => .ok (.str (S [c])) M | none => .stuck) else .stuck
  | .dct ks xs, y => (match y with
    | .str z => (match ((ks.zip xs).find? fun p => decide (p.1 = (.inr z : Key))) with | some p => .ok p.2 M | none => .stuck)
    | .int z => (match ((ks.zip xs).find? fun p => decide (p.1 = (.inl z : Key))) with | some p => .ok p.2 M | none => .stuck)
    | _ => .stuck)
  | x, .int i => match tupOf x with
    | some xs => (match atI xs i with | some d => .ok d M | none => .stuck)
    | none => match listOf x M with
      | some xs => (match atI xs i with | some d => .ok d M | none => .stuck)
      | none => .stuck
  | _, _ => .stuck
def gIxS : D → D → AH → Res D := fun x y M => match x, y with
  | .str z, .int i => if z.length ≤ sizeLine then (match atI (tl z) i with | some c => .ok (.str (S [c])) M | none => .stuck) else .stuck
  | x, .int i => (match tupOf x with
    | some xs => (match atI xs i with | some d => .ok d M | none => .stuck)
    | none => match listOf x M with
      | some xs => (match atI xs i with | some d => .ok d M | none => .stuck)
      | none => .stuck)
  | _, _ => .stuck
def cutD (xs : List D) (lo hi : Option Int) : List D := (xs.drop (HT.sIx xs.length 0 lo)).take (HT.sIx xs.length xs.length hi - HT.sIx xs.length 0 lo)
def gSl : D → Option Int → Option Int → AH → Res D := fun x lo hi M => match x with
  | .str z => if z.length ≤ sizeLine then .ok (.str (cutS z lo hi)) M else .stuck
  | x => match listOf x M with
    | some xs => .ok (.ref M.length) (M ++ [.lst (cutD xs lo hi)])
    | none => .stuck
/-- scalars, and whether one is another one -/
def flatD : D → Bool
  | .non => true | .bl _ => true | .int _ => true | .str _ => true
  | _ => false
def eqF : D → D → Bool
  | .non, .non => true
  | .bl a, .bl b => a == b
  | .int a, .int b => decide (a = b)
  | .str a, .str b => decide (a = b)
  | .bl a, .int i => decide ((if a then (1 : Int) else 0) = i)
  | .int i, .bl a => decide (i = (if a then (1 : Int) else 0))
  | _, _ => false
def gIn (neg : Bool) : D → D → AH → Res D := fun x y M => match x, y with
  | .str c, .str z => (match c with
    | ⟨⟨[c]⟩⟩ => .ok (.bl (neg != decide (c ∈ tl z))) M
    | _ => .stuck)
  | x, y => match tupOf y with
    | some ys => if flatD x && ys.all flatD then .ok (.bl (neg != ys.any fun d => eqF d x)) M else .stuck
    | none => match listOf y M with
      | some ys => if flatD x && ys.all flatD then .ok (.bl (neg != ys.any fun d => eqF d x)) M else .stuck
      | none => .stuck
def gLen : List D → AH → Res D := fun xs M => match xs with
  | [.str z] => if z.length ≤ sizeLine then .ok (.int z.length) M else .stuck
  | [x] => (match tupOf x with
    | some ys => .ok (.int ys.length) M
    | none => match listOf x M with
      | some ys => .ok (.int ys.length) M
      | none => .stuck)
  | _ => .stuck
def gInt : List D → AH → Res D := fun xs M => match xs with
  | [.int i] => .ok (.int i) M
  | [.bl b] => .ok (.int (if b then 1 else 0)) M
  | [.str a] => (match PySem.intText? a with | some n => if a.length ≤ 640 then .ok (.int n) M else .stuck | none => .stuck)
  | _ => .stuck
def gAbs : List D → AH → Res D := fun xs M => match xs with
  | [.int i] => .ok (.int (if i < 0 then -i else i)) M
  | _ => .stuck
def gMax : List D → AH → Res D := fun xs M => match xs with
  | [.int i, .int j] => .ok (.int (if j > i then j else i)) M
  | _ => .stuck
def gMin : List D → AH → Res D := fun xs M => match xs with
  | [.int i, .int j] => .ok (.int (if j < i then j else i)) M
  | _ => .stuck
def gStr : List D → AH → Res D := fun xs M => match xs with
  | [.int i] => if i.natAbs.log2 < 1920 then .ok (.str (Str.ofString (toString i))) M else .stuck
  | _ => .stuck
def gDivmod : List D → AH → Res D := fun xs M => match xs with
  | [.int i, .int j] => if CDiv i j then .ok (.tuq [.int (i / j), .int (i % j)]) M else .stuck
  | _ => .stuck
def gTuple : List D → AH → Res D := fun xs M => match xs with
  | [x] => (match tupOf x with
    | some _ => .ok x M
    | none => match listOf x M with
      | some ys => .ok (.tup ys) M
      | none => .stuck)
  | _ => .stuck
def gList : List D → AH → Res D := fun xs M => match xs with
  | [x] => (match tupOf x with
    | some ys => .ok (.ref M.length) (M ++ [.lst ys])
    | none => match listOf x M with
      | some ys => .ok (.ref M.length) (M ++ [.lst ys])
      | none => .stuck)
  | _ => .stuck
def intsOf : List D → Option (List Int)
  | [] => some []
  | .int i :: r => (intsOf r).map (i :: ·)
  | _ => none
def blsOf : List D → Option (List Bool)
  | [] => some []
  | .bl i :: r => (blsOf r).map (i :: ·)
  | _ => none
def gSum : List D → AH → Res D := fun xs M => match xs with
  | [x] => (match listOf x M with
    | some ys => (match intsOf ys with | some ns => .ok (.int ns.sum) M | none => .stuck)
    | none => .stuck)
  | _ => .stuck
def gAll : List D → AH → Res D := fun xs M => match xs with
  | [x] => (match listOf x M with
    | some ys => (match blsOf ys with | some ns => .ok (.bl (ns.all id)) M | none => .stuck)
    | none => .stuck)
  | _ => .stuck
def gAny : List D → AH → Res D := fun xs M => match xs with
  | [x] => (match listOf x M with
    | some ys => (match blsOf ys with | some ns => .ok (.bl (ns.any id)) M | none => .stuck)
    | none => .stuck)
  | _ => .stuck
/-- the type's name -/
def tyD (d : D) (M : AH) : Option String := match d with
  | .non => some "NoneType" | .bl _ => some "bool" | .int _ => some "int" | .str _ => some "str"
  | .tup _ => some "tuple" | .tuq _ => some "tuple" | .lst _ => some "list" | .lsk _ => some "list" | .dct _ _ => some "dict"
  | .ref i => (match M[i]? with | some (.lst _) => some "list" | some (.dct _ _) => some "dict" | some (.dctL _ _) => some "dict" | _ => none)
  | _ => none
def isK (t n : String) : Bool := decide (t = n) || (decide (t = "bool") && decide (n = "int"))
def kinds : List String := ["NoneType", "bool", "int", "str", "tuple", "list", "dict"]
theorem kit_all : (kinds.all fun t => kinds.tail.all fun n => decide (kitB t n = some (isK t n))) = true := by decide +kernel
def gIsi : List D → AH → Res D := fun xs M => match xs with
  | [x, .ty n] => (match tyD x M with
    | some t => if n ∈ kinds.tail then .ok (.bl (isK t n)) M else .stuck
    | none => .stuck)
  | _ => .stuck
section
variable {K : PySem.W.Frag} {κ : Kap} {ι : List Addr} {F H : Hp} {M : AH}
theorem RepL.get {ds : List D} {vs : List V} (r : RepL K κ ι F ds vs) {i : Nat} {d : D} (h : ds[i]? = some d) : ∃ v, vs[i]? = some v ∧ Rep K κ ι F d v := by
  induction i generalizing ds vs with
  | zero => cases r with
    | nil => cases h
    | cons a b => cases h; exact ⟨_, rfl, a⟩
  | succ i ih => cases r with
    | nil => cases h
    | cons a b => exact ih b (by simpa using h)
theorem atI_rep {ds : List D} {vs : List V} (r : RepL K κ ι F ds vs) {i : Int} {d : D} (h : atI ds i = some d) : ∃ v, atI vs i = some v ∧ Rep K κ ι F d v := by
  unfold atI at h ⊢
  rw [← r.len]
  cases q : ixN ds.length i with
  | none => rw [q] at h; cases h
  | some j =>
    rw [q] at h
    exact r.get h
theorem ixSK : LR2 K κ (rIxG K) gIxS := fun H M ι F x y v w Q e hh rx ry p => by
  unfold gIxS at p
  split at p
  · cases rx; cases ry
    split at p
    · rename_i hz
      split at p
      · rename_i c hc
        exact ⟨hz, c, hc, p.here hh (.str _)⟩
      · exact p.elim
    · exact p.elim
  · cases ry
    split at p
    · rename_i hx
      split at p
      · rename_i hd
        obtain ⟨a, vs, rfl, h1, r1⟩ := tup_at hh rx hx
        obtain ⟨u, hu, ru⟩ := atI_rep r1 hd
        exact ⟨vs, u, .inr h1, hu, p.here hh ru⟩
      · exact p.elim
    · split at p
      · rename_i hx
        split at p
        · rename_i hd
          obtain ⟨a, vs, rfl, h1, r1⟩ := list_at hh rx hx
          obtain ⟨u, hu, ru⟩ := atI_rep r1 hd
          exact ⟨vs, u, .inl h1, hu, p.here hh ru⟩
        · exact p.elim
      · exact p.elim
  · exact p.elim
theorem RepL.drop {ds : List D} {vs : List V} (r : RepL K κ ι F ds vs) : ∀ n, RepL K κ ι F (ds.drop n) (vs.drop n)
  | 0 => r
  | n + 1 => match r with
    | .nil => .nil
    | .cons _ b => RepL.drop b n
theorem RepL.takeN {ds : List D} {vs : List V} (r : RepL K κ ι F ds vs) : ∀ n, RepL K κ ι F (ds.take n) (vs.take n)
  | 0 => .nil
  | n + 1 => match r with
    | .nil => .nil
    | .cons a b => .cons a (RepL.takeN b n)
theorem cut_rep {ds : List D} {vs : List V} (r : RepL K κ ι F ds vs) (lo hi : Option Int) : RepL K κ ι F (cutD ds lo hi) (cutV vs lo hi) := by
  unfold cutD cutV
  rw [← r.len]
  exact (r.drop _).takeN _
theorem slK : LSl K κ (rSlG K) gSl := fun H M ι F x l u v Q e hh rx p => by
  unfold gSl at p
  split at p
  · cases rx
    split at p
    · rename_i hz
      exact ⟨hz, p.here hh (.str _)⟩
    · exact p.elim
  · split at p
    · rename_i hx
      obtain ⟨a, vs, rfl, h1, r1⟩ := list_at hh rx hx
      refine .inl ⟨vs, h1, fun q hq => ?_⟩
      obtain ⟨e2, hh2, h5⟩ := hh.new (ho := .lst (cutV vs l u)) hq (.lst (cut_rep r1 l u))
      exact p _ _ _ _ e2 hh2 (.ref h5)
    · exact p.elim
theorem flat_rep {d : D} {v : V} (r : Rep K κ ι F d v) (h : flatD d = true) : flatV v = true := by
  cases r <;> first | rfl | (simp [flatD] at h)
theorem flats_rep {ds : List D} {vs : List V} (r : RepL K κ ι F ds vs) (h : ds.all flatD = true) : vs.all flatV = true := by
  induction ds generalizing vs with
  | nil => cases r; rfl
  | cons d ds ih =>
    cases r with
    | cons a b =>
      rw [List.all_cons, Bool.and_eq_true] at h ⊢
      exact ⟨flat_rep a h.1, ih b h.2⟩
theorem eqF_rep {d e : D} {v w : V} (r : Rep K κ ι F d v) (s : Rep K κ ι F e w) (h : flatD d = true) (h' : flatD e = true) : eqV v w = eqF d e := by
  cases r <;> first
    | (simp [flatD] at h; done)
    | (cases s <;> first
        | (simp [flatD] at h'; done)
        | rfl
        | (simp [eqV, eqF]; done)
        | (simp only [eqV, eqF]; first | rfl | (simp; done) | (exact decide_eq_decide.mpr (by simp; done)) | skip))
theorem in_rep {e : D} {w : V} {ds : List D} {vs : List V} (s : Rep K κ ι F e w) (r : RepL K κ ι F ds vs) (h' : flatD e = true) (h : ds.all flatD = true) : inV w vs = ds.any fun d => eqF d e := by
  unfold inV
  induction ds generalizing vs with
  | nil => cases r; rfl
  | cons d ds ih =>
    cases r with
    | cons a b =>
      rw [List.all_cons, Bool.and_eq_true] at h
      rw [List.any_cons, List.any_cons, eqF_rep a s h.1 h', ih b h.2]
theorem negIf {n b : Bool} : (n != b) = if n then !b else b := by cases n <;> cases b <;> rfl
theorem inK (neg : Bool) : LR2 K κ (rInG K neg) (gIn neg) := fun H M ι F x y v w Q e hh rx ry p => by
  unfold gIn at p
  split at p
  · cases rx; cases ry
    split at p
    · exact ⟨_, rfl, by have := p.here hh (.bl _); rw [negIf] at this; exact this⟩
    · exact p.elim
  · split at p
    · rename_i hx
      split at p
      · rename_i hf
        rw [Bool.and_eq_true] at hf
        obtain ⟨a, vs, rfl, h1, r1⟩ := tup_at hh ry hx
        refine ⟨vs, .inr h1, flat_rep rx hf.1, flats_rep r1 hf.2, ?_⟩
        rw [in_rep rx r1 hf.1 hf.2]
        have := p.here hh (.bl _)
        rw [negIf] at this
        exact this
      · exact p.elim
    · split at p
      · rename_i hx
        split at p
        · rename_i hf
          rw [Bool.and_eq_true] at hf
          obtain ⟨a, vs, rfl, h1, r1⟩ := list_at hh ry hx
          refine ⟨vs, .inl h1, flat_rep rx hf.1, flats_rep r1 hf.2, ?_⟩
          rw [in_rep rx r1 hf.1 hf.2]
          have := p.here hh (.bl _)
          rw [negIf] at this
          exact this
        · exact p.elim
      · exact p.elim
theorem lenK : LRN K κ (rLenG K) gLen := fun H M ι F xs vs Q e hh r p => by
  unfold gLen at p
  split at p
  · split at p
    · rename_i hz
      cases r with | cons a b => cases a; cases b; exact ⟨hz, p.here hh (.int _)⟩
    · exact p.elim
  · cases r with
    | cons a b =>
      cases b
      split at p
      · rename_i hx
        obtain ⟨q, ws, rfl, h1, r1⟩ := tup_at hh a hx
        exact ⟨ws, .inr h1, by rw [← r1.len]; exact p.here hh (.int _)⟩
      · split at p
        · rename_i hx
          obtain ⟨q, ws, rfl, h1, r1⟩ := list_at hh a hx
          exact ⟨ws, .inl h1, by rw [← r1.len]; exact p.here hh (.int _)⟩
        · exact p.elim
  · exact p.elim
theorem intK : LRN K κ rIntG gInt := fun H M ι F xs vs Q e hh r p => by
  unfold gInt at p
  split at p
  · cases r with | cons a b => cases a; cases b; exact p.here hh (.int _)
  · cases r with | cons a b => cases a; cases b; exact p.here hh (.int _)
  · split at p
    · rename_i n hn
      split at p
      · rename_i hl
        cases r with | cons a b => cases a; cases b; exact ⟨n, hn, hl, p.here hh (.int _)⟩
      · exact p.elim
    · exact p.elim
  · exact p.elim
theorem absK : LRN K κ rAbsG gAbs := fun H M ι F xs vs Q e hh r p => by
  unfold gAbs at p
  split at p
  · cases r with | cons a b => cases a; cases b; exact p.here hh (.int _)
  · exact p.elim
theorem maxK : LRN K κ rMaxG gMax := fun H M ι F xs vs Q e hh r p => by
  unfold gMax at p
  split at p
  · cases r with | cons a b => cases a; cases b with | cons c d => cases c; cases d; exact p.here hh (.int _)
  · exact p.elim
theorem minK : LRN K κ rMinG gMin := fun H M ι F xs vs Q e hh r p => by
  unfold gMin at p
  split at p
  · cases r with | cons a b => cases a; cases b with | cons c d => cases c; cases d; exact p.here hh (.int _)
  · exact p.elim
theorem strK : LRN K κ rStrG gStr := fun H M ι F xs vs Q e hh r p => by
  unfold gStr at p
  split at p
  · split at p
    · rename_i hl
      cases r with | cons a b => cases a; cases b; exact ⟨hl, p.here hh (.str _)⟩
    · exact p.elim
  · exact p.elim
theorem divmodK : LRN K κ rDivmodG gDivmod := fun H M ι F xs vs Q e hh r p => by
  unfold gDivmod at p
  split at p
  · split at p
    · rename_i hc
      cases r with
      | cons a b =>
        cases a
        cases b with
        | cons c d =>
          cases c; cases d
          refine ⟨hc, fun q hq => ?_⟩
          obtain ⟨e2, h3⟩ := hh.newF hq (.tup [.int _, .int _])
          exact p _ _ _ _ e2 h3 (.tuq (.inl (.inl upd_same)) (.cons (.int _) (.cons (.int _) .nil)))
    · exact p.elim
  · exact p.elim
/-- tuple(..) of a tuple, of a list -/
def rTupleG (K : PySem.W.Frag) : List V → Hp → VK → Prop := fun xs H Q => ∃ p ys, xs = [.ref p] ∧ ((SqL K H p ys ∧ ∀ l o, H l = none → o.cls = .type "tuple" → o.dict = none → Q (.ref l) (upd H l (.frz o (.tup ys)))) ∨ (SqT K H p ys ∧ Q (.ref p) H))
theorem call_tupleG {X : Cx} : CallR X (.type "tuple") (rTupleG X.K) := by
  intro pins s σ H xs us Q I r h
  obtain ⟨p, ys, e, h⟩ := h
  rcases h with ⟨h1, h2⟩ | ⟨h1, h2⟩
  · exact call_tupleF pins s σ H xs us Q I r ⟨p, ys, e, h1, h2⟩
  · exact call_tupleT pins s σ H xs us Q I r ⟨p, ys, e, h1, h2⟩
theorem tupleK : LRN K κ (rTupleG K) gTuple := fun H M ι F xs vs Q e hh r p => by
  unfold gTuple at p
  split at p
  · cases r with
    | cons a b =>
      cases b
      split at p
      · rename_i hx
        obtain ⟨q, ws, rfl, h1, r1⟩ := tup_at hh a hx
        exact ⟨q, ws, rfl, .inr ⟨h1, p.here hh a⟩⟩
      · split at p
        · rename_i hx
          obtain ⟨q, ws, rfl, h1, r1⟩ := list_at hh a hx
          refine ⟨q, ws, rfl, .inl ⟨h1, fun l o hl hc hd => ?_⟩⟩
          obtain ⟨e2, h3⟩ := hh.newF hl (.frz o (.tup ws))
          exact p _ _ _ _ e2 h3 (.tup (.inl ⟨o, upd_same, hc, hd⟩) (r1.ext e2))
        · exact p.elim
  · exact p.elim
def rListG (K : PySem.W.Frag) : List V → Hp → VK → Prop := fun xs H Q => ∃ p ys, xs = [.ref p] ∧ (SqL K H p ys ∨ SqT K H p ys) ∧ ∀ l, H l = none → Q (.ref l) (upd H l (.lst ys))
theorem call_listG {X : Cx} : CallR X (.type "list") (rListG X.K) := call_list_of
theorem listK : LRN K κ (rListG K) gList := fun H M ι F xs vs Q e hh r p => by
  unfold gList at p
  split at p
  · cases r with
    | cons a b =>
      cases b
      split at p
      · rename_i hx
        obtain ⟨q, ws, rfl, h1, r1⟩ := tup_at hh a hx
        refine ⟨q, ws, rfl, .inr h1, fun l hl => ?_⟩
        obtain ⟨e2, hh2, h5⟩ := hh.new (ho := .lst ws) hl (.lst r1)
        exact p _ _ _ _ e2 hh2 (.ref h5)
      · split at p
        · rename_i hx
          obtain ⟨q, ws, rfl, h1, r1⟩ := list_at hh a hx
          refine ⟨q, ws, rfl, .inl h1, fun l hl => ?_⟩
          obtain ⟨e2, hh2, h5⟩ := hh.new (ho := .lst ws) hl (.lst r1)
          exact p _ _ _ _ e2 hh2 (.ref h5)
        · exact p.elim
  · exact p.elim
theorem ints_rep : ∀ {ds : List D} {vs : List V} {ns : List Int}, RepL K κ ι F ds vs → intsOf ds = some ns → vs = ns.map V.int
  | [], _, _, r, h => by cases r; simp only [intsOf] at h; cases h; rfl
  | d :: ds, _, _, r, h => by
    cases r with
    | cons a b =>
      cases a <;> simp only [intsOf] at h <;> first
        | (cases h; done)
        | (obtain ⟨x, hx, rfl⟩ := Option.map_eq_some_iff.mp h; rw [ints_rep b hx]; rfl)
theorem bls_rep : ∀ {ds : List D} {vs : List V} {ns : List Bool}, RepL K κ ι F ds vs → blsOf ds = some ns → vs = ns.map V.bl
  | [], _, _, r, h => by cases r; simp only [blsOf] at h; cases h; rfl
  | d :: ds, _, _, r, h => by
    cases r with
    | cons a b =>
      cases a <;> simp only [blsOf] at h <;> first
        | (cases h; done)
        | (obtain ⟨x, hx, rfl⟩ := Option.map_eq_some_iff.mp h; rw [bls_rep b hx]; rfl)
theorem sumK : LRN K κ (rSum K) gSum := fun H M ι F xs vs Q e hh r p => by
  unfold gSum at p
  split at p
  · cases r with
    | cons a b =>
      cases b
      split at p
      · rename_i hx
        split at p
        · rename_i ns hn
          obtain ⟨q, ws, rfl, h1, r1⟩ := list_at hh a hx
          exact ⟨q, ns, rfl, by rw [← ints_rep r1 hn]; exact h1, p.here hh (.int _)⟩
        · exact p.elim
      · exact p.elim
  · exact p.elim
theorem allK : LRN K κ (rAll K) gAll := fun H M ι F xs vs Q e hh r p => by
  unfold gAll at p
  split at p
  · cases r with
    | cons a b =>
      cases b
      split at p
      · rename_i hx
        split at p
        · rename_i ns hn
          obtain ⟨q, ws, rfl, h1, r1⟩ := list_at hh a hx
          exact ⟨q, ns, rfl, by rw [← bls_rep r1 hn]; exact h1, p.here hh (.bl _)⟩
        · exact p.elim
      · exact p.elim
  · exact p.elim
theorem anyK : LRN K κ (rAny K) gAny := fun H M ι F xs vs Q e hh r p => by
  unfold gAny at p
  split at p
  · cases r with
    | cons a b =>
      cases b
      split at p
      · rename_i hx
        split at p
        · rename_i ns hn
          obtain ⟨q, ws, rfl, h1, r1⟩ := list_at hh a hx
          exact ⟨q, ns, rfl, by rw [← bls_rep r1 hn]; exact h1, p.here hh (.bl _)⟩
        · exact p.elim
      · exact p.elim
  · exact p.elim
theorem kit_of' {t n : String} (ht : t ∈ kinds) (hn : n ∈ kinds.tail) : kitB t n = some (isK t n) := of_decide_eq_true (List.all_eq_true.mp (List.all_eq_true.mp kit_all t ht) n hn)
theorem tyX_tup {a : Addr} {vs : List V} (h : SqT K H a vs) : TyX K H (.ref a) (.type "tuple") := by
  rcases h with h | ⟨o, its, n, h1, h2, _⟩
  · rcases h with h | ⟨o, h⟩
    · exact .base (.tup h)
    · exact .fTuple h
  · exact .kTuple h1 h2
theorem tyX_lst {a : Addr} {vs : List V} (h : SqL K H a vs) : TyX K H (.ref a) (.type "list") := by
  rcases h with h | ⟨o, its, n, h1, h2, _⟩
  · rcases h with h | ⟨o, h⟩
    · exact .base (.lst h)
    · exact .base (.frz h)
  · exact .kList h1 h2
theorem isiK : LRN K κ (rIsiH K) gIsi := fun H M ι F xs vs Q e hh r p => by
  unfold gIsi at p
  split at p
  · rename_i x n
    split at p
    · rename_i t ht
      split at p
      · rename_i hn
        cases r with
        | cons a b =>
          cases b with
          | cons c d =>
            cases c; cases d
            have q := p.here hh (.bl _)
            have flat : ∀ {v : V}, Rep K κ ι F x v → flatV v = true → tyOf v = t → t ∈ kinds → (∀ z, v ≠ .ref z) → rIsiH K [v, .ty n] H Q := fun {v} _ h1 h2 h3 h4 => by
              have : rIsiG [v, .ty n] H Q := ⟨h1, by rw [h2]; intro z; rw [z] at h3; revert h3; decide, _, by rw [h2]; exact kit_of' h3 hn, q⟩
              unfold rIsiH
              cases v <;> first | exact this | exact absurd rfl (h4 _)
            have refs : ∀ {z : Addr}, TyX K H (.ref z) (.type t) → t ∈ kinds → rIsiH K [.ref z, .ty n] H Q := fun h1 h2 => ⟨t, _, h1, kit_of' h2 hn, q⟩
            unfold tyD at ht
            split at ht
            · cases ht; cases a; exact flat .non rfl rfl (by decide) (fun z e => by cases e)
            · cases ht; cases a; exact flat (.bl _) rfl rfl (by decide) (fun z e => by cases e)
            · cases ht; cases a; exact flat (.int _) rfl rfl (by decide) (fun z e => by cases e)
            · cases ht; cases a; exact flat (.str _) rfl rfl (by decide) (fun z e => by cases e)
            · cases ht
              obtain ⟨z, ws, rfl, h1, _⟩ := tup_at hh a rfl
              exact refs (tyX_tup h1) (by decide)
            · cases ht
              obtain ⟨z, ws, rfl, h1, _⟩ := tup_at hh a rfl
              exact refs (tyX_tup h1) (by decide)
            · cases ht
              obtain ⟨z, ws, rfl, h1, _⟩ := list_at hh a rfl
              exact refs (tyX_lst h1) (by decide)
            · cases ht
              obtain ⟨z, ws, rfl, h1, _⟩ := list_at hh a rfl
              exact refs (tyX_lst h1) (by decide)
            · cases ht
              obtain ⟨z, ws, rfl, h1, _⟩ := dct_at hh a rfl
              rcases h1 with h1 | ⟨_, h1⟩
              · exact refs (.base (.dK h1)) (by decide)
              · exact refs (.fDict h1) (by decide)
            · split at ht
              · rename_i hM
                cases ht
                obtain ⟨z, u, rfl, _, h2, h3⟩ := relH_ref hh a hM
                cases h3 with | lst h3 => exact refs (.base (.lst h2)) (by decide)
              · rename_i hM
                cases ht
                obtain ⟨z, u, rfl, _, h2, h3⟩ := relH_ref hh a hM
                cases h3 with | dct l h3 => exact refs (.base (.dK h2)) (by decide)
              · rename_i hM
                cases ht
                obtain ⟨z, u, rfl, _, h2, h3⟩ := relH_ref hh a hM
                cases h3 with | dctL l h3 => exact refs (.fDict h2) (by decide)
              · cases ht
            · cases ht
      · exact p.elim
    · exact p.elim
  · exact p.elim
end
end G
namespace G
open PySem PySem.Spec PyProof.Rows L2
/-! ### statements -/
abbrev FG := D → AS → AH → SRes
section
variable (K : PySem.W.Frag) (κ : Kap) (E : EK)
def LG (g : TG) (f : FG) : Prop := ∀ v d σ δ H M ι F T, RelS K κ E ι F H δ σ → RelH K κ ι F H M → Rep K κ ι F d v → SPost K κ ι F H (f d δ M) T E → g v σ H T.nx
def LGs (g : TGs) (f : List D → AS → AH → SRes) : Prop := ∀ vs ds σ δ H M ι F T, RelS K κ E ι F H δ σ → RelH K κ ι F H M → RepL K κ ι F ds vs → SPost K κ ι F H (f ds δ M) T E → g vs σ H T.nx
end
def fgName (i : Nat) : FG := fun d δ M => .nx (δ.set i (some d)) M
def fgNil : List D → AS → AH → SRes := fun ds δ M => match ds with | [] => .nx δ M | _ => .stuck
def thenG (r : SRes) (k : AS → AH → SRes) : SRes := match r with
  | .nx δ M => k δ M
  | .exc c p δ M => .exc c p δ M
  | _ => .stuck
def fgCons (f : FG) (fs : List D → AS → AH → SRes) : List D → AS → AH → SRes := fun ds δ M => match ds with | d :: r => thenG (f d δ M) (fs r) | _ => .stuck
def fgTup (n : Nat) (fs : List D → AS → AH → SRes) : FG := fun d δ M => match tupOf d with
  | some xs => if xs.length = n then fs xs δ M else .stuck
  | none => .stuck
def fgLst (n : Nat) (fs : List D → AS → AH → SRes) : FG := fun d δ M => match listOf d M with
  | some xs => if xs.length = n then fs xs δ M else .stuck
  | none => .stuck
def fSeq (a b : FS) : FS := fun δ M => match a δ M with
  | .nx δ' M' => b δ' M'
  | r => r
def fIfS (t : FT) (a b : FS) : FS := fun δ M => (t δ M).thenS δ fun c M1 => if c then a δ M1 else b δ M1
def fRet (e : FE) : FS := fun δ M => (e δ M).thenS δ fun d M1 => .rt d M1
def fRetN : FS := fun _ M => .rt .non M
def fAsg (e : FE) (g : FG) : FS := fun δ M => (e δ M).thenS δ fun d M1 => g d δ M1
def fDrop (e : FE) : FS := fun δ M => (e δ M).thenS δ fun _ M1 => .nx δ M1
def fNext : FS := fun δ M => .nx δ M
def fNever : FS := fun _ _ => .stuck
def fBreak : FS := fun δ M => .bk δ M
def fCont : FS := fun δ M => .ct δ M
def fPar (i j : Nat) (a : FA) : FS := fun δ M => (a δ M).thenS δ fun ds M1 => match ds with
  | [x, y] => .nx ((δ.set i (some x)).set j (some y)) M1
  | _ => .stuck
def fRaiseC (c f : String) (a : FA) : FS := fun δ M => (a δ M).thenS δ fun ds M1 => match ds with
  | [d] => .exc c (some ([f], [d])) δ M1
  | _ => .stuck
/-- xs[i] = v -/
def fgSub (o i : FE) : FG := fun d δ M => (o δ M).thenS δ fun x M1 => (i δ M1).thenS δ fun k M2 => match x, k with
  | .ref l, .int k => (match M2[l]? with
    | some (.lst xs) => (match ixN xs.length k with | some j => .nx δ (M2.set l (.lst (xs.set j d))) | none => .stuck)
    | _ => .stuck)
  | _, _ => .stuck
def loopS (r : SRes) (k : AS → AH → SRes) : SRes := match r with
  | .nx δ M => k δ M
  | .ct δ M => k δ M
  | .bk δ M => .nx δ M
  | r => r
def fWhile (t : FT) (b : FS) : Nat → FS
  | 0 => fun _ _ => .stuck
  | n + 1 => fun δ M => (t δ M).thenS δ fun c M1 => if c then loopS (b δ M1) (fWhile t b n) else .nx δ M1
/-- what is walked: the things, and whether it stands as it did -/
abbrev Itm := List D × (AH → Bool)
abbrev FI := AS → AH → Res Itm
def fForL (chk : AH → Bool) (g : FG) (b : FS) : List D → FS
  | [] => fun δ M => if chk M then .nx δ M else .stuck
  | d :: ds => fun δ M => if chk M then thenG (g d δ M) (fun δ1 M1 => loopS (b δ1 M1) (fForL chk g b ds)) else .stuck
def fFor (i : FI) (g : FG) (b : FS) : FS := fun δ M => (i δ M).thenS δ fun it M1 => fForL it.2 g b it.1 δ M1
section
variable {K : PySem.W.Frag} {κ : Kap} {E : EK} {ι ι' : List Addr} {F F' H H' : Hp} {M M' : AH}
theorem SPost.of {r : SRes} {T : Ends} {σ : L2.St} {δ : AS} (p : SPost K κ ι F H (.nx δ M) T E) (hs : RelS K κ E ι F H δ σ) (hh : RelH K κ ι F H M) : T.nx σ H := p σ H ι F Ext.refl hh hs
theorem lg_name {i : Nat} (hE : E.Free) : LG K κ E (gName i) (fgName i) := fun v d σ δ H M ι F T hs hh r p => p _ _ _ _ Ext.refl hh (hs.set hE r i)
theorem lgs_nil : LGs K κ E gNil fgNil := fun vs ds σ δ H M ι F T hs hh r p => by
  cases r with
  | nil => exact ⟨rfl, p _ _ _ _ Ext.refl hh hs⟩
  | cons a b => exact p.elim
theorem SPost.thenG {r : SRes} {k : AS → AH → SRes} {T : Ends} (p : SPost K κ ι F H (thenG r k) T E) : SPost K κ ι F H r { T with nx := fun σ' H' => ∃ δ' M' ι' F', Ext ι F H ι' F' H' ∧ RelH K κ ι' F' H' M' ∧ RelS K κ E ι' F' H' δ' σ' ∧ SPost K κ ι' F' H' (k δ' M') T E } E := by
  unfold G.thenG at p
  cases r with
  | nx δ M1 => exact fun σ' H' ι' F' e h s => ⟨δ, M1, ι', F', e, h, s, SPost.mono e p⟩
  | exc c q δ M1 => cases q <;> exact p
  | rt d M1 => exact p.elim
  | bk δ M1 => exact p.elim
  | ct δ M1 => exact p.elim
  | stuck => exact p.elim
theorem lgs_cons {g : TG} {gs : TGs} {f : FG} {fs : List D → AS → AH → SRes} (h1 : LG K κ E g f) (h2 : LGs K κ E gs fs) : LGs K κ E (gCons g gs) (fgCons f fs) := fun vs ds σ δ H M ι F T hs hh r p => by
  cases r with
  | nil => exact p.elim
  | @cons d v ds vs a b =>
    refine ⟨v, vs, rfl, ?_⟩
    refine h1 v d σ δ H M ι F { T with nx := fun σ' H' => gs vs σ' H' T.nx } hs hh a ?_
    have q := SPost.thenG (r := f d δ M) (k := fs ds) p
    revert q
    generalize f d δ M = r
    intro q
    cases r with
    | nx δ M1 =>
      intro σ' H' ι' F' e h s
      obtain ⟨δ', M', ι2, F2, e2, h3, s2, p2⟩ := q σ' H' ι' F' e h s
      exact h2 vs ds σ' δ' H' M' ι2 F2 T s2 h3 (b.ext e2) p2
    | exc c q2 δ M1 => cases q2 <;> exact q
    | rt d M1 => exact q
    | bk δ M1 => exact q
    | ct δ M1 => exact q
    | stuck => exact q.elim
theorem lg_tup {n : Nat} {gs : TGs} {fs : List D → AS → AH → SRes} (h : LGs K κ E gs fs) : LG K κ E (gTup K n gs) (fgTup n fs) := fun v d σ δ H M ι F T hs hh r p => by
  unfold fgTup at p
  split at p
  · rename_i hx
    split at p
    · rename_i hn
      obtain ⟨a, vs, rfl, h1, r1⟩ := tup_at hh r hx
      exact ⟨a, vs, rfl, h1, by rw [← r1.len]; exact hn, h vs _ σ δ H M ι F T hs hh r1 p⟩
    · exact p.elim
  · exact p.elim
theorem lg_lst {n : Nat} {gs : TGs} {fs : List D → AS → AH → SRes} (h : LGs K κ E gs fs) : LG K κ E (gLst K n gs) (fgLst n fs) := fun v d σ δ H M ι F T hs hh r p => by
  unfold fgLst at p
  split at p
  · rename_i hx
    split at p
    · rename_i hn
      obtain ⟨a, vs, rfl, h1, r1⟩ := list_at hh r hx
      exact ⟨a, vs, rfl, h1, by rw [← r1.len]; exact hn, h vs _ σ δ H M ι F T hs hh r1 p⟩
    · exact p.elim
  · exact p.elim
theorem lg_sub {to ti : TE} {fo fi : FE} (h1 : LE K κ E to fo) (h2 : LE K κ E ti fi) : LG K κ E (L2.gSub to ti rSetL) (fgSub fo fi) := fun v d σ δ H M ι F T hs hh r p => by
  refine h1 σ δ H M ι F _ hs hh ((SPost.thenS (R := Rep K κ) hs p).mono Ext.refl ?_)
  rintro x H1 ⟨dx, M1, ι1, F1, e1, hh1, rx, p1⟩
  have hs1 := hs.ext e1
  refine h2 σ δ H1 M1 ι1 F1 _ hs1 hh1 ((SPost.thenS (R := Rep K κ) hs1 p1).mono Ext.refl ?_)
  rintro k H2 ⟨dk, M2, ι2, F2, e2, hh2, rk, p2⟩
  split at p2
  · rename_i l k
    split at p2
    · rename_i ds hM
      split at p2
      · rename_i j hj
        cases rk
        obtain ⟨a, u, rfl, ha, hu, ru⟩ := relH_ref hh2 (rx.ext e2) hM
        cases ru with
        | @lst _ ws ru =>
          refine ⟨a, ws, k, j, rfl, rfl, hu, by rw [← ru.len]; exact hj, ?_⟩
          have rset : ∀ {ds : List D} {ws : List V} (j : Nat), RepL K κ ι2 F2 ds ws → RepL K κ ι2 F2 (ds.set j d) (ws.set j v) := by
            intro ds ws j h
            induction ds generalizing ws j with
            | nil => cases h; exact .nil
            | cons x ds ih => cases h with
              | cons h3 h4 => cases j with
                | zero => exact .cons ((r.ext e1).ext e2) h4
                | succ j => exact .cons h3 (ih j h4)
          obtain ⟨e3, hh3⟩ := hh2.put (o := .lst (ds.set j d)) (ho := .lst (ws.set j v)) ha hM rfl (.lst (rset j ru))
          exact p2 _ _ _ _ e3 hh3 ((hs1.ext e2).ext e3)
      · exact p2.elim
    · exact p2.elim
  · exact p2.elim
theorem ls_seq {t u : TS} {f g : FS} (h1 : LS K κ E t f) (h2 : LS K κ E u g) : LS K κ E (tSeq t u) (fSeq f g) := fun σ δ H M ι F T hs hh p => by
  refine h1 σ δ H M ι F _ hs hh ?_
  unfold fSeq at p
  revert p
  generalize f δ M = r
  intro p
  cases r with
  | nx δ M1 => exact fun σ' H' ι' F' e h s => h2 σ' δ H' M1 ι' F' T s h (SPost.mono e p)
  | exc c q2 δ M1 => cases q2 <;> exact p
  | rt d M1 => exact p
  | bk δ M1 => exact p
  | ct δ M1 => exact p
  | stuck => exact p.elim
theorem ls_if {t : TT} {a b : TS} {ft : FT} {fa fb : FS} (ht : LT K κ E t ft) (ha : LS K κ E a fa) (hb : LS K κ E b fb) : LS K κ E (tIfS t a b) (fIfS ft fa fb) := fun σ δ H M ι F T hs hh p => by
  refine ht σ δ H M ι F _ hs hh ((SPost.thenS (R := REq) hs p).mono Ext.refl ?_)
  rintro c H1 ⟨d, M1, ι1, F1, e1, h1, r1, p1⟩
  cases (show d = c from r1)
  cases c with
  | true => exact ha σ δ H1 M1 ι1 F1 T (hs.ext e1) h1 p1
  | false => exact hb σ δ H1 M1 ι1 F1 T (hs.ext e1) h1 p1
theorem ls_ret {t : TE} {f : FE} (h : LE K κ E t f) : LS K κ E (tRet t) (fRet f) := fun σ δ H M ι F T hs hh p => by
  refine h σ δ H M ι F _ hs hh ((SPost.thenS (R := Rep K κ) hs p).mono Ext.refl ?_)
  rintro v H1 ⟨d, M1, ι1, F1, e1, h1, r1, p1⟩
  exact p1 v H1 ι1 F1 Ext.refl h1 r1
theorem ls_retN : LS K κ E tRetN fRetN := fun σ δ H M ι F T hs hh p => p .non H ι F Ext.refl hh .non
theorem ls_asg {t : TE} {f : FE} {g : TG} {fg : FG} (h : LE K κ E t f) (hg : LG K κ E g fg) : LS K κ E (tAsg t g) (fAsg f fg) := fun σ δ H M ι F T hs hh p => by
  refine h σ δ H M ι F _ hs hh ((SPost.thenS (R := Rep K κ) hs p).mono Ext.refl ?_)
  rintro v H1 ⟨d, M1, ι1, F1, e1, h1, r1, p1⟩
  exact hg v d σ δ H1 M1 ι1 F1 T (hs.ext e1) h1 r1 p1
theorem ls_drop {t : TE} {f : FE} (h : LE K κ E t f) : LS K κ E (tDrop t) (fDrop f) := fun σ δ H M ι F T hs hh p => by
  refine h σ δ H M ι F _ hs hh ((SPost.thenS (R := Rep K κ) hs p).mono Ext.refl ?_)
  rintro v H1 ⟨d, M1, ι1, F1, e1, h1, r1, p1⟩
  exact p1 σ H1 ι1 F1 Ext.refl h1 (hs.ext e1)
theorem ls_next : LS K κ E tNext fNext := fun σ δ H M ι F T hs hh p => p σ H ι F Ext.refl hh hs
theorem ls_never : LS K κ E tNever fNever := fun σ δ H M ι F T hs hh p => p.elim
theorem ls_break : LS K κ E tBreak fBreak := fun σ δ H M ι F T hs hh p => p σ H ι F Ext.refl hh hs
theorem ls_cont : LS K κ E tCont fCont := fun σ δ H M ι F T hs hh p => p σ H ι F Ext.refl hh hs
theorem ls_par {i j : Nat} {t : TA} {f : FA} (hE : E.Free) (h : LA K κ E t f) : LS K κ E (tPar i j t) (fPar i j f) := fun σ δ H M ι F T hs hh p => by
  refine h σ δ H M ι F _ hs hh ((SPost.thenS (R := RepL K κ) hs p).mono Ext.refl ?_)
  rintro vs H1 ⟨ds, M1, ι1, F1, e1, h1, r1, p1⟩
  split at p1
  · cases r1 with
    | cons a b => cases b with
      | cons c d =>
        cases d
        exact ⟨_, _, rfl, p1 _ H1 ι1 F1 Ext.refl h1 (((hs.ext e1).set hE a i).set hE c j)⟩
  · exact p1.elim
theorem ext_same (s : Same H H') (hh : RelH K κ ι F H M) : Ext ι F H ι F H' ∧ RelH K κ ι F H' M := by
  refine ⟨⟨List.prefix_rfl, Same.refl _, fun a o e _ _ => .inl (s _ _ e), fun a e => (show Nn H a from by
    cases q : H a with
    | none => exact .inl q
    | some o => rcases e with e | ⟨ps, e⟩ <;> rw [s _ _ q] at e <;> cases e; exact .inr ⟨ps, q⟩), fun a h => .inl h, fun a o e => .inl e⟩, ⟨hh.le.trans s.toLe, tabs_same hh.tb s, hh.nt, hh.len, hh.nd, hh.dis, fun i o e => ?_⟩⟩
  obtain ⟨a, u, h1, h2, h3⟩ := hh.pl i o e
  exact ⟨a, u, h1, s _ _ h2, h3⟩
theorem ls_raiseC {c f : String} {t : TA} {fa : FA} {W : WX} (hW : ∀ σ cls d H, E.E σ cls d H → W cls d σ H) (h : LA K κ E t fa) : LS K κ E (tRaiseC (κ c) (Str.ofString f) W t) (fRaiseC c f fa) := fun σ δ H M ι F T hs hh p => by
  rw [w_RaiseC]
  refine h σ δ H M ι F _ hs hh ((SPost.thenS (R := RepL K κ) hs p).mono Ext.refl ?_)
  rintro vs H1 ⟨ds, M1, ι1, F1, e1, h1, r1, p1⟩
  split at p1
  · cases r1 with
    | @cons d v _ _ a b =>
      cases b
      refine rMk_of fun x H2 s2 hx hx2 => hW _ _ _ _ ?_
      obtain ⟨e2, h2⟩ := ext_same s2 h1
      exact p1 σ x H2 ι1 F1 [v] (.inl hx) e2 h2 ((hs.ext e1).ext e2) rfl (.cons (a.ext e2) .nil) hx2
  · exact p1.elim
theorem SPost.loop {r : SRes} {k : AS → AH → SRes} {T : Ends} {N : L2.St → Hp → Prop} (p : SPost K κ ι F H (loopS r k) T E)
    (hN : ∀ σ' H' δ' M' ι' F', Ext ι F H ι' F' H' → RelH K κ ι' F' H' M' → RelS K κ E ι' F' H' δ' σ' → SPost K κ ι' F' H' (k δ' M') T E → N σ' H') : SPost K κ ι F H r { T with nx := N, ct := N, bk := T.nx } E := by
  unfold loopS at p
  cases r with
  | nx δ M1 => exact fun σ' H' ι' F' e h s => hN σ' H' δ M1 ι' F' e h s (SPost.mono e p)
  | ct δ M1 => exact fun σ' H' ι' F' e h s => hN σ' H' δ M1 ι' F' e h s (SPost.mono e p)
  | bk δ M1 => exact p
  | rt d M1 => exact p
  | exc c q δ M1 => cases q <;> exact p
  | stuck => exact p
theorem ls_while (n : Nat) {t : TT} {b : TS} {ft : FT} {fb : FS} (ht : LT K κ E t ft) (hb : LS K κ E b fb) : LS K κ E (tWhile t b) (fWhile ft fb n) := fun σ δ H M ι F T hs hh p => by
  refine ⟨fun m σ H => ∃ δ M ι F, RelS K κ E ι F H δ σ ∧ RelH K κ ι F H M ∧ SPost K κ ι F H (fWhile ft fb m δ M) T E, ⟨n, δ, M, ι, F, hs, hh, p⟩, ?_⟩
  rintro m σ H ⟨δ, M, ι, F, hs, hh, p⟩
  cases m with
  | zero => exact p.elim
  | succ m =>
    refine ht σ δ H M ι F _ hs hh ((SPost.thenS (R := REq) hs p).mono Ext.refl ?_)
    rintro c H1 ⟨d, M1, ι1, F1, e1, h1, r1, p1⟩
    cases (show d = c from r1)
    cases c with
    | true =>
      rw [if_pos rfl]
      refine ⟨fun σ' H' => ∃ δ M ι F, RelS K κ E ι F H' δ σ' ∧ RelH K κ ι F H' M ∧ SPost K κ ι F H' (fWhile ft fb m δ M) T E, fun σ' H' h => ⟨m, Nat.lt_succ_self _, h⟩, ?_⟩
      refine hb σ δ H1 M1 ι1 F1 _ (hs.ext e1) h1 (SPost.loop p1 fun σ' H' δ' M' ι' F' _ h s q => ⟨δ', M', ι', F', s, h, q⟩)
    | false =>
      rw [if_neg Bool.false_ne_true]
      exact p1 σ H1 ι1 F1 Ext.refl h1 (hs.ext e1)
/-! what is walked -/
def RelIt (K : PySem.W.Frag) (κ : Kap) (ι0 : List Addr) (F0 H0 : Hp) (a : Itm) (J : It) : Prop := ∀ (i : Nat) (H : Hp) (M : AH) (ι : List Addr) (F : Hp), Ext ι0 F0 H0 ι F H → RelH K κ ι F H M → a.2 M = true →
  (∀ d, a.1[i]? = some d → J.go i H ∧ ∀ v H', J.yld i H v H' → ∃ F', Ext ι F H ι F' H' ∧ RelH K κ ι F' H' M ∧ Rep K κ ι F' d v) ∧ (a.1.length = i → J.stop i H)
/-- as Post, of what is walked -/
def PostI (K : PySem.W.Frag) (κ : Kap) (ι : List Addr) (F H : Hp) (r : Res Itm) (Q : It → Hp → Prop) (E : XK) : Prop := match r with
  | .ok d M' => ∀ v H' ι' F', Ext ι F H ι' F' H' → RelH K κ ι' F' H' M' → RelIt K κ ι' F' H' d v → Q v H'
  | .exc c none M' => ∀ H' ι' F', Ext ι F H ι' F' H' → RelH K κ ι' F' H' M' → E (.ref (κ c)) none H'
  | .exc c (some (ns, ds)) M' => ∀ e H' ι' F' vs, Nn H e → Ext ι F H ι' F' H' → RelH K κ ι' F' H' M' → ns.length = vs.length → RepL K κ ι' F' ds vs → H' e = some (.xd ((ns.map Str.ofString).zip vs)) → E (.ref (κ c)) (some e) H'
  | .stuck => False
section
variable {K : PySem.W.Frag} {κ : Kap} {ι ι' : List Addr} {F F' H H' : Hp} {M M' : AH}
theorem PostI.mono {r : Res Itm} {Q : It → Hp → Prop} {E : XK} (e : Ext ι F H ι' F' H') (h : PostI K κ ι F H r Q E) : PostI K κ ι' F' H' r Q E := by
  unfold PostI at h ⊢
  split
  · exact fun v H2 ι2 F2 e2 r2 q2 => h v H2 ι2 F2 (e.trans e2) r2 q2
  · exact fun H2 ι2 F2 e2 r2 => h H2 ι2 F2 (e.trans e2) r2
  · exact fun x H2 ι2 F2 vs n2 e2 r2 => h x H2 ι2 F2 vs (e.dom _ n2) (e.trans e2) r2
  · exact h
theorem PostI.monoQ {r : Res Itm} {Q Q' : It → Hp → Prop} {E : XK} (h : PostI K κ ι F H r Q E) (hq : ∀ v H, Q v H → Q' v H) : PostI K κ ι F H r Q' E := by
  unfold PostI at h ⊢
  split
  · exact fun v H2 ι2 F2 e2 r2 q2 => hq _ _ (h v H2 ι2 F2 e2 r2 q2)
  · exact h
  · exact h
  · exact h
theorem PostI.bind {α β : Type} {R : List Addr → Hp → α → β → Prop} {r : Res α} {k : α → AH → Res Itm} {Q : It → Hp → Prop} {E : XK} (h : PostI K κ ι F H (r.bind k) Q E) :
    Post K κ R ι F H r (fun v H1 => ∃ d M1 ι1 F1, Ext ι F H ι1 F1 H1 ∧ RelH K κ ι1 F1 H1 M1 ∧ R ι1 F1 d v ∧ PostI K κ ι1 F1 H1 (k d M1) Q E) E := by
  unfold Res.bind at h
  cases r with
  | ok d M1 => exact fun v H1 ι1 F1 e rh rd => ⟨d, M1, ι1, F1, e, rh, rd, PostI.mono e h⟩
  | exc c p M1 =>
    cases p with
    | none => exact h
    | some p => exact h
  | stuck => exact h
theorem PostI.here {d : Itm} {v : It} {Q : It → Hp → Prop} {E : XK} (h : PostI K κ ι F H (.ok d M) Q E) (rh : RelH K κ ι F H M) (r : RelIt K κ ι F H d v) : Q v H := h v H ι F Ext.refl rh r
theorem SPost.thenI {r : Res Itm} {k : Itm → AH → SRes} {δ : AS} {σ : L2.St} {T : Ends} {E : EK} (hs : RelS K κ E ι F H δ σ) (h : SPost K κ ι F H (r.thenS δ k) T E) :
    PostI K κ ι F H r (fun v H1 => ∃ d M1 ι1 F1, Ext ι F H ι1 F1 H1 ∧ RelH K κ ι1 F1 H1 M1 ∧ RelIt K κ ι1 F1 H1 d v ∧ SPost K κ ι1 F1 H1 (k d M1) T E) (E.E σ) := by
  unfold Res.thenS at h
  cases r with
  | ok d M1 => exact fun v H1 ι1 F1 e rh rd => ⟨d, M1, ι1, F1, e, rh, rd, SPost.mono e h⟩
  | exc c p M1 =>
    cases p with
    | none => exact fun H1 ι1 F1 e rh => h σ H1 ι1 F1 e rh (hs.ext e)
    | some p => exact fun x H1 ι1 F1 vs n e rh => h σ x H1 ι1 F1 vs n e rh (hs.ext e)
  | stuck => exact h
theorem PostI.thenP {β γ : Type} {S : List Addr → Hp → β → γ → Prop} {r : Res Itm} {k : Itm → AH → Res β} {Q : γ → Hp → Prop} {E : XK} (h : Post K κ S ι F H (r.bind k) Q E) :
    PostI K κ ι F H r (fun v H1 => ∃ d M1 ι1 F1, Ext ι F H ι1 F1 H1 ∧ RelH K κ ι1 F1 H1 M1 ∧ RelIt K κ ι1 F1 H1 d v ∧ Post K κ S ι1 F1 H1 (k d M1) Q E) E := by
  unfold Res.bind at h
  cases r with
  | ok d M1 => exact fun v H1 ι1 F1 e rh rd => ⟨d, M1, ι1, F1, e, rh, rd, Post.mono e h fun _ _ x => x⟩
  | exc c p M1 =>
    cases p with
    | none => exact h
    | some p => exact h
  | stuck => exact h
end
def LI (K : PySem.W.Frag) (κ : Kap) (E : EK) (w : TI) (f : FI) : Prop := ∀ σ δ H M ι F R, RelS K κ E ι F H δ σ → RelH K κ ι F H M → PostI K κ ι F H (f δ M) R (E.E σ) → w σ H R
theorem ls_for {w : TI} {g : TG} {b : TS} {fi : FI} {fg : FG} {fb : FS} (hw : LI K κ E w fi) (hg : LG K κ E g fg) (hb : LS K κ E b fb) : LS K κ E (tFor w g b) (fFor fi fg fb) := fun σ δ H M ι F T hs hh p => by
  rw [w_For]
  refine hw σ δ H M ι F _ hs hh ((SPost.thenI hs p).monoQ ?_)
  rintro J H1 ⟨⟨xs, chk⟩, M1, ι1, F1, e1, h1, r1, p1⟩
  refine ⟨fun i m σ H => m + i = xs.length ∧ ∃ δ M ι F, Ext ι1 F1 H1 ι F H ∧ RelS K κ E ι F H δ σ ∧ RelH K κ ι F H M ∧ SPost K κ ι F H (fForL chk fg fb (xs.drop i) δ M) T E, ⟨xs.length, rfl, δ, M1, ι1, F1, Ext.refl, hs.ext e1, h1, p1⟩, ?_⟩
  rintro i m σ H ⟨hm, δ, M, ι, F, pe, hs, hh, p⟩
  cases hx : xs.drop i with
  | nil =>
    rw [hx] at p
    simp only [fForL] at p
    split at p
    · rename_i hc
      have hl : xs.length = i := by
        have := List.drop_eq_nil_iff.mp hx
        omega
      exact .inl ⟨(r1 i H M ι F pe hh hc).2 hl, p σ H ι F Ext.refl hh hs⟩
    · exact p.elim
  | cons d ds =>
    rw [hx] at p
    simp only [fForL] at p
    split at p
    · rename_i hc
      have hi : xs[i]? = some d := by
        have := congrArg (fun l => l[0]?) hx
        simpa using this
      have hds : xs.drop (i + 1) = ds := by
        rw [← List.drop_drop, hx]; rfl
      have hlt : i < xs.length := (List.getElem?_eq_some_iff.mp hi).1
      obtain ⟨hgo, hy⟩ := (r1 i H M ι F pe hh hc).1 d hi
      refine .inr ⟨hgo, fun σ' H' => m - 1 + (i + 1) = xs.length ∧ ∃ δ M ι F, Ext ι1 F1 H1 ι F H' ∧ RelS K κ E ι F H' δ σ' ∧ RelH K κ ι F H' M ∧ SPost K κ ι F H' (fForL chk fg fb (xs.drop (i + 1)) δ M) T E, fun σ' H' h => ⟨m - 1, by omega, h⟩, fun v H2 y => ?_⟩
      obtain ⟨F2, e2, hh2, rv⟩ := hy v H2 y
      have p2 := SPost.mono e2 (SPost.thenG p)
      refine hg v d σ δ H2 M ι F2 { T with nx := fun σ2 H3 => b { T with nx := _, ct := _, bk := T.nx } σ2 H3 } (hs.ext e2) hh2 rv ?_
      revert p2
      generalize fg d δ M = r
      intro p2
      cases r with
      | nx δ M1 =>
        intro σ3 H3 ι3 F3 e3 h3 s3
        obtain ⟨δ4, M4, ι4, F4, e4, h4, s4, p4⟩ := p2 σ3 H3 ι3 F3 e3 h3 s3
        exact hb σ3 δ4 H3 M4 ι4 F4 _ s4 h4 (SPost.loop p4 fun σ' H' δ' M' ι' F' e5 h s q => ⟨by omega, δ', M', ι', F', (pe.trans e4).trans e5, s, h, by rw [hds]; exact q⟩)
      | exc c q2 δ M1 => cases q2 <;> exact p2
      | rt d M1 => exact p2
      | bk δ M1 => exact p2
      | ct δ M1 => exact p2
      | stuck => exact p2.elim
    · exact p.elim
end
end G
namespace G
open PySem PySem.Spec PyProof.Rows L2
/-! ### what is walked; comprehensions -/
def stands (i : Nat) (xs : List D) (M : AH) : Bool := match M[i]? with
  | some (.lst ys) => D.beqL ys xs
  | _ => false
def itmOf (d : D) (M : AH) : Res Itm := match d with
  | .lst xs => .ok (xs, fun _ => true) M
  | .lsk xs => .ok (xs, fun _ => true) M
  | .ref i => match M[i]? with
    | some (.lst xs) => .ok (xs, stands i xs) M
    | _ => .stuck
  | _ => .stuck
def fiList (e : FE) : FI := fun δ M => (e δ M).bind itmOf
def fiTup (e : FE) : FI := fun δ M => (e δ M).bind fun d M1 => match tupOf d with
  | some xs => .ok (xs, fun _ => true) M1
  | none => .stuck
def fiStr (e : FE) : FI := fun δ M => (e δ M).bind fun d M1 => match d with
  | .str z => .ok ((tl z).map fun c => .str (S [c]), fun _ => true) M1
  | _ => .stuck
def rngD (lo c : Int) (n : Nat) : List D := (List.range n).map fun (i : Nat) => .int (lo + (i : Int) * c)
def fiRng1 (e : FE) : FI := fun δ M => (e δ M).bind fun d M1 => match d with
  | .int j => if -(2 ^ 62) ≤ j ∧ j < 2 ^ 62 then .ok (rngD 0 1 j.toNat, fun _ => true) M1 else .stuck
  | _ => .stuck
def fiRng2 (a b : FE) : FI := fun δ M => (a δ M).bind fun d M1 => (b δ M1).bind fun e M2 => match d, e with
  | .int i, .int j => if -(2 ^ 62) ≤ i ∧ i < 2 ^ 62 ∧ -(2 ^ 62) ≤ j ∧ j < 2 ^ 62 then .ok (rngD i 1 (j - i).toNat, fun _ => true) M2 else .stuck
  | _, _ => .stuck
instance (i j c : Int) (n : Nat) : Decidable (RgC i j c n) := by unfold RgC; infer_instance
def fiRng3 (a b e : FE) : FI := fun δ M => (a δ M).bind fun d M1 => (b δ M1).bind fun x M2 => (e δ M2).bind fun y M3 => match d, x, y with
  | .int i, .int j, .int c => if RgC i j c (Builtin.Range.rangeSize i j c).toNat then .ok (rngD i c (Builtin.Range.rangeSize i j c).toNat, fun _ => true) M3 else .stuck
  | _, _, _ => .stuck
def enumD : Nat → List D → List D
  | _, [] => []
  | i, x :: xs => .tuq [.int (i : Nat), x] :: enumD (i + 1) xs
def fiEnum (a : FA) : FI := fun δ M => (a δ M).bind fun ds M1 => match ds with
  | [d] => (itmOf d M1).bind fun it M2 => .ok (enumD 0 it.1, it.2) M2
  | _ => .stuck
def itmB (k : Bool) (d : D) (M : AH) : Res Itm := if k then itmOf d M else match tupOf d with
  | some xs => .ok (xs, fun _ => true) M
  | none => .stuck
def zipD (xs ys : List D) : List D := (xs.zip ys).map fun p => .tuq [p.1, p.2]
def fiZip (k1 k2 : Bool) (a : FA) : FI := fun δ M => (a δ M).bind fun ds M1 => match ds with
  | [d, e] => (itmB k1 d M1).bind fun it M2 => (itmB k2 e M2).bind fun jt M3 => .ok (zipD it.1 jt.1, fun M => it.2 M && jt.2 M) M3
  | _ => .stuck
section
variable {K : PySem.W.Frag} {κ : Kap} {E : EK} {ι ι' : List Addr} {F F' H H' : Hp} {M M' : AH}
/-- the list at a is xs as long as chk says so -/
def LstAt (K : PySem.W.Frag) (κ : Kap) (ι0 : List Addr) (F0 : Hp) (a : Addr) (xs : List D) (chk : AH → Bool) : Prop :=
  ∀ (H : Hp) (M : AH) (ι : List Addr) (F : Hp), ι0 <+: ι → Same F0 F → RelH K κ ι F H M → chk M = true → ∃ vs, SqL K H a vs ∧ RepL K κ ι F xs vs
theorem itmOf_at {d : D} {v : V} {Q : Itm → Hp → Prop} {e : XK} (hh : RelH K κ ι F H M) (r : Rep K κ ι F d v) (p : Post K κ (fun _ _ => Eq) ι F H (itmOf d M) Q e) : ∃ a it, v = .ref a ∧ (∃ vs, SqL K H a vs) ∧ LstAt K κ ι F a it.1 it.2 ∧ it.2 M = true ∧ Q it H := by
  unfold itmOf at p
  split at p
  · cases r with
    | lst h r => exact ⟨_, _, rfl, ⟨_, .inl (.inl (hh.le.ex h fun z => z))⟩, fun H M ι F pi pf hh _ => ⟨_, .inl (.inl (hh.le.ex (pf _ _ h) fun z => z)), r.mono pi pf⟩, rfl, p.here hh rfl⟩
  · cases r with
    | lsk h r => exact ⟨_, _, rfl, ⟨_, h.monoL hh.le⟩, fun H M ι F pi pf hh _ => ⟨_, (h.monoF pf).monoL hh.le, r.mono pi pf⟩, rfl, p.here hh rfl⟩
  · split at p
    · rename_i q
      obtain ⟨a, u, rfl, h1, h2, h3⟩ := relH_ref hh r q
      cases h3 with
      | lst h3 =>
        refine ⟨a, _, rfl, ⟨_, .inl (.inl h2)⟩, fun H M ι F pi pf hh hc => ?_, ?_, p.here hh rfl⟩
        · simp only [stands] at hc
          split at hc
          · rename_i hM
            have := D.beqL_eq hc
            subst this
            obtain ⟨u, hu, ru⟩ := hh.at_ (pre_get pi h1) hM
            cases ru with | lst ru => exact ⟨_, .inl (.inl hu), ru⟩
          · cases hc
        · simp only [stands, q]
          exact D.beqL_refl _
    · exact p.elim
  · exact p.elim
theorem seqL_inj {a : Addr} {xs ys : List V} (h : SqL K H a xs) (h' : SqL K H a ys) (hh : True := trivial) : True := trivial
theorem relIt_list {a : Addr} {xs : List D} {chk : AH → Bool} (h : LstAt K κ ι F a xs chk) : RelIt K κ ι F H (xs, chk) (Itl K a) := fun i H M ι' F' pe hh hc => by
  obtain ⟨vs, hq, r⟩ := h H M ι' F' pe.pre pe.frz hh hc
  refine ⟨fun d hd => ?_, fun hl => ⟨vs, hq, by rw [← r.len]; exact Nat.le_of_eq hl⟩⟩
  obtain ⟨v, hv, rv⟩ := r.get hd
  refine ⟨⟨vs, v, hq, hv⟩, fun w H2 y => ?_⟩
  obtain ⟨rfl, y⟩ := y
  have : some v = some w := hv.symm.trans (y vs hq)
  cases this
  exact ⟨F', Ext.refl, hh, rv⟩
theorem li_list {t : TE} {f : FE} (h : LE K κ E t f) : LI K κ E (iList K t) (fiList f) := fun σ δ H M ι F R hs hh p => by
  rw [w_iList]
  refine h σ δ H M ι F _ hs hh ((PostI.bind (R := Rep K κ) p).mono Ext.refl ?_)
  rintro v H1 ⟨d, M1, ι1, F1, e1, h1, r1, p1⟩
  have p1' : Post K κ (fun _ _ => Eq) ι1 F1 H1 (itmOf d M1) (fun it H => ∀ J, RelIt K κ ι1 F1 H1 it J → R J H) (E.E σ) := by
    unfold itmOf at p1 ⊢
    split at p1 <;> first
      | exact p1.elim
      | (exact fun it H' ι' F' e h q J hJ => by
          subst q
          exact p1 J H' ι' F' e h (fun i H M ι F pe hh hc => hJ i H M ι F (e.trans pe) hh hc))
      | (split at p1
         · exact fun it H' ι' F' e h q J hJ => by
            subst q
            exact p1 J H' ι' F' e h (fun i H M ι F pe hh hc => hJ i H M ι F (e.trans pe) hh hc)
         · exact p1.elim)
  obtain ⟨a, it, rfl, hq, hL, _, q⟩ := itmOf_at h1 r1 p1'
  exact ⟨a, rfl, hq, q _ (relIt_list hL)⟩
theorem relIt_tup {a : Addr} {xs : List D} {vs : List V} (hq : SqT K F a vs) (r : RepL K κ ι F xs vs) : RelIt K κ ι F H (xs, fun _ => true) (Itt K a) := fun i H M ι' F' pe hh hc => by
  have pi := pe.pre
  have pf := pe.frz
  have hq' : SqT K H a vs := (hq.monoF pf).monoL hh.le
  refine ⟨fun d hd => ?_, fun hl => ⟨vs, hq', by rw [← r.len]; exact Nat.le_of_eq hl⟩⟩
  obtain ⟨v, hv, rv⟩ := r.get hd
  refine ⟨⟨vs, v, hq', hv⟩, fun w H2 y => ?_⟩
  obtain ⟨rfl, y⟩ := y
  have : some v = some w := hv.symm.trans (y vs hq')
  cases this
  exact ⟨F', Ext.refl, hh, rv.mono pi pf⟩
theorem tupF_at {d : D} {v : V} {xs : List D} (r : Rep K κ ι F d v) (e : tupOf d = some xs) : ∃ a vs, v = .ref a ∧ SqT K F a vs ∧ RepL K κ ι F xs vs := by
  unfold tupOf at e
  split at e
  · cases e
    cases r with
    | tup h r => exact ⟨_, _, rfl, h.sq, r⟩
  · cases e
    cases r with
    | tuq h r => exact ⟨_, _, rfl, h, r⟩
  · cases e
theorem li_tup {t : TE} {f : FE} (h : LE K κ E t f) : LI K κ E (iTup K t) (fiTup f) := fun σ δ H M ι F R hs hh p => by
  rw [w_iTup]
  refine h σ δ H M ι F _ hs hh ((PostI.bind (R := Rep K κ) p).mono Ext.refl ?_)
  rintro v H1 ⟨d, M1, ι1, F1, e1, h1, r1, p1⟩
  split at p1
  · rename_i hx
    obtain ⟨a, vs, rfl, hq, r⟩ := tupF_at r1 hx
    exact ⟨a, rfl, ⟨vs, hq.monoL h1.le⟩, p1.here h1 (relIt_tup hq r)⟩
  · exact p1.elim
theorem relIt_fn {J : It} {n : Nat} {xs : List D} {g : Nat → V} (hl : xs.length = n) (w : Walk J n (fun _ => True) (fun i H x H' => H' = H ∧ x = g i)) (hx : ∀ i d, xs[i]? = some d → ∀ ι F, Rep K κ ι F d (g i)) : RelIt K κ ι F H (xs, fun _ => true) J := fun i H M ι' F' pe hh hc => by
  refine ⟨fun d hd => ?_, fun hi => by rw [← hi]; rw [hl]; exact w.stops H trivial⟩
  have hi : i < n := by rw [← hl]; exact (List.getElem?_eq_some_iff.mp hd).1
  refine ⟨w.goes i H hi trivial, fun v H2 y => ?_⟩
  obtain ⟨rfl, rfl⟩ := w.yields i H v H2 hi trivial y
  exact ⟨F', Ext.refl, hh, hx i d hd ι' F'⟩
theorem rngD_len {lo c : Int} {n : Nat} : (rngD lo c n).length = n := by simp [rngD]
theorem rngD_get {lo c : Int} {n i : Nat} {d : D} (h : (rngD lo c n)[i]? = some d) : d = .int (lo + (i : Int) * c) := by
  unfold rngD at h
  rw [List.getElem?_map] at h
  cases q : (List.range n)[i]? with
  | none => rw [q] at h; cases h
  | some j =>
    rw [q] at h
    have : j = i := by
      have := List.getElem?_eq_some_iff.mp q
      simpa using this.2.symm
    subst this
    cases h
    rfl
theorem relIt_range {lo : Int} {n : Nat} : RelIt K κ ι F H (rngD lo 1 n, fun _ => true) (Itr lo n) :=
  relIt_fn (g := fun i => .int (lo + i)) rngD_len walk_range fun i d h ι F => by
    rw [rngD_get h, Int.mul_one]; exact .int _
theorem relIt_rangeC {lo c : Int} {n : Nat} : RelIt K κ ι F H (rngD lo c n, fun _ => true) (Itc lo c n) :=
  relIt_fn (g := fun i => .int (lo + (i : Nat) * c)) rngD_len walk_rangeC fun i d h ι F => by
    rw [rngD_get h]; exact .int _
theorem li_str {t : TE} {f : FE} (h : LE K κ E t f) : LI K κ E (iStr t) (fiStr f) := fun σ δ H M ι F R hs hh p => by
  rw [w_iStr]
  refine h σ δ H M ι F _ hs hh ((PostI.bind (R := Rep K κ) p).mono Ext.refl ?_)
  rintro v H1 ⟨d, M1, ι1, F1, e1, h1, r1, p1⟩
  split at p1
  · rename_i z
    cases r1
    refine ⟨z, rfl, p1.here h1 fun i H M ι' F' pe hh hc => ?_⟩
    refine ⟨fun d hd => ?_, fun hl => by have s := (walk_str (z := z)).stops H trivial; rw [← hl]; simpa using s⟩
    rw [List.getElem?_map] at hd
    cases q : (tl z)[i]? with
    | none => rw [q] at hd; cases hd
    | some c =>
      rw [q] at hd
      cases hd
      have hi : i < z.cps.size := by
        have := (List.getElem?_eq_some_iff.mp q).1
        simpa using this
      refine ⟨hi, fun w H2 y => ?_⟩
      obtain ⟨rfl, c2, hc2, rfl⟩ := y
      have : c2 = c := by
        have h3 : (tl z)[i]? = some c2 := by simpa using hc2
        rw [q] at h3
        exact (Option.some.inj h3).symm
      subst this
      exact ⟨F', Ext.refl, hh, .str _⟩
  · exact p1.elim
theorem li_rng1 {t : TE} {f : FE} (h : LE K κ E t f) : LI K κ E (iRng1 (tCons t tNil)) (fiRng1 f) := fun σ δ H M ι F R hs hh p => by
  rw [w_iR1]
  refine h σ δ H M ι F _ hs hh ((PostI.bind (R := Rep K κ) p).mono Ext.refl ?_)
  rintro v H1 ⟨d, M1, ι1, F1, e1, h1, r1, p1⟩
  split at p1
  · split at p1
    · rename_i hj
      cases r1
      exact ⟨_, rfl, hj.1, hj.2, p1.here h1 relIt_range⟩
    · exact p1.elim
  · exact p1.elim
theorem li_rng2 {t u : TE} {f g : FE} (h : LE K κ E t f) (h' : LE K κ E u g) : LI K κ E (iRng2 (tCons t (tCons u tNil))) (fiRng2 f g) := fun σ δ H M ι F R hs hh p => by
  rw [w_iR2]
  refine h σ δ H M ι F _ hs hh ((PostI.bind (R := Rep K κ) p).mono Ext.refl ?_)
  rintro v H1 ⟨d, M1, ι1, F1, e1, h1, r1, p1⟩
  refine h' σ δ H1 M1 ι1 F1 _ (hs.ext e1) h1 ((PostI.bind (R := Rep K κ) p1).mono Ext.refl ?_)
  rintro w H2 ⟨d2, M2, ι2, F2, e2, h2, r2, p2⟩
  split at p2
  · split at p2
    · rename_i hj
      cases r1; cases r2
      exact iR2_of hj (p2.here h2 relIt_range)
    · exact p2.elim
  · exact p2.elim
theorem li_rng3 {t u w : TE} {f g k : FE} (h : LE K κ E t f) (h' : LE K κ E u g) (h'' : LE K κ E w k) : LI K κ E (iRng3 (tCons t (tCons u (tCons w tNil)))) (fiRng3 f g k) := fun σ δ H M ι F R hs hh p => by
  refine h σ δ H M ι F _ hs hh ((PostI.bind (R := Rep K κ) p).mono Ext.refl ?_)
  rintro v H1 ⟨d, M1, ι1, F1, e1, h1, r1, p1⟩
  refine h' σ δ H1 M1 ι1 F1 _ (hs.ext e1) h1 ((PostI.bind (R := Rep K κ) p1).mono Ext.refl ?_)
  rintro v2 H2 ⟨d2, M2, ι2, F2, e2, h2, r2, p2⟩
  refine h'' σ δ H2 M2 ι2 F2 _ ((hs.ext e1).ext e2) h2 ((PostI.bind (R := Rep K κ) p2).mono Ext.refl ?_)
  rintro v3 H3 ⟨d3, M3, ι3, F3, e3, h3, r3, p3⟩
  split at p3
  · split at p3
    · rename_i hj
      cases r1; cases r2; cases r3
      exact ⟨_, _, _, _, rfl, hj, p3.here h3 relIt_rangeC⟩
    · exact p3.elim
  · exact p3.elim
theorem enumD_get : ∀ {xs : List D} {k i : Nat} {d : D}, (enumD k xs)[i]? = some d → ∃ x, xs[i]? = some x ∧ d = .tuq [.int ((k + i : Nat) : Int), x]
  | [], _, _, _, h => by simp [enumD] at h
  | x :: xs, k, 0, d, h => by simp [enumD] at h; exact ⟨x, rfl, h.symm⟩
  | x :: xs, k, i + 1, d, h => by
    simp only [enumD, List.getElem?_cons_succ] at h
    obtain ⟨y, h1, h2⟩ := enumD_get h
    exact ⟨y, by simpa using h1, by rw [h2]; congr 3; omega⟩
theorem enumD_len : ∀ {xs : List D} {k : Nat}, (enumD k xs).length = xs.length
  | [], _ => rfl
  | x :: xs, k => by simp [enumD, enumD_len]
theorem relIt_enum {a : Addr} {xs : List D} {chk : AH → Bool} (h : LstAt K κ ι F a xs chk) : RelIt K κ ι F H (enumD 0 xs, chk) (Ite K a) := fun i H M ι' F' pe hh hc => by
  obtain ⟨vs, hq, r⟩ := h H M ι' F' pe.pre pe.frz hh hc
  refine ⟨fun d hd => ?_, fun hl => ⟨vs, hq, by rw [← r.len, ← enumD_len (k := 0)]; exact Nat.le_of_eq hl⟩⟩
  obtain ⟨x, hx, rfl⟩ := enumD_get hd
  obtain ⟨v, hv, rv⟩ := r.get hx
  refine ⟨⟨vs, v, hq, hv⟩, fun w H2 y => ?_⟩
  obtain ⟨T, z, rfl, hT, rfl, y⟩ := y
  have : some v = some z := hv.symm.trans (y vs hq)
  cases this
  obtain ⟨e2, h2⟩ := hh.newF hT (.tup [.int (i : Nat), v])
  exact ⟨_, e2, h2, .tuq (.inl (.inl upd_same)) (.cons (by rw [Nat.zero_add]; exact .int _) (.cons (rv.ext e2) .nil))⟩
end
end G
namespace G
open PySem PySem.Spec PyProof.Rows L2
def wipeD (δ : AS) : List Nat → AS
  | [] => δ
  | v :: vs => (wipeD δ vs).set v none
/-- a comprehension -/
def fLcL (chk : AH → Bool) (g : FG) (t : FT) (e : FE) (δ : AS) : List D → List D → AH → Res (List D)
  | [], acc, M => if chk M then .ok acc M else .stuck
  | d :: ds, acc, M => if chk M then (match g d δ M with
    | .nx δ1 M1 => (match t δ1 M1 with
      | .ok true M2 => (match e δ1 M2 with
        | .ok y M3 => if acc.length < sizeLine then fLcL chk g t e δ ds (acc ++ [y]) M3 else .stuck
        | _ => .stuck)
      | .ok false M2 => fLcL chk g t e δ ds acc M2
      | _ => .stuck)
    | _ => .stuck) else .stuck
def fLc (i : FI) (g : FG) (t : FT) (e : FE) (vs : List Nat) : FE := fun δ M => (i δ M).bind fun it M1 => match fLcL it.2 g t e (wipeD δ vs) it.1 [] M1 with
  | .ok ys M2 => .ok (.ref M2.length) (M2 ++ [.lst ys])
  | _ => .stuck
def fYes : FT := fun _ M => .ok true M
/-- a target that stores in these places alone -/
def GW (g : TG) (vs : List Nat) : Prop := ∀ v σ H Q, g v σ H Q → g v σ H fun σ' H' => Q σ' H' ∧ wipe σ' vs = wipe σ vs
def GWs (g : TGs) (vs : List Nat) : Prop := ∀ v σ H Q, g v σ H Q → g v σ H fun σ' H' => Q σ' H' ∧ wipe σ' vs = wipe σ vs
theorem wipe_get (σ : L2.St) (j : Nat) : ∀ vs : List Nat, (wipe σ vs)[j]? = if j ∈ vs then (σ[j]?).map (fun _ => none) else σ[j]?
  | [] => by simp [wipe]
  | v :: vs => by
    simp only [wipe]
    by_cases h : v = j
    · subst h
      rw [List.getElem?_set_self', wipe_get σ v vs]
      cases σ[v]? <;> simp <;> split <;> simp
    · rw [List.getElem?_set_ne h, wipe_get σ j vs]
      simp [Ne.symm h]
theorem wipeD_get (σ : AS) (j : Nat) : ∀ vs : List Nat, (wipeD σ vs)[j]? = if j ∈ vs then (σ[j]?).map (fun _ => none) else σ[j]?
  | [] => by simp [wipeD]
  | v :: vs => by
    simp only [wipeD]
    by_cases h : v = j
    · subst h
      rw [List.getElem?_set_self', wipeD_get σ v vs]
      cases σ[v]? <;> simp <;> split <;> simp
    · rw [List.getElem?_set_ne h, wipeD_get σ j vs]
      simp [Ne.symm h]
theorem wipe_set {σ : L2.St} {i : Nat} {x : Option V} {vs : List Nat} (h : i ∈ vs) : wipe (σ.set i x) vs = wipe σ vs := by
  refine List.ext_getElem? fun j => ?_
  rw [wipe_get, wipe_get]
  by_cases hj : i = j
  · subst hj
    rw [if_pos h, if_pos h, List.getElem?_set_self']
    cases σ[i]? <;> rfl
  · rw [List.getElem?_set_ne hj]
theorem gw_name {i : Nat} {vs : List Nat} (h : i ∈ vs) : GW (gName i) vs := fun v σ H Q q => ⟨q, wipe_set h⟩
theorem gws_nil {vs : List Nat} : GWs gNil vs := fun v σ H Q q => ⟨q.1, q.2, rfl⟩
theorem gws_cons {g : TG} {gs : TGs} {vs : List Nat} (h1 : GW g vs) (h2 : GWs gs vs) (m1 : ∀ v σ H (Q Q' : L2.St → Hp → Prop), (∀ σ H, Q σ H → Q' σ H) → g v σ H Q → g v σ H Q') (m2 : ∀ v σ H (Q Q' : L2.St → Hp → Prop), (∀ σ H, Q σ H → Q' σ H) → gs v σ H Q → gs v σ H Q') : GWs (gCons g gs) vs := fun v σ H Q q => by
  obtain ⟨x, r, e, q⟩ := q
  refine ⟨x, r, e, m1 _ _ _ _ _ (fun σ' H' ⟨q, w⟩ => ?_) (h1 x σ H _ q)⟩
  exact m2 _ _ _ _ _ (fun σ2 H2 ⟨q2, w2⟩ => ⟨q2, w2.trans w⟩) (h2 r σ' H' Q q)
def GM (g : TG) : Prop := ∀ v σ H (Q Q' : L2.St → Hp → Prop), (∀ σ H, Q σ H → Q' σ H) → g v σ H Q → g v σ H Q'
def GMs (g : TGs) : Prop := ∀ v σ H (Q Q' : L2.St → Hp → Prop), (∀ σ H, Q σ H → Q' σ H) → g v σ H Q → g v σ H Q'
theorem gm_name {i : Nat} : GM (gName i) := fun _ _ _ _ _ h q => h _ _ q
theorem gms_nil : GMs gNil := fun _ _ _ _ _ h q => ⟨q.1, h _ _ q.2⟩
theorem gms_cons {g : TG} {gs : TGs} (h1 : GM g) (h2 : GMs gs) : GMs (gCons g gs) := fun v σ H Q Q' h q => by
  obtain ⟨x, r, e, q⟩ := q
  exact ⟨x, r, e, h1 _ _ _ _ _ (fun σ' H' q => h2 _ _ _ _ _ h q) q⟩
theorem gm_tup {K : PySem.W.Frag} {n : Nat} {gs : TGs} (h : GMs gs) : GM (gTup K n gs) := fun v σ H Q Q' hq q => by
  obtain ⟨a, xs, e, h1, h2, q⟩ := q
  exact ⟨a, xs, e, h1, h2, h _ _ _ _ _ hq q⟩
theorem gw_tup {K : PySem.W.Frag} {n : Nat} {gs : TGs} {vs : List Nat} (h : GWs gs vs) : GW (gTup K n gs) vs := fun v σ H Q q => by
  obtain ⟨a, xs, e, h1, h2, q⟩ := q
  exact ⟨a, xs, e, h1, h2, h _ _ _ _ q⟩
theorem gws_cons' {g : TG} {gs : TGs} {vs : List Nat} (h1 : GW g vs) (h2 : GWs gs vs) (m1 : GM g) (m2 : GMs gs) : GWs (gCons g gs) vs := gws_cons h1 h2 m1 m2
section
variable {K : PySem.W.Frag} {κ : Kap} {E : EK} {ι ι' : List Addr} {F F' H H' : Hp} {M M' : AH}
/-- the list or tuple at a is xs as long as chk says so -/
def BAt (K : PySem.W.Frag) (κ : Kap) (k : Bool) (ι0 : List Addr) (F0 : Hp) (a : Addr) (xs : List D) (chk : AH → Bool) : Prop :=
  ∀ (H : Hp) (M : AH) (ι : List Addr) (F : Hp), ι0 <+: ι → Same F0 F → RelH K κ ι F H M → chk M = true → ∃ vs, SqB K k H a vs ∧ RepL K κ ι F xs vs
theorem itmB_at {k : Bool} {d : D} {v : V} {it : Itm} {M2 : AH} (hh : RelH K κ ι F H M) (r : Rep K κ ι F d v) (p : itmB k d M = .ok it M2) : M2 = M ∧ ∃ a, v = .ref a ∧ (∃ vs, SqB K k H a vs) ∧ BAt K κ k ι F a it.1 it.2 := by
  unfold itmB at p
  cases k with
  | true =>
    simp only [if_true] at p
    have hM : M2 = M := by
      unfold itmOf at p
      split at p <;> first
        | (cases p; rfl)
        | (split at p <;> first | (cases p; rfl) | cases p)
        | cases p
    have : Post K κ (fun _ _ => Eq) ι F H (itmOf d M) (fun j _ => j = it) (fun _ _ _ => False) := by
      rw [p]
      exact fun v H' ι' F' e h q => q.symm
    obtain ⟨a, jt, e, hq, hL, _, rfl⟩ := itmOf_at hh r this
    exact ⟨hM, a, e, hq, hL⟩
  | false =>
    simp only [Bool.false_eq_true, if_false] at p
    split at p
    · rename_i hx
      cases p
      obtain ⟨a, vs, rfl, hq, rr⟩ := tupF_at r hx
      exact ⟨rfl, a, rfl, ⟨vs, hq.monoL hh.le⟩, fun H M ι F pi pf hh hc => ⟨vs, (hq.monoF pf).monoL hh.le, rr.mono pi pf⟩⟩
    · cases p
theorem itmOf_nox {d : D} {c : String} {q : Option (List String × List D)} {M2 : AH} (h : itmOf d M = .exc c q M2) : False := by
  unfold itmOf at h
  split at h <;> first
    | (cases h; done)
    | (split at h <;> cases h)
theorem itmB_nox {k : Bool} {d : D} {c : String} {q : Option (List String × List D)} {M2 : AH} (h : itmB k d M = .exc c q M2) : False := by
  unfold itmB at h
  cases k with
  | true => exact itmOf_nox h
  | false =>
    simp only [Bool.false_eq_true, if_false] at h
    split at h <;> cases h
theorem li_enum {t : TE} {f : FE} (h : LE K κ E t f) : LI K κ E (iEnum K (tCons t tNil)) (fiEnum (fCons f fNil)) := fun σ δ H M ι F R hs hh p => by
  rw [w_iEnum]
  refine h σ δ H M ι F _ hs hh ?_
  unfold fiEnum fCons fNil at p
  revert p
  generalize f δ M = r
  intro p
  cases r with
  | ok d M1 =>
    intro v H1 ι1 F1 e1 h1 r1
    have p2 : PostI K κ ι1 F1 H1 ((itmOf d M1).bind fun it M2 => Res.ok (enumD 0 it.1, it.2) M2) R (E.E σ) := PostI.mono e1 (by exact p)
    cases q : itmOf d M1 with
    | ok it M2 =>
      rw [q] at p2
      simp only [Res.bind] at p2
      obtain ⟨rfl, a, rfl, ⟨vs, hq⟩, hL⟩ := itmB_at (k := true) h1 r1 q
      exact ⟨a, vs, rfl, hq, PostI.here p2 h1 (relIt_enum hL)⟩
    | exc c w M2 => exact (itmOf_nox q).elim
    | stuck => rw [q] at p2; exact p2.elim
  | exc c q M1 => cases q <;> exact p
  | stuck => exact p.elim
theorem zipD_get {xs ys : List D} {i : Nat} {d : D} (h : (zipD xs ys)[i]? = some d) : ∃ x y, xs[i]? = some x ∧ ys[i]? = some y ∧ d = .tuq [x, y] := by
  unfold zipD at h
  rw [List.getElem?_map] at h
  cases q : (xs.zip ys)[i]? with
  | none => rw [q] at h; cases h
  | some p =>
    rw [q] at h
    cases h
    rw [List.getElem?_zip_eq_some] at q
    exact ⟨_, _, q.1, q.2, rfl⟩
theorem zipD_len {xs ys : List D} : (zipD xs ys).length = min xs.length ys.length := by simp [zipD]
theorem relIt_zip {k1 k2 : Bool} {a b : Addr} {xs ys : List D} {c1 c2 : AH → Bool} (h1 : BAt K κ k1 ι F a xs c1) (h2 : BAt K κ k2 ι F b ys c2) : RelIt K κ ι F H (zipD xs ys, fun M => c1 M && c2 M) (ItzG K k1 k2 a b) := fun i H M ι' F' pe hh hc => by
  have pi := pe.pre
  have pf := pe.frz
  rw [Bool.and_eq_true] at hc
  obtain ⟨vs, hq1, r1⟩ := h1 H M ι' F' pi pf hh hc.1
  obtain ⟨ws, hq2, r2⟩ := h2 H M ι' F' pi pf hh hc.2
  refine ⟨fun d hd => ?_, fun hl => ⟨vs, ws, hq1, hq2, ?_, ?_, ?_⟩⟩
  · obtain ⟨x, y, hx, hy, rfl⟩ := zipD_get hd
    obtain ⟨v, hv, rv⟩ := r1.get hx
    obtain ⟨w, hw, rw_⟩ := r2.get hy
    refine ⟨⟨vs, ws, v, w, hq1, hq2, hv, hw⟩, fun u H2 q => ?_⟩
    obtain ⟨T, z1, z2, rfl, hT, rfl, q1, q2⟩ := q
    have e1 : some v = some z1 := hv.symm.trans (q1 vs hq1)
    have e2 : some w = some z2 := hw.symm.trans (q2 ws hq2)
    cases e1
    cases e2
    obtain ⟨e2, hh2⟩ := hh.newF hT (.tup [v, w])
    exact ⟨_, e2, hh2, .tuq (.inl (.inl upd_same)) (.cons (rv.ext e2) (.cons (rw_.ext e2) .nil))⟩
  all_goals
    have l1 := r1.len
    have l2 := r2.len
    simp only [zipD_len] at hl
    omega
theorem li_zip {k1 k2 : Bool} {t : TA} {f : FA} (h : LA K κ E t f) : LI K κ E (iZipG K k1 k2 t) (fiZip k1 k2 f) := fun σ δ H M ι F R hs hh p => by
  rw [w_iZipG]
  refine h σ δ H M ι F _ hs hh ((PostI.bind (R := RepL K κ) p).mono Ext.refl ?_)
  rintro vs H1 ⟨ds, M1, ι1, F1, e1, h1, r1, p1⟩
  split at p1
  · rename_i d e
    cases r1 with
    | cons ra rb => cases rb with
      | cons rb rc =>
        cases rc
        cases q1 : itmB k1 d M1 with
        | ok it M2 =>
          rw [q1] at p1
          simp only [Res.bind] at p1
          obtain ⟨rfl, a, rfl, ⟨vs, ha⟩, hA⟩ := itmB_at h1 ra q1
          cases q2 : itmB k2 e M2 with
          | ok jt M3 =>
            rw [q2] at p1
            obtain ⟨rfl, b, rfl, ⟨ws, hb⟩, hB⟩ := itmB_at h1 rb q2
            exact ⟨a, b, vs, ws, rfl, ha, hb, p1.here h1 (relIt_zip hA hB)⟩
          | exc c q M3 => exact (itmB_nox q2).elim
          | stuck => rw [q2] at p1; exact p1.elim
        | exc c q M2 => exact (itmB_nox q1).elim
        | stuck => rw [q1] at p1; exact p1.elim
  · exact p1.elim
theorem wipe_wipe {σ : L2.St} {vs : List Nat} : wipe (wipe σ vs) vs = wipe σ vs := by
  refine List.ext_getElem? fun j => ?_
  rw [wipe_get, wipe_get]
  split
  · cases σ[j]? <;> rfl
  · rfl
theorem relS_wipe {δ : AS} {σ : L2.St} {E0 : XK} (hs : RelS K κ E ι F H δ σ) (vs : List Nat) : RelS K κ (EK.of E0) ι F H (wipeD δ vs) (wipe σ vs) := by
  refine ⟨?_, fun i d e => ?_, trivial⟩
  · have l1 : ∀ vs : List Nat, (wipeD δ vs).length = δ.length := fun vs => by
      induction vs with
      | nil => rfl
      | cons v vs ih => simp [wipeD, ih]
    rw [l1, wipe_length]
    exact hs.len
  · rw [wipeD_get] at e
    split at e
    · cases q : δ[i]? with
      | none => rw [q] at e; cases e
      | some x => rw [q] at e; cases e
    · rename_i hv
      obtain ⟨v, h1, h2⟩ := hs.pl i d e
      exact ⟨v, by rw [wipe_get, if_neg hv]; exact h1, h2⟩
theorem lt_yes : LT K κ E tYes fYes := fun σ δ H M ι F Q hs hh p => p.here hh rfl
/-- a change beside -/
theorem RelH.beside (h : RelH K κ ι F H M) {p : Addr} {o : HO} (hn : p ∉ ι) (hF : F p = none) (hq : H p = none ∨ ∃ xs, H p = some (.lst xs)) : RelH K κ ι F (upd H p o) M :=
  ⟨fun a u e => by rw [upd_ne (fun z => by rw [z, hF] at e; cases e)]; exact h.le _ _ e, tabs_keep h.tb (fun b u e t φ hφ => by
      rw [upd_ne (fun z => by rw [z] at e; rcases hq with q | ⟨_, q⟩ <;> rw [q] at e <;> cases e <;> cases hφ)]; exact e) (fun b ps e => by
      rw [upd_ne (fun z => by rw [z] at e; rcases hq with q | ⟨_, q⟩ <;> rw [q] at e <;> cases e)]; exact e), h.nt, h.len, h.nd, h.dis, fun i u e => by
    obtain ⟨a, ho, e1, e2, r⟩ := h.pl i u e
    exact ⟨a, ho, e1, by rw [upd_ne (fun z => by rw [z] at e1; exact hn (List.mem_iff_getElem?.mpr ⟨i, e1⟩))]; exact e2, r⟩⟩
theorem Ext.beside (e : Ext ι F H ι' F' H') {p : Addr} {o : HO} (hp : H p = none) : Ext ι F H ι' F' (upd H' p o) :=
  ⟨e.pre, e.frz, fun a u h n t => by rw [upd_ne (ne_of_none h hp)]; exact e.frame a u h n t, fun a h => by
    by_cases ha : a = p
    · rw [ha]; exact .inl hp
    · exact e.dom a (h.upd fun z => (ha z).elim), e.nι, e.nF⟩
theorem le_lc {w : TI} {g : TG} {t : TT} {e : TE} {vs : List Nat} {fi : FI} {fg : FG} {ft : FT} {fe : FE} (hw : LI K κ E w fi) (hg : LG K κ (EK.of E0) g fg) (gw : GW g vs) (gm : GM g) (ht : LT K κ (EK.of E0) t ft) (he : LE K κ (EK.of E0) e fe) :
    LE K κ E (tLc w g t e vs) (fLc fi fg ft fe vs) := fun σ δ H M ι F Q hs hh p => by
  rw [w_Lc]
  refine hw σ δ H M ι F _ hs hh ((PostI.thenP p).monoQ ?_)
  rintro J H1 ⟨⟨xs, chk⟩, M1, ι1, F1, e1, h1, r1, p1⟩
  intro A hA
  have hsw := relS_wipe (E0 := E0) (hs.ext e1) vs
  -- the turns
  have base : ∀ (m i : Nat) (H : Hp) (M : AH) (ι : List Addr) (F : Hp) (acc : List D) (av : List V), Ext ι1 F1 H1 ι F H → RelH K κ ι F H M → A ∉ ι → F A = none → H A = some (.lst av) → RepL K κ ι F acc av → True := fun _ _ _ _ _ _ _ _ _ _ _ _ _ _ => trivial
  let W : Nat → Nat → Hp → Prop := fun i m H => m + i = xs.length ∧ ∃ (M : AH) (ι : List Addr) (F : Hp) (acc : List D) (av : List V), Ext ι1 F1 H1 ι F H ∧ RelH K κ ι F H M ∧ A ∉ ι ∧ F A = none ∧ H A = some (.lst av) ∧ RepL K κ ι F acc av ∧
    ∃ ys M2, fLcL chk fg ft fe (wipeD δ vs) (xs.drop i) acc M = .ok ys M2 ∧ Post K κ (Rep K κ) ι1 F1 H1 (.ok (.ref M2.length) (M2 ++ [.lst ys])) Q (E.E σ)
  refine ⟨W, ⟨xs.length, rfl, M1, ι1, F1, [], [], ?_, ?_, h1.notin hA, h1.freeF hA, upd_same, .nil, ?_⟩, ?_⟩
  · exact Ext.refl.beside hA
  · exact h1.beside (h1.notin hA) (h1.freeF hA) (.inl hA)
  · revert p1
    simp only [List.drop_zero]
    cases q : fLcL chk fg ft fe (wipeD δ vs) xs [] M1 with
    | ok ys M2 => exact fun p1 => ⟨ys, M2, rfl, p1⟩
    | exc c q M2 => exact fun p1 => p1.elim
    | stuck => exact fun p1 => p1.elim
  rintro i m H ⟨hm, M, ι, F, acc, av, ee, hh, hn, hF, hAv, ra, ys, M2, hL, pq⟩
  cases hx : xs.drop i with
  | nil =>
    rw [hx] at hL
    simp only [fLcL] at hL
    split at hL
    · rename_i hc
      cases hL
      have hl : xs.length = i := by
        have := List.drop_eq_nil_iff.mp hx
        omega
      refine .inl ⟨(r1 i H M ι F ee hh hc).2 hl, ?_⟩
      have h2 := hh.adopt (o := .lst acc) hAv hF hn (.lst ra)
      refine pq (.ref A) H (ι ++ [A]) F ⟨ee.pre.trans (List.prefix_append ..), ee.frz, ee.frame, ee.dom, fun a ha => ?_, ee.nF⟩ h2 (.ref (by rw [← hh.len]; simp))
      rcases List.mem_append.mp ha with ha | ha
      · exact ee.nι a ha
      · have : a = A := by simpa using ha
        rw [this]; exact .inr (.inl hA)
    · cases hL
  | cons d ds =>
    rw [hx] at hL
    simp only [fLcL] at hL
    split at hL
    · rename_i hc
      have hi : xs[i]? = some d := by
        have := congrArg (fun l => l[0]?) hx
        simpa using this
      have hds : xs.drop (i + 1) = ds := by rw [← List.drop_drop, hx]; rfl
      have hlt : i < xs.length := (List.getElem?_eq_some_iff.mp hi).1
      obtain ⟨hgo, hy⟩ := (r1 i H M ι F ee hh hc).1 d hi
      refine .inr ⟨hgo, fun H' => W (i + 1) (m - 1) H', fun H' h => ⟨m - 1, by omega, h⟩, fun v H2 y => ?_⟩
      obtain ⟨F2, e2, hh2, rv⟩ := hy v H2 y
      -- what the list is, behind a step
      have keep : ∀ {ι3 : List Addr} {F3 H3 : Hp}, Ext ι F H ι3 F3 H3 → A ∉ ι3 ∧ F3 A = none ∧ H3 A = some (.lst av) := fun {ι3 F3 H3} e3 => by
        refine ⟨fun ha => (e3.nι A ha).elim hn (fun z => z.no hAv (fun _ q => by cases q)), ?_, (e3.frame A _ hAv (.inl hn) (fun ps z => by cases z)).elim id fun z => z.1.elim⟩
        cases z : F3 A with
        | none => rfl
        | some o => exact ((e3.nF A o z).elim (fun z => by rw [hF] at z; cases z) fun z => (z.no hAv (fun _ q => by cases q)).elim)
      split at hL
      · rename_i δ3 M3 hg3
        split at hL
        · rename_i M4 ht4
          split at hL
          · rename_i y5 M5 he5
            split at hL
            · rename_i hlen
              refine gm v _ _ _ _ (fun σ3 H3 ⟨q, w⟩ => ⟨w.trans wipe_wipe, q⟩) (gw v (wipe σ vs) H2 _ (hg v d (wipe σ vs) (wipeD δ vs) H2 M ι F2 { nx := _, rt := fun _ _ => True } (RelS.ext (H := H) (H' := H2) (relS_wipe (E0 := E0) ((hs.ext e1).ext ee) vs) e2) hh2 rv ?_))
              rw [hg3]
              intro σ3 H3 ι3 F3 e3 h3 s3
              have e13 := e2.trans e3
              refine ht σ3 δ3 H3 M3 ι3 F3 _ s3 h3 ?_
              rw [ht4]
              rintro b H4 ι4 F4 e4 h4 rfl
              rw [if_pos rfl]
              refine he σ3 δ3 H4 M4 ι4 F4 _ (s3.ext e4) h4 ?_
              rw [he5]
              intro yv H5 ι5 F5 e5 h5 r5
              have e15 := (e13.trans e4).trans e5
              obtain ⟨n5, f5, a5⟩ := keep e15
              refine ⟨av, a5, by rw [← ra.len]; exact hlen, by omega, M5, ι5, F5, acc ++ [y5], av ++ [yv], (ee.trans e15).beside hA, h5.beside n5 f5 (.inr ⟨_, a5⟩), n5, f5, upd_same, (ra.ext e15).append (.cons r5 .nil), ys, M2, by rw [hds]; exact hL, pq⟩
            · cases hL
          · cases hL
        · rename_i M4 ht4
          refine gm v _ _ _ _ (fun σ3 H3 ⟨q, w⟩ => ⟨w.trans wipe_wipe, q⟩) (gw v (wipe σ vs) H2 _ (hg v d (wipe σ vs) (wipeD δ vs) H2 M ι F2 { nx := _, rt := fun _ _ => True } (RelS.ext (H := H) (H' := H2) (relS_wipe (E0 := E0) ((hs.ext e1).ext ee) vs) e2) hh2 rv ?_))
          rw [hg3]
          intro σ3 H3 ι3 F3 e3 h3 s3
          have e13 := e2.trans e3
          refine ht σ3 δ3 H3 M3 ι3 F3 _ s3 h3 ?_
          rw [ht4]
          rintro b H4 ι4 F4 e4 h4 rfl
          rw [if_neg Bool.false_ne_true]
          have e15 := e13.trans e4
          obtain ⟨n5, f5, a5⟩ := keep e15
          exact ⟨by omega, M4, ι4, F4, acc, av, ee.trans e15, h4, n5, f5, a5, ra.ext e15, ys, M2, by rw [hds]; exact hL, pq⟩
        · cases hL
      · cases hL
    · cases hL
end
end G
namespace G
open PySem PySem.Spec PyProof.Rows L2
/-! ### dicts -/
def keyD : D → Option Key
  | .int i => some (.inl i)
  | .str z => some (.inr z)
  | _ => none
def dOfK : Key → D
  | .inl i => .int i
  | .inr z => .str z
def valD (ks : List Key) (xs : List D) (k : Key) : Option D := ((ks.zip xs).find? fun p => decide (p.1 = k)).map (·.2)
def hasK (ks : List Key) (k : Key) : Bool := ks.any fun j => decide (j = k)
def putD (ks : List Key) (xs : List D) (k : Key) (d : D) : List Key × List D :=
  if hasK ks k then (ks, List.zipWith (fun j x => if j = k then d else x) ks xs) else (ks ++ [k], xs ++ [d])
def mergeD : List Key × List D → List (Key × D) → List Key × List D
  | a, [] => a
  | a, p :: r => mergeD (putD a.1 a.2 p.1 p.2) r
/-- the pairs of a tuple or list of pairs -/
def pairsD : List D → Option (List (Key × D))
  | [] => some []
  | d :: r => match tupOf d, pairsD r with
    | some [a, b], some ps => (match keyD a with | some k => some ((k, b) :: ps) | none => none)
    | _, _ => none
def fDNew : FE := fun _ M => .ok (.ref M.length) (M ++ [.dct [] []])
def gDGet : D → D → AH → Res D := fun d y M => match dctOf d M, keyD y with
  | some (ks, xs), some k => (match valD ks xs k with | some x => .ok x M | none => .stuck)
  | _, _ => .stuck
def fDGet (d y : FE) : FE := fun δ M => (d δ M).bind fun a M1 => (y δ M1).bind fun k M2 => gDGet a k M2
def fDGet2 (d y z : FE) : FE := fun δ M => (d δ M).bind fun a M1 => if (dctOf a M1).isSome then (y δ M1).bind fun k M2 => (z δ M2).bind fun e M3 => (match dctOf a M3, keyD k with
  | some (ks, xs), some k => .ok ((valD ks xs k).getD e) M3
  | _, _ => .stuck) else .stuck
def fDPut (d y v : FE) : FS := fun δ M => (v δ M).thenS δ fun x M1 => (d δ M1).thenS δ fun a M2 => (y δ M2).thenS δ fun k M3 => match a, keyD k with
  | .ref i, some k => (match M3[i]? with
    | some (.dct ks xs) => if ks.length < sizeLine then .nx δ (M3.set i (.dct (putD ks xs k x).1 (putD ks xs k x).2)) else .stuck
    | _ => .stuck)
  | _, _ => .stuck
/-- dict(..) of a tuple of pairs, of a dict -/
def gDict : List D → AH → Res D := fun xs M => match xs with
  | [.tup ds] => (match pairsD ds with | some ps => .ok (.ref M.length) (M ++ [.dct (mergeD ([], []) ps).1 (mergeD ([], []) ps).2]) | none => .stuck)
  | [d] => (match dctOf d M with | some (ks, ys) => .ok (.ref M.length) (M ++ [.dct ks ys]) | none => .stuck)
  | _ => .stuck
section
variable {K : PySem.W.Frag} {κ : Kap} {E : EK} {ι ι' : List Addr} {F F' H H' : Hp} {M M' : AH}
theorem keyD_rep {d : D} {v : V} {k : Key} (r : Rep K κ ι F d v) (h : keyD d = some k) : v = kV k := by
  cases r <;> simp only [keyD] at h <;> cases h <;> rfl
theorem val_rep {ks : List Key} {xs : List D} {vs : List V} (hl : ks.length = vs.length) (r : RepL K κ ι F xs vs) (k : Key) :
    (valD ks xs k = none ∧ valV (ks.zip vs) k = none) ∨ ∃ d v, valD ks xs k = some d ∧ valV (ks.zip vs) k = some v ∧ Rep K κ ι F d v := by
  induction ks generalizing xs vs with
  | nil => exact .inl ⟨rfl, rfl⟩
  | cons j ks ih =>
    cases r with
    | nil => cases hl
    | @cons d v xs vs a b =>
      by_cases hj : j = k
      · exact .inr ⟨d, v, by simp [valD, hj], by simp [valV, hj], a⟩
      · rcases ih (by simpa using hl) b with ⟨h1, h2⟩ | ⟨x, y, h1, h2, h3⟩
        · exact .inl ⟨by simp [valD, hj] at h1 ⊢; exact h1, by simp [valV, hj] at h2 ⊢; exact h2⟩
        · exact .inr ⟨x, y, by simp [valD, hj] at h1 ⊢; exact h1, by simp [valV, hj] at h2 ⊢; exact h2, h3⟩
theorem putD_len {ks : List Key} {xs : List D} {k : Key} {d : D} (h : ks.length = xs.length) : (putD ks xs k d).1.length = (putD ks xs k d).2.length := by
  unfold putD
  split <;> simp [h]
theorem put_rep {ks : List Key} {xs : List D} {vs : List V} {k : Key} {d : D} {v : V} (hl : ks.length = vs.length) (r : RepL K κ ι F xs vs) (rd : Rep K κ ι F d v) :
    ∃ ws, putK (ks.zip vs) k v = (putD ks xs k d).1.zip ws ∧ (putD ks xs k d).1.length = ws.length ∧ RepL K κ ι F (putD ks xs k d).2 ws := by
  have hany : ((ks.zip vs).any fun kv => decide (kv.1 = k)) = hasK ks k := by
    clear r
    unfold hasK
    induction ks generalizing vs with
    | nil => simp
    | cons j ks ih =>
      cases vs with
      | nil => cases hl
      | cons w vs =>
        have := ih (vs := vs) (by simpa using hl)
        simp only [List.zip_cons_cons, List.any_cons, this]
  unfold putK putD
  rw [hany]
  by_cases hk : hasK ks k = true
  · rw [if_pos hk, if_pos hk]
    refine ⟨List.zipWith (fun j x => if j = k then v else x) ks vs, ?_, by simp [hl], ?_⟩
    · clear hany hk r
      induction ks generalizing vs with
      | nil => rfl
      | cons j ks ih =>
        cases vs with
        | nil => cases hl
        | cons w vs =>
          have := ih (vs := vs) (by simpa using hl)
          simp only [List.zip_cons_cons, List.map_cons, List.zipWith_cons_cons, this]
          split <;> rfl
    · clear hany hk
      induction ks generalizing xs vs with
      | nil => cases vs with
        | nil => cases r; exact .nil
        | cons _ _ => cases hl
      | cons j ks ih =>
        cases r with
        | nil => cases hl
        | cons a b =>
          simp only [List.zipWith_cons_cons]
          refine .cons ?_ (ih (by simpa using hl) b)
          split
          · exact rd
          · exact a
  · rw [if_neg hk, if_neg hk]
    refine ⟨vs ++ [v], ?_, by simp [hl], r.append (.cons rd .nil)⟩
    rw [List.zip_append hl]
    rfl
theorem merge_rep : ∀ {ps : List (Key × D)} {qs : List (Key × V)} {ks : List Key} {xs : List D} {vs : List V}, Paired (fun (p : Key × D) (q : Key × V) => p.1 = q.1 ∧ Rep K κ ι F p.2 q.2) ps qs → ks.length = vs.length → RepL K κ ι F xs vs →
    ∃ ws, mergeK (ks.zip vs) qs = (mergeD (ks, xs) ps).1.zip ws ∧ (mergeD (ks, xs) ps).1.length = ws.length ∧ RepL K κ ι F (mergeD (ks, xs) ps).2 ws
  | [], _, ks, xs, vs, .nil, hl, r => ⟨vs, rfl, hl, r⟩
  | p :: ps, q :: qs, ks, xs, vs, .cons h t, hl, r => by
    obtain ⟨ws, h1, h2, h3⟩ := put_rep (k := p.1) hl r h.2
    have e : mergeK (ks.zip vs) (q :: qs) = mergeK (putK (ks.zip vs) q.1 q.2) qs := rfl
    rw [e, ← h.1, h1]
    exact merge_rep t h2 h3
theorem pairs_rep : ∀ {ds : List D} {vs : List V} {ps : List (Key × D)}, RepL K κ ι F ds vs → pairsD ds = some ps → ∃ (as : List Addr) (qs : List (Key × V)), vs = as.map V.ref ∧ Paired (fun p kv => SqT K F p [kV kv.1, kv.2]) as qs ∧ Paired (fun (p : Key × D) (q : Key × V) => p.1 = q.1 ∧ Rep K κ ι F p.2 q.2) ps qs
  | [], _, _, r, h => by
    cases r
    simp only [pairsD] at h
    cases h
    exact ⟨[], [], rfl, .nil, .nil⟩
  | d :: ds, _, _, r, h => by
    cases r with
    | cons ra rb =>
      simp only [pairsD] at h
      split at h
      · rename_i a b ps h1 h2
        split at h
        · rename_i k hk
          cases h
          obtain ⟨as, qs, rfl, p1, p2⟩ := pairs_rep rb h2
          obtain ⟨p, vs, rfl, hq, rr⟩ := tupF_at ra h1
          cases rr with
          | cons r1 r2 => cases r2 with
            | @cons _ v2 _ _ r2 r3 =>
              cases r3
              have := keyD_rep r1 hk
              subst this
              exact ⟨p :: as, (k, v2) :: qs, rfl, .cons hq p1, .cons ⟨rfl, r2⟩ p2⟩
        · cases h
      · cases h
theorem le_dnew : LE K κ E tDNewK fDNew := fun σ δ H M ι F Q hs hh p => fun q hq => by
  obtain ⟨e2, h2, h3⟩ := hh.new (o := .dct [] []) (ho := .dK []) hq (RepO.dct (ks := []) (vs := []) rfl .nil)
  exact p _ _ _ _ e2 h2 (.ref h3)
theorem dgetK {d y : D} {v w : V} {ks : List Key} {xs : List D} {k : Key} (hh : RelH K κ ι F H M) (rd : Rep K κ ι F d v) (ry : Rep K κ ι F y w) (h1 : dctOf d M = some (ks, xs)) (h2 : keyD y = some k) :
    ∃ a, v = .ref a ∧ IsD H a ∧ ((valD ks xs k = none ∧ DGet H a w none) ∨ ∃ x u, valD ks xs k = some x ∧ DGet H a w (some u) ∧ Rep K κ ι F x u) := by
  obtain ⟨a, vs, rfl, hd, hl, r⟩ := dct_at hh rd h1
  have hw := keyD_rep ry h2
  subst hw
  refine ⟨a, rfl, .inl ⟨_, hd⟩, ?_⟩
  have g : DGet H a (kV k) (valV (ks.zip vs) k) := .inl ⟨_, k, hd, rfl, rfl⟩
  rcases val_rep hl r k with ⟨e1, e2⟩ | ⟨x, u, e1, e2, ru⟩
  · rw [e2] at g
    exact .inl ⟨e1, g⟩
  · rw [e2] at g
    exact .inr ⟨x, u, e1, g, ru⟩
theorem le_dget {td ty : TE} {fd fy : FE} (h1 : LE K κ E td fd) (h2 : LE K κ E ty fy) : LE K κ E (tDGet td ty) (fDGet fd fy) := fun σ δ H M ι F Q hs hh p => by
  refine h1 σ δ H M ι F _ hs hh ((Post.bind (R := Rep K κ) p).mono Ext.refl ?_)
  rintro v H1 ⟨d, M1, ι1, F1, e1, hh1, r1, p1⟩
  refine h2 σ δ H1 M1 ι1 F1 _ (hs.ext e1) hh1 ((Post.bind (R := Rep K κ) p1).mono Ext.refl ?_)
  rintro w H2 ⟨d2, M2, ι2, F2, e2, hh2, r2, p2⟩
  unfold gDGet at p2
  split at p2
  · rename_i hd hk
    obtain ⟨a, rfl, _, q⟩ := dgetK hh2 (r1.ext e2) r2 hd hk
    split at p2
    · rename_i x hx
      rcases q with ⟨q, _⟩ | ⟨x2, u, q1, q2, q3⟩
      · rw [hx] at q; cases q
      · rw [hx] at q1
        cases q1
        exact ⟨a, u, rfl, q2, p2.here hh2 q3⟩
    · exact p2.elim
  · exact p2.elim
theorem le_dget2 {td ty tx : TE} {fd fy fx : FE} (h1 : LE K κ E td fd) (h2 : LE K κ E ty fy) (h3 : LE K κ E tx fx) : LE K κ E (tDGet2 td ty tx) (fDGet2 fd fy fx) := fun σ δ H M ι F Q hs hh p => by
  refine h1 σ δ H M ι F _ hs hh ((Post.bind (R := Rep K κ) p).mono Ext.refl ?_)
  rintro v H1 ⟨d, M1, ι1, F1, e1, hh1, r1, p1⟩
  split at p1
  · rename_i hd0
    have s1 := hs.ext e1
    obtain ⟨⟨ks0, xs0⟩, hd0⟩ := Option.isSome_iff_exists.mp hd0
    obtain ⟨a, vs0, ea, hq0, _, _⟩ := dct_at hh1 r1 hd0
    refine ⟨a, ea, .inl ⟨_, hq0⟩, ?_⟩
    refine h2 σ δ H1 M1 ι1 F1 _ s1 hh1 ((Post.bind (R := Rep K κ) p1).mono Ext.refl ?_)
    rintro w H2 ⟨d2, M2, ι2, F2, e2, hh2, r2, p2⟩
    refine h3 σ δ H2 M2 ι2 F2 _ (s1.ext e2) hh2 ((Post.bind (R := Rep K κ) p2).mono Ext.refl ?_)
    rintro z H3 ⟨d3, M3, ι3, F3, e3, hh3, r3, p3⟩
    split at p3
    · rename_i hd hk
      obtain ⟨b, eb, _, q⟩ := dgetK hh3 ((r1.ext e2).ext e3) (r2.ext e3) hd hk
      have hab : a = b := by rw [ea] at eb; exact V.ref.inj eb
      subst hab
      rcases q with ⟨q, g⟩ | ⟨x2, u, q1, q2, q3⟩
      · rw [q] at p3
        exact ⟨none, g, p3.here hh3 r3⟩
      · rw [q1] at p3
        exact ⟨some u, q2, p3.here hh3 q3⟩
    · exact p3.elim
  · exact p1.elim
theorem ls_dput {td ty tv : TE} {fd fy fv : FE} (h1 : LE K κ E td fd) (h2 : LE K κ E ty fy) (h3 : LE K κ E tv fv) : LS K κ E (sDPut td ty tv) (fDPut fd fy fv) := fun σ δ H M ι F T hs hh p => by
  refine h3 σ δ H M ι F _ hs hh ((SPost.thenS (R := Rep K κ) hs p).mono Ext.refl ?_)
  rintro v H1 ⟨x, M1, ι1, F1, e1, hh1, r1, p1⟩
  have s1 := hs.ext e1
  refine h1 σ δ H1 M1 ι1 F1 _ s1 hh1 ((SPost.thenS (R := Rep K κ) s1 p1).mono Ext.refl ?_)
  rintro a H2 ⟨d, M2, ι2, F2, e2, hh2, r2, p2⟩
  have s2 := s1.ext e2
  refine h2 σ δ H2 M2 ι2 F2 _ s2 hh2 ((SPost.thenS (R := Rep K κ) s2 p2).mono Ext.refl ?_)
  rintro w H3 ⟨y, M3, ι3, F3, e3, hh3, r3, p3⟩
  split at p3
  · rename_i i k hk
    split at p3
    · rename_i ks xs hM
      split at p3
      · rename_i hlen
        obtain ⟨b, u, rfl, hb, hu, ru⟩ := relH_ref hh3 (r2.ext e3) hM
        have hw := keyD_rep r3 hk
        subst hw
        cases ru with
        | @dct _ _ vs hl ru =>
          obtain ⟨ws, q1, q2, q3⟩ := put_rep (k := k) hl ru ((r1.ext e2).ext e3)
          obtain ⟨e4, hh4⟩ := hh3.put (o := .dct (putD ks xs k x).1 (putD ks xs k x).2) (ho := .dK ((putD ks xs k x).1.zip ws)) hb hM rfl (.dct q2 q3)
          refine ⟨b, _, rfl, .inl ⟨_, k, hu, rfl, by rw [List.length_zip, hl, Nat.min_self, ← hl]; exact hlen, rfl⟩, ?_⟩
          rw [q1]
          exact p3 σ _ ι3 F3 e4 hh4 ((s2.ext e3).ext e4)
      · exact p3.elim
    · exact p3.elim
  · exact p3.elim
def rDictG (K : PySem.W.Frag) : List V → Hp → VK → Prop := fun xs H Q => (∃ (a : Addr) (ps : List Addr) (kvs : List (Key × V)), xs = [.ref a] ∧ PlainT K H a (ps.map V.ref) ∧
    Paired (fun p kv => SqT K H p [kV kv.1, kv.2]) ps kvs ∧ ∀ p, H p = none → Q (.ref p) (upd H p (.dK (mergeK [] kvs)))) ∨ ∃ (a : Addr) (kvs : List (Key × V)), xs = [.ref a] ∧ Rd H a (.dK kvs) ∧ ∀ p, H p = none → Q (.ref p) (upd H p (.dK kvs))
theorem call_dictG {X : Cx} (hc : X.calm = true) : CallR X (.type "dict") (rDictG X.K) := by
  intro pins s σ H xs us Q I r h
  rcases h with h | h
  · exact call_dictF hc pins s σ H xs us Q I r h
  · exact call_dictD pins s σ H xs us Q I r h
theorem paired_mono {α β : Type} {R S : α → β → Prop} (h : ∀ a b, R a b → S a b) : ∀ {as : List α} {bs : List β}, Paired R as bs → Paired S as bs
  | _, _, .nil => .nil
  | _, _, .cons a b => .cons (h _ _ a) (paired_mono h b)
theorem PlainT.monoP {a : Addr} {vs : List V} (h : PlainT K F a vs) (s : Le F H) : PlainT K H a vs := by
  rcases h with ⟨o, h⟩ | h
  · exact .inl ⟨o, s.ex h.1 (fun z => z), h.2⟩
  · exact .inr h
theorem dictK : LRN K κ (rDictG K) gDict := fun H M ι F xs vs Q e hh r p => by
  unfold gDict at p
  split at p
  · rename_i ds
    split at p
    · rename_i ps hps
      cases r with
      | cons a b =>
        cases b
        cases a with
        | @tup _ ad vs hp rr =>
          obtain ⟨as, qs, rfl, p1, p2⟩ := pairs_rep rr hps
          obtain ⟨ws, m1, m2, m3⟩ := merge_rep (ks := []) (vs := []) p2 rfl .nil
          refine .inl ⟨ad, as, qs, rfl, hp.monoP hh.le, paired_mono (fun _ _ h => h.monoL hh.le) p1, fun q hq => ?_⟩
          have : mergeK [] qs = (mergeD ([], []) ps).1.zip ws := m1
          rw [this]
          obtain ⟨e2, h2, h3⟩ := hh.new hq (.dct m2 m3)
          exact p _ _ _ _ e2 h2 (.ref h3)
    · exact p.elim
  · cases r with
    | cons a b =>
      cases b
      split at p
      · rename_i hx
        obtain ⟨q, ws, rfl, h1, h2, h3⟩ := dct_at hh a hx
        refine .inr ⟨q, _, rfl, h1, fun l hl => ?_⟩
        obtain ⟨e2, hh2, h5⟩ := hh.new hl (.dct h2 h3)
        exact p _ _ _ _ e2 hh2 (.ref h5)
      · exact p.elim
  · exact p.elim
end
end G
namespace G
open PySem PySem.Spec PyProof.Rows L2
/-! ### objects -/
def objOf (c : String) (d : D) (M : AH) : Option (List String × List D) := match d with
  | .obj c' ns xs => if c' = c then some (ns, xs) else none
  | .ref i => (match M[i]? with | some (.obj c' ns xs) => if c' = c then some (ns, xs) else none | _ => none)
  | _ => none
def look (f : String) : List String → List D → Option D
  | n :: ns, x :: xs => if n = f then some x else look f ns xs
  | _, _ => none
def putN (f : String) (d : D) : List String → List D → List String × List D
  | n :: ns, x :: xs => if n = f then (n :: ns, d :: xs) else (n :: (putN f d ns xs).1, x :: (putN f d ns xs).2)
  | _, _ => ([f], [d])
def fFld (c f : String) (o : FE) : FE := fun δ M => (o δ M).bind fun d M1 => match objOf c d M1 with
  | some (ns, xs) => (match look f ns xs with | some x => .ok x M1 | none => .stuck)
  | none => .stuck
def fsFld (c f : String) (o v : FE) : FS := fun δ M => (v δ M).thenS δ fun y M1 => (o δ M1).thenS δ fun d M2 => match d with
  | .ref i => (match M2[i]? with
    | some (.obj c' ns xs) => if c' = c ∧ ns.length = xs.length ∧ ns.length < 1000 then .nx δ (M2.set i (.obj c (putN f y ns xs).1 (putN f y ns xs).2)) else .stuck
    | _ => .stuck)
  | _ => .stuck
def fMeth (c m : String) (f : FD) (o : FE) (a : FA) : FE := fun δ M => (o δ M).bind fun x M1 => match objOf c x M1 with
  | some (ns, _) => if m ∈ ns then .stuck else (a δ M1).bind fun xs M2 => f (x :: xs) M2
  | none => .stuck
def fProp (c : String) (f : FD) (o : FE) : FE := fun δ M => (o δ M).bind fun x M1 => match objOf c x M1 with
  | some _ => f [x] M1
  | none => .stuck
/-- an object is made, and never changes again -/
def mkFin (n : Nat) (M1 : AH) (r : Res D) : Res D := match r with
  | .ok .non M2 => fin M1 (.ok (.ref n) M2)
  | .ok _ _ => .stuck
  | r => fin M1 r
def fMk (c : String) (f : FD) (ds : List D) (a : FA) : FE := fun δ M => (a δ M).bind fun xs M1 => mkFin M1.length M1 (f (.ref M1.length :: (xs ++ ds)) (M1 ++ [.obj c [] []]))
/-- an object is made -/
def fMkM (c : String) (f : FD) (ds : List D) (a : FA) : FE := fun δ M => (a δ M).bind fun xs M1 => match f (.ref M1.length :: (xs ++ ds)) (M1 ++ [.obj c [] []]) with
  | .ok .non M2 => .ok (.ref M1.length) M2
  | .ok _ _ => .stuck
  | r => r
def fCMeth (c : String) (f : FD) (o : FE) (a : FA) : FE := fun δ M => (o δ M).bind fun x M1 => match x with
  | .cls c' => if c' = c then (a δ M1).bind fun xs M2 => f (.cls c :: xs) M2 else .stuck
  | _ => .stuck
def fStar (n : Nat) (f : FD) : FD := fun ds M => if n ≤ ds.length ∧ ds.length ≤ sizeLine then f (ds.take n ++ [.tuq (ds.drop n)]) M else .stuck
def gOwn (c : String) (f : FD) : D → D → AH → Res D := fun x y M => match objOf c x M, objOf c y M with
  | some _, some _ => f [x, y] M
  | _, _ => .stuck
def gOwnI (c : String) (f : FD) : D → D → AH → Res D := fun x y M => match objOf c x M, y with
  | some _, .int i => f [x, .int i] M
  | _, _ => .stuck
def gOwnNe (c : String) (f : FD) : D → D → AH → Res D := fun x y M => match objOf c x M, objOf c y M with
  | some _, some _ => (f [x, y] M).bind fun d M1 => match d with | .bl b => .ok (.bl (!b)) M1 | _ => .stuck
  | _, _ => .stuck
def lenChk (n : Int) (M : AH) : Res D := if 0 ≤ n ∧ n.toNat < 2 ^ 63 then .ok (.int n) M else .stuck
theorem lenChk_ok {n : Nat} {M : AH} (h1 : n < 2 ^ 63) : lenChk (n : Int) M = .ok (.int n) M := if_pos ⟨Int.natCast_nonneg _, by simpa using h1⟩
def gLenOwn (c : String) (f : FD) : List D → AH → Res D := fun xs M => match xs with
  | [x] => (match objOf c x M with
    | some _ => (f [x] M).bind fun d M1 => match d with | .int n => lenChk n M1 | _ => .stuck
    | none => .stuck)
  | _ => .stuck
def gIsiX (cs : List String) : List D → AH → Res D := fun xs M => match xs with
  | [x, .cls c] => (match objOf c x M with
    | some _ => if c ∈ cs then .ok (.bl true) M else .stuck
    | none => .stuck)
  | xs => gIsi xs M
theorem ofS_inj {a b : String} (h : Str.ofString a = Str.ofString b) : a = b := by
  have h2 : tl (Str.ofString a) = tl (Str.ofString b) := congrArg tl h
  rw [show tl (Str.ofString a) = TL.tl (Str.ofString a) from rfl, show tl (Str.ofString b) = TL.tl (Str.ofString b) from rfl, TL.tl_ofString, TL.tl_ofString] at h2
  have h3 : a.toList = b.toList := by
    have inj : ∀ {x y : List Char}, x.map Char.toNat = y.map Char.toNat → x = y := by
      intro x y h
      induction x generalizing y with
      | nil => cases y with
        | nil => rfl
        | cons _ _ => cases h
      | cons c x ih =>
        cases y with
        | nil => cases h
        | cons d y =>
          simp only [List.map_cons, List.cons.injEq] at h
          rw [Char.toNat_inj.mp h.1, ih h.2]
    exact inj h2
  exact String.toList_inj.mp h3
section
variable {K : PySem.W.Frag} {κ : Kap} {E : EK} {ι ι' : List Addr} {F F' H H' : Hp} {M M' : AH} {c f m : String}
abbrev zipN (ns : List String) (vs : List V) : List (Str × V) := (ns.map Str.ofString).zip vs
theorem obj_at (hh : RelH K κ ι F H M) {d : D} {v : V} {ns : List String} {xs : List D} (r : Rep K κ ι F d v) (e : objOf c d M = some (ns, xs)) : ∃ a dx vs, v = .ref a ∧ H a = some (.ins (κ c) dx (zipN ns vs)) ∧ ns.length = vs.length ∧ RepL K κ ι F xs vs := by
  unfold objOf at e
  split at e
  · split at e
    · rename_i hc
      subst hc
      cases e
      cases r with
      | obj h l r => exact ⟨_, _, _, rfl, hh.le.ex h fun z => z, l, r⟩
    · cases e
  · split at e
    · rename_i q
      split at e
      · rename_i hc
        subst hc
        cases e
        obtain ⟨a, u, rfl, h1, h2, h3⟩ := relH_ref hh r q
        cases h3 with
        | obj l h3 => exact ⟨a, _, _, rfl, h2, l, h3⟩
      · cases e
    · cases e
  · cases e
theorem look_rep {ns : List String} {xs : List D} {vs : List V} (r : RepL K κ ι F xs vs) {d : D} (h : look f ns xs = some d) : ∃ v, (zipN ns vs).lookup (Str.ofString f) = some v ∧ Rep K κ ι F d v := by
  induction ns generalizing xs vs with
  | nil => simp [look] at h
  | cons n ns ih =>
    cases r with
    | nil => simp [look] at h
    | @cons x v xs vs a b =>
      simp only [look] at h
      by_cases hn : n = f
      · subst hn
        rw [if_pos rfl] at h
        cases h
        exact ⟨v, by simp [zipN, List.lookup], a⟩
      · rw [if_neg hn] at h
        obtain ⟨w, h1, h2⟩ := ih b h
        refine ⟨w, ?_, h2⟩
        have : (Str.ofString f == Str.ofString n) = false := beq_eq_false_iff_ne.mpr fun z => hn (ofS_inj z).symm
        simp only [zipN, List.map_cons, List.zip_cons_cons, List.lookup, this]
        exact h1
theorem nolook {ns : List String} {vs : List V} (h : m ∉ ns) : (zipN ns vs).lookup (Str.ofString m) = none := by
  induction ns generalizing vs with
  | nil => rfl
  | cons n ns ih =>
    cases vs with
    | nil => rfl
    | cons v vs =>
      have : (Str.ofString m == Str.ofString n) = false := beq_eq_false_iff_ne.mpr fun z => h (by rw [ofS_inj z]; exact List.mem_cons_self ..)
      simp only [zipN, List.map_cons, List.zip_cons_cons, List.lookup, this]
      exact ih fun z => h (List.mem_cons_of_mem _ z)
theorem putN_rep {ns : List String} {xs : List D} {vs : List V} {d : D} {v : V} (hl : ns.length = vs.length) (r : RepL K κ ι F xs vs) (rd : Rep K κ ι F d v) :
    ∃ ws, putF (Str.ofString f) v (zipN ns vs) = zipN (putN f d ns xs).1 ws ∧ (putN f d ns xs).1.length = ws.length ∧ RepL K κ ι F (putN f d ns xs).2 ws := by
  induction ns generalizing xs vs with
  | nil =>
    cases vs with
    | cons _ _ => cases hl
    | nil => cases r; exact ⟨[v], rfl, rfl, .cons rd .nil⟩
  | cons n ns ih =>
    cases r with
    | nil => cases hl
    | @cons x w xs vs a b =>
      by_cases hn : n = f
      · subst hn
        refine ⟨v :: vs, ?_, ?_, ?_⟩
        · simp [zipN, putF, putN]
        · simpa [putN] using hl
        · simp only [putN, if_pos]; exact .cons rd b
      · obtain ⟨ws, h1, h2, h3⟩ := ih (by simpa using hl) b
        refine ⟨w :: ws, ?_, ?_, ?_⟩
        · have hne : ¬ Str.ofString n = Str.ofString f := fun z => hn (ofS_inj z)
          simp only [zipN, List.map_cons, List.zip_cons_cons, putF, if_neg hne, putN, if_neg hn]
          exact congrArg _ h1
        · simp only [putN, if_neg hn, List.length_cons, h2]
        · simp only [putN, if_neg hn]; exact .cons a h3
theorem le_fld {t : TE} {fe : FE} (cl : Cls K (κ c)) (na : NoAttr K (κ c) (Str.ofString f)) (h : LE K κ E t fe) : LE K κ E (tFld K t (Str.ofString f)) (fFld c f fe) := fun σ δ H M ι F Q hs hh p => by
  refine h σ δ H M ι F _ hs hh ((Post.bind (R := Rep K κ) p).mono Ext.refl ?_)
  rintro v H1 ⟨d, M1, ι1, F1, e1, hh1, r1, p1⟩
  split at p1
  · rename_i ns xs ho
    split at p1
    · rename_i x hx
      obtain ⟨a, dx, vs, rfl, h1, h2, h3⟩ := obj_at hh1 r1 ho
      obtain ⟨w, h4, h5⟩ := look_rep h3 hx
      exact ⟨a, _, dx, _, w, rfl, h1, cl, na, h4, p1.here hh1 h5⟩
    · exact p1.elim
  · exact p1.elim
theorem ls_fld {to tv : TE} {fo fv : FE} (cl : Cls K (κ c)) (na : NoAttr K (κ c) (Str.ofString f)) (h : LE K κ E to fo) (h' : LE K κ E tv fv) : LS K κ E (sFld K to tv (Str.ofString f)) (fsFld c f fo fv) := fun σ δ H M ι F T hs hh p => by
  refine h' σ δ H M ι F _ hs hh ((SPost.thenS (R := Rep K κ) hs p).mono Ext.refl ?_)
  rintro v H1 ⟨y, M1, ι1, F1, e1, hh1, r1, p1⟩
  have s1 := hs.ext e1
  refine h σ δ H1 M1 ι1 F1 _ s1 hh1 ((SPost.thenS (R := Rep K κ) s1 p1).mono Ext.refl ?_)
  rintro w H2 ⟨d, M2, ι2, F2, e2, hh2, r2, p2⟩
  split at p2
  · split at p2
    · rename_i c' ns xs hM
      split at p2
      · rename_i hc
        obtain ⟨rfl, hl, hlt⟩ := hc
        obtain ⟨a, u, rfl, ha, hu, ru⟩ := relH_ref hh2 r2 hM
        cases ru with
        | @obj _ _ _ dx vs l ru =>
          obtain ⟨ws, q1, q2, q3⟩ := putN_rep (f := f) l ru (r1.ext e2)
          obtain ⟨e3, hh3⟩ := hh2.put (o := .obj c' (putN f y ns xs).1 (putN f y ns xs).2) (ho := .ins (κ c') dx (zipN (putN f y ns xs).1 ws)) ha hM rfl (.obj q2 q3)
          refine ⟨a, _, dx, _, rfl, hu, cl, na, ?_, ?_⟩
          · rw [List.length_zip, List.length_map, l, Nat.min_self, ← l]; exact hlt
          · rw [q1]
            exact p2 σ _ ι2 F2 e3 hh3 ((s1.ext e2).ext e3)
      · exact p2.elim
    · exact p2.elim
  · exact p2.elim
theorem le_meth {E1 : XK} {g : FD} {to : TE} {ta : TA} {fo : FE} {fa : FA} (h : LE K κ (EK.of E1) to fo) (h' : LA K κ (EK.of E1) ta fa) : LE K κ (EK.of E1) (tMeth (κ c) (Str.ofString m) (conc K κ g) [] E1 to ta) (fMeth c m g fo fa) := fun σ δ H M ι F Q hs hh p => by
  rw [w_Meth]
  refine h σ δ H M ι F _ hs hh ((Post.bind (R := Rep K κ) p).mono Ext.refl ?_)
  rintro v H1 ⟨d, M1, ι1, F1, e1, hh1, r1, p1⟩
  split at p1
  · rename_i ns xs ho
    split at p1
    · exact p1.elim
    · rename_i hm
      obtain ⟨a, dx, vs, ev, h1, h2, h3⟩ := obj_at hh1 r1 ho
      refine ⟨a, dx, _, ev, h1, nolook hm, ?_⟩
      refine h' σ δ H1 M1 ι1 F1 _ (hs.ext e1) hh1 ((Post.bind (R := RepL K κ) p1).mono Ext.refl ?_)
      rintro ws H2 ⟨ds, M2, ι2, F2, e2, hh2, r2, p2⟩
      exact ⟨d :: ds, M2, ι2, F2, hh2, .cons (r1.ext e2) r2, p2⟩
  · exact p1.elim
theorem le_prop {E1 : XK} {g : FD} {to : TE} {fo : FE} (h : LE K κ (EK.of E1) to fo) : LE K κ (EK.of E1) (tProp (κ c) (conc K κ g) [] E1 to) (fProp c g fo) := fun σ δ H M ι F Q hs hh p => by
  rw [w_Prop]
  refine h σ δ H M ι F _ hs hh ((Post.bind (R := Rep K κ) p).mono Ext.refl ?_)
  rintro v H1 ⟨d, M1, ι1, F1, e1, hh1, r1, p1⟩
  split at p1
  · rename_i q ho
    obtain ⟨ns, xs⟩ := q
    obtain ⟨a, dx, vs, rfl, h1, h2, h3⟩ := obj_at hh1 r1 ho
    exact ⟨a, dx, _, rfl, h1, [d], M1, ι1, F1, hh1, .cons r1 .nil, p1⟩
  · exact p1.elim
/-- a new object stands -/
theorem new_obj (hh : RelH K κ ι F H M) {x dx : Addr} (hx : H x = none) (hd : H dx = none) (hne : dx ≠ x) :
    Ext ι F H (ι ++ [x]) F (upd (upd H dx (.own x)) x (.ins (κ c) dx [])) ∧ RelH K κ (ι ++ [x]) F (upd (upd H dx (.own x)) x (.ins (κ c) dx [])) (M ++ [.obj c [] []]) ∧ (ι ++ [x])[M.length]? = some x := by
  have h1 : RelH K κ ι F (upd H dx (.own x)) M := hh.beside (hh.notin hd) (hh.freeF hd) (.inl hd)
  have e1 : Ext ι F H ι F (upd H dx (.own x)) := Ext.refl.beside hd
  have hx1 : upd H dx (.own x) x = none := by rw [upd_ne (Ne.symm hne)]; exact hx
  obtain ⟨e2, h2, h3⟩ := h1.new (o := .obj c [] []) (ho := .ins (κ c) dx []) hx1 (RepO.obj (ns := []) (vs := []) rfl .nil)
  exact ⟨e1.trans e2, h2, h3⟩
theorem le_mkM {E1 : XK} {g : FD} {ds : List D} {dvs : List V} {ta : TA} {fa : FA} (hd : ∀ ι F, RepL K κ ι F ds dvs) (h : LA K κ (EK.of E1) ta fa) : LE K κ (EK.of E1) (tMake (κ c) (conc K κ g) dvs E1 ta) (fMkM c g ds fa) := fun σ δ H M ι F Q hs hh p => by
  rw [w_Make]
  refine h σ δ H M ι F _ hs hh ((Post.bind (R := RepL K κ) p).mono Ext.refl ?_)
  rintro ws H1 ⟨xs, M1, ι1, F1, e1, hh1, r1, p1⟩
  intro x dx hx hdx hne
  obtain ⟨e2, h2, h3⟩ := new_obj (c := c) hh1 hx hdx hne
  refine ⟨.ref M1.length :: (xs ++ ds), M1 ++ [.obj c [] []], ι1 ++ [x], F1, h2, .cons (.ref h3) ((r1.ext e2).append (hd _ _)), ?_⟩
  revert p1
  generalize g (.ref M1.length :: (xs ++ ds)) (M1 ++ [.obj c [] []]) = r
  intro p1
  cases r with
  | ok d M2 =>
    cases d with
    | non =>
      intro v H' ι' F' e3 hh3 r3
      cases r3
      exact ⟨rfl, p1 _ H' ι' F' (e2.trans e3) hh3 (.ref (pre_get e3.pre h3))⟩
    | _ => exact p1.elim
  | exc cc q M2 => cases q with
    | none => exact fun H' ι' F' e3 h => p1 H' ι' F' (e2.trans e3) h
    | some q => exact fun e H' ι' F' vs ne e3 h => p1 e H' ι' F' vs (e2.dom _ ne) (e2.trans e3) h
  | stuck => exact p1.elim
theorem le_mk {E1 : XK} {g : FD} {ds : List D} {dvs : List V} {ta : TA} {fa : FA} (hd : ∀ ι F, RepL K κ ι F ds dvs) (h : LA K κ (EK.of E1) ta fa) : LE K κ (EK.of E1) (tMake (κ c) (conc K κ g) dvs E1 ta) (fMk c g ds fa) := fun σ δ H M ι F Q hs hh p => by
  rw [w_Make]
  refine h σ δ H M ι F _ hs hh ((Post.bind (R := RepL K κ) p).mono Ext.refl ?_)
  rintro ws H1 ⟨xs, M1, ι1, F1, e1, hh1, r1, p1⟩
  intro x dx hx hdx hne
  obtain ⟨e2, h2, h3⟩ := new_obj (c := c) hh1 hx hdx hne
  refine ⟨.ref M1.length :: (xs ++ ds), M1 ++ [.obj c [] []], ι1 ++ [x], F1, h2, .cons (.ref h3) ((r1.ext e2).append (hd _ _)), ?_⟩
  revert p1
  generalize g (.ref M1.length :: (xs ++ ds)) (M1 ++ [.obj c [] []]) = r
  intro p1
  unfold mkFin at p1
  cases r with
  | ok d M2 =>
    cases d with
    | non =>
      have p2 := fin_post hh1 p1
      intro v H' ι' F' e3 hh3 r3
      cases r3
      exact ⟨rfl, p2 _ H' ι' F' (e2.trans e3) hh3 (.ref (pre_get e3.pre h3))⟩
    | _ => exact p1.elim
  | exc cc q M2 =>
    have p2 := fin_post hh1 p1
    cases q with
    | none => exact fun H' ι' F' e3 h => p2 H' ι' F' (e2.trans e3) h
    | some q => exact fun e H' ι' F' vs ne e3 h => p2 e H' ι' F' vs (e2.dom _ ne) (e2.trans e3) h
  | stuck => exact p1.elim
theorem le_cmeth {E1 : XK} {g : FD} {to : TE} {ta : TA} {fo : FE} {fa : FA} (h : LE K κ (EK.of E1) to fo) (h' : LA K κ (EK.of E1) ta fa) : LE K κ (EK.of E1) (ClX.tCMeth (κ c) (conc K κ g) E1 to ta) (fCMeth c g fo fa) := fun σ δ H M ι F Q hs hh p => by
  refine h σ δ H M ι F _ hs hh ((Post.bind (R := Rep K κ) p).mono Ext.refl ?_)
  rintro v H1 ⟨d, M1, ι1, F1, e1, hh1, r1, p1⟩
  split at p1
  · split at p1
    · rename_i hc
      subst hc
      cases r1
      refine ⟨rfl, ?_⟩
      refine h' σ δ H1 M1 ι1 F1 _ (hs.ext e1) hh1 ((Post.bind (R := RepL K κ) p1).mono Ext.refl ?_)
      rintro ws H2 ⟨ds, M2, ι2, F2, e2, hh2, r2, p2⟩
      exact ⟨_, M2, ι2, F2, hh2, .cons (.cls _) r2, p2⟩
    · exact p1.elim
  · exact p1.elim
/-- what is left over of the arguments is a tuple -/
theorem star_conc {n : Nat} {g : FD} {vs : List V} {H : Hp} {Q : VK} {e : XK} (h : conc K κ (fStar n g) vs H Q e) : ∃ ws rest, vs = ws ++ rest ∧ ws.length = n ∧ rest.length ≤ sizeLine ∧ ∀ p, H p = none → conc K κ g (ws ++ [V.ref p]) (upd H p (.tup rest)) Q e := by
  obtain ⟨ds, M, ι, F, hh, r, p⟩ := h
  unfold fStar at p
  split at p
  · rename_i hn
    have hl := r.len
    refine ⟨vs.take n, vs.drop n, (List.take_append_drop ..).symm, by rw [List.length_take]; omega, by rw [List.length_drop]; omega, fun q hq => ?_⟩
    obtain ⟨e2, h2⟩ := hh.newF hq (.tup (vs.drop n))
    exact ⟨ds.take n ++ [.tuq (ds.drop n)], M, ι, _, h2, ((r.takeN n).ext e2).append (.cons (.tuq (.inl (.inl upd_same)) ((r.drop n).ext e2)) .nil), p.mono e2 fun _ _ x => x⟩
  · exact p.elim
/-- operators with a wish for what is raised -/
def LR2X (K : PySem.W.Frag) (κ : Kap) (e : XK) (r : R2) (g : D → D → AH → Res D) : Prop := ∀ H M ι F x y v w Q, RelH K κ ι F H M → Rep K κ ι F x v → Rep K κ ι F y w → Post K κ (Rep K κ) ι F H (g x y M) Q e → r v w H Q
theorem le_opX {E1 : XK} {r : R2} {g : D → D → AH → Res D} {ta tb : TE} {fa fb : FE} (hr : LR2X K κ E1 r g) (ha : LE K κ (EK.of E1) ta fa) (hb : LE K κ (EK.of E1) tb fb) : LE K κ (EK.of E1) (tOp r ta tb) (fOp g fa fb) := fun σ δ H M ι F Q hs hh p => by
  refine ha σ δ H M ι F _ hs hh ((Post.bind (R := Rep K κ) p).mono Ext.refl ?_)
  rintro v H1 ⟨d, M1, ι1, F1, e1, h1, r1, p1⟩
  refine hb σ δ H1 M1 ι1 F1 _ (hs.ext e1) h1 ((Post.bind (R := Rep K κ) p1).mono Ext.refl ?_)
  rintro w H2 ⟨d2, M2, ι2, F2, e2, h2, r2, p2⟩
  exact hr H2 M2 ι2 F2 d d2 v w Q h2 (r1.ext e2) r2 p2
theorem ownK {g : FD} {e : XK} : LR2X K κ e (rOwn (κ c) (conc K κ g) e) (gOwn c g) := fun H M ι F x y v w Q hh rx ry p => by
  unfold gOwn at p
  split at p
  · rename_i q1 q2 h1 h2
    obtain ⟨ns, xs⟩ := q1
    obtain ⟨ns2, xs2⟩ := q2
    obtain ⟨a, dx, vs, rfl, k1, _, _⟩ := obj_at hh rx h1
    obtain ⟨b, dy, ws, rfl, k2, _, _⟩ := obj_at hh ry h2
    exact ⟨a, b, dx, dy, _, _, rfl, rfl, k1, k2, [x, y], M, ι, F, hh, .cons rx (.cons ry .nil), p⟩
  · exact p.elim
theorem ownIK {g : FD} {e : XK} : LR2X K κ e (rOwnI (κ c) (conc K κ g) e) (gOwnI c g) := fun H M ι F x y v w Q hh rx ry p => by
  unfold gOwnI at p
  split at p
  · rename_i q1 i h1
    obtain ⟨ns, xs⟩ := q1
    obtain ⟨a, dx, vs, rfl, k1, _, _⟩ := obj_at hh rx h1
    cases ry
    exact ⟨a, dx, _, i, rfl, rfl, k1, [x, .int i], M, ι, F, hh, .cons rx (.cons (.int i) .nil), p⟩
  · exact p.elim
theorem ownNeK {g : FD} {e : XK} : LR2X K κ e (rOwnNe (κ c) (conc K κ g) e) (gOwnNe c g) := fun H M ι F x y v w Q hh rx ry p => by
  unfold gOwnNe at p
  split at p
  · rename_i q1 q2 h1 h2
    obtain ⟨ns, xs⟩ := q1
    obtain ⟨ns2, xs2⟩ := q2
    obtain ⟨a, dx, vs, rfl, k1, _, _⟩ := obj_at hh rx h1
    obtain ⟨b, dy, ws, rfl, k2, _, _⟩ := obj_at hh ry h2
    refine ⟨a, b, dx, dy, _, _, rfl, rfl, k1, k2, [x, y], M, ι, F, hh, .cons rx (.cons ry .nil), ?_⟩
    refine (Post.bind (R := Rep K κ) p).mono Ext.refl ?_
    rintro u H1 ⟨d, M1, ι1, F1, e1, hh1, r1, p1⟩
    split at p1
    · cases r1
      exact ⟨_, rfl, p1.here hh1 (.bl _)⟩
    · exact p1.elim
  · exact p.elim
def LRNX (K : PySem.W.Frag) (κ : Kap) (e : XK) (r : List V → Hp → VK → Prop) (g : List D → AH → Res D) : Prop := ∀ H M ι F x v Q, RelH K κ ι F H M → RepL K κ ι F x v → Post K κ (Rep K κ) ι F H (g x M) Q e → r v H Q
theorem le_CBX {E1 : XK} {r : List V → Hp → VK → Prop} {g : List D → AH → Res D} {t : TA} {fa : FA} (hr : LRNX K κ E1 r g) (h : LA K κ (EK.of E1) t fa) : LE K κ (EK.of E1) (tCB r t) (fCB g fa) := fun σ δ H M ι F Q hs hh p => by
  refine h σ δ H M ι F _ hs hh ((Post.bind (R := RepL K κ) p).mono Ext.refl ?_)
  rintro vs H1 ⟨ds, M1, ι1, F1, e1, h1, r1, p1⟩
  exact hr H1 M1 ι1 F1 ds vs Q h1 r1 p1
theorem lenOwnK {g : FD} {e : XK} : LRNX K κ e (rLenOwn (κ c) (conc K κ g) e) (gLenOwn c g) := fun H M ι F xs vs Q hh r p => by
  unfold gLenOwn at p
  split at p
  · split at p
    · rename_i q1 h1
      obtain ⟨ns, ys⟩ := q1
      cases r with
      | cons ra rb =>
        cases rb
        obtain ⟨a, dx, ws, rfl, k1, _, _⟩ := obj_at hh ra h1
        refine ⟨a, dx, _, rfl, k1, [_], M, ι, F, hh, .cons ra .nil, ?_⟩
        refine (Post.bind (R := Rep K κ) p).mono Ext.refl ?_
        rintro u H1 ⟨d, M1, ι1, F1, e1, hh1, r1, p1⟩
        split at p1
        · unfold lenChk at p1
          split at p1
          · rename_i hn
            cases r1
            exact ⟨_, rfl, hn.1, by have := hn.1; have := hn.2; omega, p1.here hh1 (.int _)⟩
          · exact p1.elim
        · exact p1.elim
    · exact p.elim
  · exact p.elim
/-- what isinstance asks of a class of one's own -/
structure IsOk (K : PySem.W.Frag) (C : Addr) : Prop where
  cl : Cls K C
  ha : PySem.W.findIn K (.ref C) "__class__" = some (some (.builtin "object.__class__"))
  hn : PySem.W.specialIn K (.builtin "object.__class__") "__get__" = some (some (.builtin "getset_descriptor.__get__"))
  htk : PySem.W.takesIn K (.builtin "object.__class__") = some true
  hm : PySem.W.mroIn K C (.type "object") = some true
  self : PySem.W.kitOne K (.ref C) (.ref C) = some true
theorem isiXK {cs : List String} (h : ∀ c ∈ cs, IsOk K (κ c)) : LRN K κ (rIsiH K) (gIsiX cs) := fun H M ι F xs vs Q e hh r p => by
  unfold gIsiX at p
  split at p
  · rename_i x c
    split at p
    · rename_i q1 h1
      split at p
      · rename_i hc
        obtain ⟨ns, ys⟩ := q1
        have ok := h c hc
        cases r with
        | cons ra rb => cases rb with
          | cons rb rc =>
            cases rc; cases rb
            obtain ⟨a, dx, ws, rfl, k1, _, _⟩ := obj_at hh ra h1
            exact ⟨_, _, .base (.ins k1 ok.cl ok.ha ok.hn ok.htk ok.hm), ok.self, p.here hh (.bl _)⟩
      · exact p.elim
    · exact p.elim
  · exact isiK H M ι F xs vs Q e hh r p
end
end G
namespace G
open PySem PySem.Spec PyProof.Rows L2
/-! ### methods of built-in types, sorted, min, texts in braces; defs -/
def tyM (T : String) (d : D) (M : AH) : Bool := match d with
  | .str _ => T == "str"
  | .ref i => (match M[i]? with | some (.lst _) => T == "list" | some (.dct _ _) => T == "dict" | _ => false)
  | .lst _ => T == "list"
  | .lsk _ => T == "list"
  | _ => false
def fBM (T : String) (g : D → List D → AH → Res D) (o : FE) (a : FA) : FE := fun δ M => (o δ M).bind fun x M1 => if tyM T x M1 then (a δ M1).bind fun xs M2 => g x xs M2 else .stuck
def fM0 (g : D → List D → AH → Res D) (o : FE) : FE := fun δ M => (o δ M).bind fun x M1 => match x with | .str _ => g x [] M1 | _ => .stuck
def fM1 (g : D → List D → AH → Res D) (o a : FE) : FE := fun δ M => (o δ M).bind fun x M1 => match x with | .str _ => (a δ M1).bind fun y M2 => g x [y] M2 | _ => .stuck
def mAppend : D → List D → AH → Res D := fun x xs M => match x, xs with
  | .ref l, [d] => (match M[l]? with
    | some (.lst ys) => if ys.length < sizeLine then .ok .non (M.set l (.lst (ys ++ [d]))) else .stuck
    | _ => .stuck)
  | _, _ => .stuck
def mExtend : D → List D → AH → Res D := fun x xs M => match x, xs with
  | .ref l, [d] => (match M[l]?, d with
    | some (.lst ys), .lsk _ => .stuck
    | some (.lst ys), d => (match listOf d M with
      | some zs => if ys.length + zs.length ≤ sizeLine then .ok .non (M.set l (.lst (ys ++ zs))) else .stuck
      | none => .stuck)
    | _, _ => .stuck)
  | _, _ => .stuck
def mPop : D → List D → AH → Res D := fun x xs M => match x, xs with
  | .ref l, [] => (match M[l]? with
    | some (.lst ys) => (match ys[ys.length - 1]? with | some d => .ok d (M.set l (.lst ys.dropLast)) | none => .stuck)
    | _ => .stuck)
  | _, _ => .stuck
/-- a question to a text -/
def mAsk (q : Str → Bool) : D → List D → AH → Res D := fun x xs M => match x, xs with
  | .str z, [] => .ok (.bl (q z)) M
  | _, _ => .stuck
def mStarts : D → List D → AH → Res D := fun x xs M => match x, xs with
  | .str z, [.str y] => .ok (.bl (Txt.startswith z y)) M
  | _, _ => .stuck
def mSplit : D → List D → AH → Res D := fun x xs M => match x, xs with
  | .str a, [.str b] => if (b.length == 0) = false ∧ a.length + 2 ≤ sizeLine ∧ (Txt.split a b).length ≤ sizeLine then .ok (.ref M.length) (M ++ [.lst ((Txt.split a b).map .str)]) else .stuck
  | _, _ => .stuck
def strsOf : List D → Option (List Str)
  | [] => some []
  | .str z :: r => (strsOf r).map (z :: ·)
  | _ => none
def mJoin : D → List D → AH → Res D := fun x xs M => match x, xs with
  | .str a, [d] => (match (match tupOf d with | some ys => some ys | none => listOf d M) with
    | some ys => (match strsOf ys with
      | some zs => if (zs.map (·.length)).sum + zs.length * a.length ≤ 16777216 then .ok (.str (Txt.join a zs)) M else .stuck
      | none => .stuck)
    | none => .stuck)
  | _, _ => .stuck
def minL : List Int → Int
  | [] => 0
  | [x] => x
  | x :: r => if x ≤ minL r then x else minL r
def maxL : List Int → Int
  | [] => 0
  | [x] => x
  | x :: r => if maxL r ≤ x then x else maxL r
def gMinL : List D → AH → Res D := fun xs M => match xs with
  | [d] => (match listOf d M with
    | some ys => (match intsOf ys with | some ns => if ns.isEmpty then .stuck else .ok (.int (minL ns)) M | none => .stuck)
    | none => .stuck)
  | _ => .stuck
def gMaxL : List D → AH → Res D := fun xs M => match xs with
  | [d] => (match listOf d M with
    | some ys => (match intsOf ys with | some ns => if ns.isEmpty then .stuck else .ok (.int (maxL ns)) M | none => .stuck)
    | none => .stuck)
  | _ => .stuck
def sortI (ns : List Int) : List Int := ns.mergeSort (fun a b => decide (a ≤ b))
def leS (a b : Str) : Bool := !decide (tl b < tl a)
def sortS (ns : List Str) : List Str := ns.mergeSort leS
def keysI : List Key → Option (List Int)
  | [] => some []
  | .inl i :: r => (keysI r).map (i :: ·)
  | _ => none
def keysS : List Key → Option (List Str)
  | [] => some []
  | .inr i :: r => (keysS r).map (i :: ·)
  | _ => none
/-- sorted(..) of a dict with fewer than 64 keys -/
def gSortD : List D → AH → Res D := fun xs M => match xs with
  | [d] => (match dctOf d M with
    | some (ks, _) => if ks.length < 64 then (match keysS ks with
      | some zs => .ok (.ref M.length) (M ++ [.lst ((sortS zs).map .str)])
      | none => .stuck) else .stuck
    | none => .stuck)
  | _ => .stuck
def gSortDI : List D → AH → Res D := fun xs M => match xs with
  | [d] => (match dctOf d M with
    | some (ks, _) => if ks.length < 64 then (match keysI ks with
      | some zs => .ok (.ref M.length) (M ++ [.lst ((sortI zs).map .int)])
      | none => .stuck) else .stuck
    | none => .stuck)
  | _ => .stuck
def gSortL : List D → AH → Res D := fun xs M => match xs with
  | [d] => (match listOf d M with
    | some ys => (match intsOf ys with
      | some ns => .ok (.ref M.length) (M ++ [.lst ((sortI ns).map .int)])
      | none => .stuck)
    | none => .stuck)
  | _ => .stuck
def fFmt (e : FE) : FE := fun δ M => (e δ M).bind fun x M1 => match x with
  | .str y => if y.length ≤ sizeLine then .ok (.str y) M1 else .stuck
  | .int i => if i.natAbs.log2 < 1920 then .ok (.str (Str.ofString (toString i))) M1 else .stuck
  | _ => .stuck
def fJs : List FE → Str → AS → AH → Res Str
  | [], acc, _, M => .ok acc M
  | e :: es, acc, δ, M => (e δ M).bind fun x M1 => match x with
    | .str y => if (acc ++ y).length ≤ sizeLine then fJs es (acc ++ y) δ M1 else .stuck
    | _ => .stuck
def fJoined (es : List FE) : FE := fun δ M => (fJs es Str.empty δ M).bind fun z M1 => .ok (.str z) M1
section
variable {K : PySem.W.Frag} {κ : Kap} {E : EK} {ι ι' : List Addr} {F F' H H' : Hp} {M M' : AH}
theorem tyM_rep {T : String} {d : D} {v : V} (hh : RelH K κ ι F H M) (r : Rep K κ ι F d v) (h : tyM T d M = true) : tyV K T v H := by
  unfold tyM at h
  split at h
  · cases r; exact beq_iff_eq.mp h
  · split at h
    · rename_i q
      obtain ⟨a, u, rfl, h1, h2, h3⟩ := relH_ref hh r q
      cases h3 with | lst h3 => exact .inl ⟨beq_iff_eq.mp h, _, .inl (.inl h2)⟩
    · rename_i q
      obtain ⟨a, u, rfl, h1, h2, h3⟩ := relH_ref hh r q
      cases h3 with | dct l h3 => exact .inr (.inr (.inl ⟨beq_iff_eq.mp h, .inl ⟨_, h2⟩⟩))
    · cases h
  · obtain ⟨a, vs, rfl, hq, _⟩ := list_at (xs := _) hh r rfl
    exact .inl ⟨beq_iff_eq.mp h, _, hq⟩
  · obtain ⟨a, vs, rfl, hq, _⟩ := list_at (xs := _) hh r rfl
    exact .inl ⟨beq_iff_eq.mp h, _, hq⟩
  · cases h
theorem le_bm {T : String} {r : V → List V → Hp → VK → Prop} {g : D → List D → AH → Res D} {to : TE} {ta : TA} {fo : FE} {fa : FA} (hr : LRM K κ r g) (h : LE K κ E to fo) (h' : LA K κ E ta fa) : LE K κ E (tBM K T r to ta) (fBM T g fo fa) := fun σ δ H M ι F Q hs hh p => by
  refine h σ δ H M ι F _ hs hh ((Post.bind (R := Rep K κ) p).mono Ext.refl ?_)
  rintro v H1 ⟨d, M1, ι1, F1, e1, hh1, r1, p1⟩
  split at p1
  · rename_i ht
    refine ⟨tyM_rep hh1 r1 ht, ?_⟩
    refine h' σ δ H1 M1 ι1 F1 _ (hs.ext e1) hh1 ((Post.bind (R := RepL K κ) p1).mono Ext.refl ?_)
    rintro ws H2 ⟨ds, M2, ι2, F2, e2, hh2, r2, p2⟩
    exact hr H2 M2 ι2 F2 d ds v ws Q _ hh2 (r1.ext e2) r2 p2
  · exact p1.elim
theorem le_m0 {r : V → List V → Hp → VK → Prop} {g : D → List D → AH → Res D} {to : TE} {fo : FE} (hr : LRM K κ r g) (h : LE K κ E to fo) : LE K κ E (tM0 r to) (fM0 g fo) := fun σ δ H M ι F Q hs hh p => by
  refine h σ δ H M ι F _ hs hh ((Post.bind (R := Rep K κ) p).mono Ext.refl ?_)
  rintro v H1 ⟨d, M1, ι1, F1, e1, hh1, r1, p1⟩
  split at p1
  · cases r1
    exact ⟨⟨_, rfl⟩, hr H1 M1 ι1 F1 _ _ _ _ Q _ hh1 (.str _) .nil p1⟩
  · exact p1.elim
theorem le_m1 {r : V → List V → Hp → VK → Prop} {g : D → List D → AH → Res D} {to te : TE} {fo fe : FE} (hr : LRM K κ r g) (h : LE K κ E to fo) (h' : LE K κ E te fe) : LE K κ E (tM1 r to te) (fM1 g fo fe) := fun σ δ H M ι F Q hs hh p => by
  rw [w_M1]
  refine h σ δ H M ι F _ hs hh ((Post.bind (R := Rep K κ) p).mono Ext.refl ?_)
  rintro v H1 ⟨d, M1, ι1, F1, e1, hh1, r1, p1⟩
  split at p1
  · cases r1
    refine ⟨⟨_, rfl⟩, ?_⟩
    refine h' σ δ H1 M1 ι1 F1 _ (hs.ext e1) hh1 ((Post.bind (R := Rep K κ) p1).mono Ext.refl ?_)
    rintro w H2 ⟨d2, M2, ι2, F2, e2, hh2, r2, p2⟩
    exact hr H2 M2 ι2 F2 _ _ _ _ Q _ hh2 (.str _) (.cons r2 .nil) p2
  · exact p1.elim
theorem appendK : LRM K κ rAppend mAppend := fun H M ι F x xs v vs Q e hh rx r p => by
  unfold mAppend at p
  split at p
  · split at p
    · rename_i ys q
      split at p
      · rename_i hl
        obtain ⟨a, u, rfl, h1, h2, h3⟩ := relH_ref hh rx q
        cases r with
        | @cons d w _ _ ra rb =>
          cases rb
          cases h3 with
          | @lst _ ws h3 =>
            obtain ⟨e2, hh2⟩ := hh.put (o := .lst (ys ++ [_])) (ho := .lst (ws ++ [w])) h1 q rfl (.lst (h3.append (.cons ra .nil)))
            exact ⟨a, ws, w, rfl, rfl, h2, by rw [← h3.len]; exact hl, p _ _ _ _ e2 hh2 .non⟩
      · exact p.elim
    · exact p.elim
  · exact p.elim
theorem extendK : LRM K κ rExtend mExtend := fun H M ι F x xs v vs Q e hh rx r p => by
  unfold mExtend at p
  split at p
  · split at p
    · exact p.elim
    · rename_i ys q hk
      split at p
      · rename_i zs hz
        split at p
        · rename_i hl
          obtain ⟨a, u, rfl, h1, h2, h3⟩ := relH_ref hh rx q
          cases r with
          | cons ra rb =>
            cases rb
            cases h3 with
            | @lst _ ws h3 =>
              obtain ⟨b, us, rfl, h4, h5⟩ := listT hh ra hz (fun zs e => hk zs e)
              obtain ⟨e2, hh2⟩ := hh.put (o := .lst (ys ++ zs)) (ho := .lst (ws ++ us)) h1 q rfl (.lst (h3.append h5))
              exact ⟨a, b, ws, us, rfl, rfl, h2, h4, by rw [← h3.len, ← h5.len]; exact hl, p _ _ _ _ e2 hh2 .non⟩
        · exact p.elim
      · exact p.elim
    · exact p.elim
  · exact p.elim
theorem popK : LRM K κ rPop mPop := fun H M ι F x xs v vs Q e hh rx r p => by
  unfold mPop at p
  split at p
  · split at p
    · rename_i ys q
      split at p
      · rename_i d hd
        obtain ⟨a, u, rfl, h1, h2, h3⟩ := relH_ref hh rx q
        cases r
        cases h3 with
        | @lst _ ws h3 =>
          have hl := h3.len
          obtain ⟨w, hw, rw_⟩ := h3.get hd
          have hdl : RepL K κ ι F ys.dropLast ws.dropLast := by
            rw [List.dropLast_eq_take, List.dropLast_eq_take, ← hl]
            exact h3.takeN _
          obtain ⟨e2, hh2⟩ := hh.put (o := .lst ys.dropLast) (ho := .lst ws.dropLast) h1 q rfl (.lst hdl)
          exact ⟨a, ws, w, rfl, rfl, h2, by rw [← hl]; exact hw, p _ _ _ _ e2 hh2 (rw_.ext e2)⟩
      · exact p.elim
    · exact p.elim
  · exact p.elim
theorem askK (q : Str → Bool) : LRM K κ (fun x xs H Q => ∃ a, x = .str a ∧ xs = [] ∧ True ∧ Q (.bl (q a)) H) (mAsk q) := fun H M ι F x xs v vs Q e hh rx r p => by
  unfold mAsk at p
  split at p
  · cases rx; cases r
    exact ⟨_, rfl, rfl, trivial, p.here hh (.bl _)⟩
  · exact p.elim
theorem startsK : LRM K κ (fun x xs H Q => ∃ a b, x = .str a ∧ xs = [.str b] ∧ Q (.bl (Txt.startswith a b)) H) mStarts := fun H M ι F x xs v vs Q e hh rx r p => by
  unfold mStarts at p
  split at p
  · cases rx
    cases r with | cons a b => cases a; cases b; exact ⟨_, _, rfl, rfl, p.here hh (.bl _)⟩
  · exact p.elim
theorem strs_rep' : ∀ ys : List Str, RepL K κ ι F (ys.map D.str) (ys.map V.str)
  | [] => .nil
  | y :: ys => .cons (.str y) (strs_rep' ys)
theorem ints_rep' : ∀ ys : List Int, RepL K κ ι F (ys.map D.int) (ys.map V.int)
  | [] => .nil
  | y :: ys => .cons (.int y) (ints_rep' ys)
theorem splitK : LRM K κ (fun x xs H Q => ∃ a b, x = .str a ∧ xs = [.str b] ∧ (b.length == 0) = false ∧ a.length + 2 ≤ sizeLine ∧ rNewStrs (Txt.split a b) H Q) mSplit := fun H M ι F x xs v vs Q e hh rx r p => by
  unfold mSplit at p
  split at p
  · split at p
    · rename_i hc
      cases rx
      cases r with
      | cons a b =>
        cases a; cases b
        refine ⟨_, _, rfl, rfl, hc.1, hc.2.1, fun q hq => ?_⟩
        obtain ⟨e2, hh2, h5⟩ := hh.new hq (.lst (strs_rep' _))
        exact p _ _ _ _ e2 hh2 (.ref h5)
    · exact p.elim
  · exact p.elim
theorem strs_rep : ∀ {ds : List D} {vs : List V} {ns : List Str}, RepL K κ ι F ds vs → strsOf ds = some ns → vs = ns.map V.str
  | [], _, _, r, h => by cases r; simp only [strsOf] at h; cases h; rfl
  | d :: ds, _, _, r, h => by
    cases r with
    | cons a b =>
      cases a <;> simp only [strsOf] at h <;> first
        | (cases h; done)
        | (obtain ⟨x, hx, rfl⟩ := Option.map_eq_some_iff.mp h; rw [strs_rep b hx]; rfl)
theorem joinK : LRM K κ (fun x xs H Q => ∃ a p, ∃ ys : List Str, x = .str a ∧ xs = [.ref p] ∧ (SqL K H p (ys.map V.str) ∨ SqT K H p (ys.map V.str)) ∧ (ys.map (·.length)).sum + ys.length * a.length ≤ 16777216 ∧ Q (.str (Txt.join a ys)) H) mJoin := fun H M ι F x xs v vs Q e hh rx r p => by
  unfold mJoin at p
  split at p
  · rename_i a d
    split at p
    · rename_i ys hy
      split at p
      · rename_i zs hz
        split at p
        · rename_i hl
          cases rx
          cases r with
          | cons ra rb =>
            cases rb
            split at hy
            · rename_i ws hw
              cases hy
              obtain ⟨q, us, rfl, h1, r1⟩ := tup_at hh ra hw
              have := strs_rep r1 hz
              subst this
              exact ⟨a, q, zs, rfl, rfl, .inr h1, hl, p.here hh (.str _)⟩
            · obtain ⟨q, us, rfl, h1, r1⟩ := list_at hh ra hy
              have := strs_rep r1 hz
              subst this
              exact ⟨a, q, zs, rfl, rfl, .inl h1, hl, p.here hh (.str _)⟩
        · exact p.elim
      · exact p.elim
    · exact p.elim
  · exact p.elim
theorem minL_is : ∀ ns : List Int, ns ≠ [] → minL ns ∈ ns ∧ ∀ y ∈ ns, minL ns ≤ y
  | [], h => absurd rfl h
  | [x], _ => ⟨List.mem_cons_self .., fun y h => by have : y = x := by simpa using h
                                                    rw [this]; exact Int.le_refl _⟩
  | x :: z :: r, _ => by
    obtain ⟨h1, h2⟩ := minL_is (z :: r) (by simp)
    unfold minL
    split
    · rename_i hx
      refine ⟨List.mem_cons_self .., fun y hy => ?_⟩
      rcases List.mem_cons.mp hy with e | hy
      · rw [e]; exact Int.le_refl _
      · exact Int.le_trans hx (h2 y hy)
    · rename_i hx
      refine ⟨List.mem_cons_of_mem _ h1, fun y hy => ?_⟩
      rcases List.mem_cons.mp hy with e | hy
      · rw [e]; omega
      · exact h2 y hy
theorem maxL_is : ∀ ns : List Int, ns ≠ [] → maxL ns ∈ ns ∧ ∀ y ∈ ns, y ≤ maxL ns
  | [], h => absurd rfl h
  | [x], _ => ⟨List.mem_cons_self .., fun y h => by have : y = x := by simpa using h
                                                    rw [this]; exact Int.le_refl _⟩
  | x :: z :: r, _ => by
    obtain ⟨h1, h2⟩ := maxL_is (z :: r) (by simp)
    unfold maxL
    split
    · rename_i hx
      refine ⟨List.mem_cons_self .., fun y hy => ?_⟩
      rcases List.mem_cons.mp hy with e | hy
      · rw [e]; exact Int.le_refl _
      · exact Int.le_trans (h2 y hy) hx
    · rename_i hx
      refine ⟨List.mem_cons_of_mem _ h1, fun y hy => ?_⟩
      rcases List.mem_cons.mp hy with e | hy
      · rw [e]; omega
      · exact h2 y hy
theorem minLK : LRN K κ (rMin K) gMinL := fun H M ι F xs vs Q e hh r p => by
  unfold gMinL at p
  split at p
  · cases r with
    | cons a b =>
      cases b
      split at p
      · rename_i hx
        split at p
        · rename_i ns hn
          split at p
          · exact p.elim
          · rename_i he
            obtain ⟨q, ws, rfl, h1, r1⟩ := list_at hh a hx
            have hne : ns ≠ [] := by simpa using he
            obtain ⟨k1, k2⟩ := minL_is ns hne
            refine ⟨q, ns, rfl, by rw [← ints_rep r1 hn]; exact h1, List.length_pos_iff.mpr hne, fun m hm hle => ?_⟩
            have : m = minL ns := Int.le_antisymm (hle _ k1) (k2 _ hm)
            rw [this]
            exact p.here hh (.int _)
        · exact p.elim
      · exact p.elim
  · exact p.elim
theorem maxLK : LRN K κ (rMax K) gMaxL := fun H M ι F xs vs Q e hh r p => by
  unfold gMaxL at p
  split at p
  · cases r with
    | cons a b =>
      cases b
      split at p
      · rename_i hx
        split at p
        · rename_i ns hn
          split at p
          · exact p.elim
          · rename_i he
            obtain ⟨q, ws, rfl, h1, r1⟩ := list_at hh a hx
            have hne : ns ≠ [] := by simpa using he
            obtain ⟨k1, k2⟩ := maxL_is ns hne
            refine ⟨q, ns, rfl, by rw [← ints_rep r1 hn]; exact h1, List.length_pos_iff.mpr hne, fun m hm hle => ?_⟩
            have : m = maxL ns := Int.le_antisymm (k2 _ hm) (hle _ k1)
            rw [this]
            exact p.here hh (.int _)
        · exact p.elim
      · exact p.elim
  · exact p.elim
theorem sortI_eq {ns ys : List Int} (h : ys.Perm ns) (s : ys.Pairwise (· ≤ ·)) : ys = sortI ns := by
  have h2 : (sortI ns).Perm ns := List.mergeSort_perm ..
  have s2 : (sortI ns).Pairwise (· ≤ ·) := by
    have := List.pairwise_mergeSort (le := fun a b : Int => decide (a ≤ b)) (fun a b c h1 h2 => by simp at *; omega) (fun a b => by simp; omega) ns
    exact this.imp fun h => by simpa using h
  exact List.Perm.eq_of_pairwise (le := (· ≤ ·)) (fun a b _ _ h1 h2 => Int.le_antisymm h1 h2) s s2 (h.trans h2.symm)
theorem ltCps_iff : ∀ a b : List Nat, ltCps a b = decide (a < b)
  | [], [] => by simp [ltCps]
  | [], _ :: _ => by simp [ltCps]
  | _ :: _, [] => by simp [ltCps]
  | a :: r, b :: t => by
    simp only [ltCps, ltCps_iff r t, List.cons_lt_cons_iff]
    by_cases h1 : a < b <;> by_cases h2 : a = b <;> by_cases h3 : r < t <;> simp [h1, h2, h3]
theorem risS_pw : ∀ (p : Str) (l : List Str), risingS p l = true → (p :: l).Pairwise (fun a b => leS a b = true)
  | p, [], _ => by simp
  | p, x :: r, h => by
    simp only [risingS, Bool.and_eq_true] at h
    have ih := risS_pw x r h.2
    have hx : leS p x = true := by
      have h1 := h.1
      rw [ltCps_iff] at h1
      exact h1
    refine List.pairwise_cons.mpr ⟨fun b hb => ?_, ih⟩
    rcases List.mem_cons.mp hb with e | hb
    · rw [e]; exact hx
    · have h2 := (List.pairwise_cons.mp ih).1 b hb
      unfold leS at hx h2 ⊢
      simp only [Bool.not_eq_true', decide_eq_false_iff_not, List.not_lt] at hx h2 ⊢
      exact List.le_trans hx h2
theorem sortS_eq {ns ys : List Str} (h : ys.Perm ns) (s : sortedS ys = true) : ys = sortS ns := by
  have h2 : (sortS ns).Perm ns := List.mergeSort_perm ..
  have s1 : ys.Pairwise (fun a b => leS a b = true) := by
    cases ys with
    | nil => exact .nil
    | cons p l => exact risS_pw p l s
  have s2 : (sortS ns).Pairwise (fun a b => leS a b = true) := List.pairwise_mergeSort (le := leS) (fun a b c h1 h2 => by
    unfold leS at *
    simp only [Bool.not_eq_true', decide_eq_false_iff_not, List.not_lt] at *
    exact List.le_trans h1 h2) (fun a b => by
    unfold leS
    simp only [Bool.or_eq_true, Bool.not_eq_true', decide_eq_false_iff_not, List.not_lt]
    exact List.le_total _ _) ns
  refine List.Perm.eq_of_pairwise (le := fun a b => leS a b = true) (fun a b _ _ h1 h2 => ?_) s1 s2 (h.trans h2.symm)
  unfold leS at h1 h2
  simp only [Bool.not_eq_true', decide_eq_false_iff_not, List.not_lt] at h1 h2
  exact str_eta (List.le_antisymm h1 h2)
theorem keysS_map : ∀ {ks : List Key} {zs : List Str}, keysS ks = some zs → ks = zs.map Sum.inr
  | [], _, h => by simp only [keysS] at h; cases h; rfl
  | .inl i :: r, _, h => by simp [keysS] at h
  | .inr z :: r, _, h => by
    simp only [keysS] at h
    obtain ⟨x, hx, rfl⟩ := Option.map_eq_some_iff.mp h
    rw [keysS_map hx]; rfl
theorem keysI_map : ∀ {ks : List Key} {zs : List Int}, keysI ks = some zs → ks = zs.map Sum.inl
  | [], _, h => by simp only [keysI] at h; cases h; rfl
  | .inr i :: r, _, h => by simp [keysI] at h
  | .inl z :: r, _, h => by
    simp only [keysI] at h
    obtain ⟨x, hx, rfl⟩ := Option.map_eq_some_iff.mp h
    rw [keysI_map hx]; rfl
theorem fst_zip {ks : List Key} {vs : List V} (h : ks.length = vs.length) : (ks.zip vs).map (·.1) = ks := List.map_fst_zip (Nat.le_of_eq h)
theorem sortDK : LRN K κ (fun xs H Q => ∃ (a : Addr) (kvs : List (Key × V)) (ks : List Str), xs = [.ref a] ∧ Rd H a (.dK kvs) ∧ kvs.map (·.1) = ks.map Sum.inr ∧ ks.length < 64 ∧
    ∀ ys p, ys.Perm ks → sortedS ys = true → H p = none → Q (.ref p) (upd H p (.lst (ys.map V.str)))) gSortD := fun H M ι F xs vs Q e hh r p => by
  unfold gSortD at p
  split at p
  · cases r with
    | cons a b =>
      cases b
      split at p
      · rename_i hx
        split at p
        · rename_i hl
          split at p
          · rename_i zs hz
            obtain ⟨q, ws, rfl, h1, h2, h3⟩ := dct_at hh a hx
            refine ⟨q, _, zs, rfl, h1, by rw [fst_zip h2]; exact keysS_map hz, by rw [keysS_map hz, List.length_map] at hl; exact hl, fun ys l hp hs hn => ?_⟩
            rw [sortS_eq hp hs]
            obtain ⟨e2, hh2, h5⟩ := hh.new hn (.lst (strs_rep' _))
            exact p _ _ _ _ e2 hh2 (.ref h5)
          · exact p.elim
        · exact p.elim
      · exact p.elim
  · exact p.elim
theorem sortDIK : LRN K κ (fun xs H Q => ∃ (a : Addr) (kvs : List (Key × V)) (ks : List Int), xs = [.ref a] ∧ Rd H a (.dK kvs) ∧ kvs.map (·.1) = ks.map Sum.inl ∧ ks.length < 64 ∧
    ∀ (ys : List Int) (p : Addr), ys.Perm ks → ys.Pairwise (· ≤ ·) → H p = none → Q (.ref p) (upd H p (.lst (ys.map V.int)))) gSortDI := fun H M ι F xs vs Q e hh r p => by
  unfold gSortDI at p
  split at p
  · cases r with
    | cons a b =>
      cases b
      split at p
      · rename_i hx
        split at p
        · rename_i hl
          split at p
          · rename_i zs hz
            obtain ⟨q, ws, rfl, h1, h2, h3⟩ := dct_at hh a hx
            refine ⟨q, _, zs, rfl, h1, by rw [fst_zip h2]; exact keysI_map hz, by rw [keysI_map hz, List.length_map] at hl; exact hl, fun ys l hp hs hn => ?_⟩
            rw [sortI_eq hp hs]
            obtain ⟨e2, hh2, h5⟩ := hh.new hn (.lst (ints_rep' _))
            exact p _ _ _ _ e2 hh2 (.ref h5)
          · exact p.elim
        · exact p.elim
      · exact p.elim
  · exact p.elim
theorem sortLK : LRN K κ (rSortedI K) gSortL := fun H M ι F xs vs Q e hh r p => by
  unfold gSortL at p
  split at p
  · cases r with
    | cons a b =>
      cases b
      split at p
      · rename_i hx
        split at p
        · rename_i ns hn
          obtain ⟨q, ws, rfl, h1, r1⟩ := list_at hh a hx
          refine ⟨q, ns, rfl, by rw [← ints_rep r1 hn]; exact h1, fun ys l hp hs hnn => ?_⟩
          rw [sortI_eq hp hs]
          obtain ⟨e2, hh2, h5⟩ := hh.new hnn (.lst (ints_rep' _))
          exact p _ _ _ _ e2 hh2 (.ref h5)
        · exact p.elim
      · exact p.elim
  · exact p.elim
theorem le_fmt {t : TE} {f : FE} (h : LE K κ E t f) : LE K κ E (tFmtG t) (fFmt f) := fun σ δ H M ι F Q hs hh p => by
  rw [w_FmtG]
  refine h σ δ H M ι F _ hs hh ((Post.bind (R := Rep K κ) p).mono Ext.refl ?_)
  rintro v H1 ⟨d, M1, ι1, F1, e1, hh1, r1, p1⟩
  split at p1
  · cases r1
    split at p1
    · rename_i hl; exact ⟨hl, p1.here hh1 (.str _)⟩
    · exact p1.elim
  · cases r1
    split at p1
    · rename_i hl; exact ⟨hl, p1.here hh1 (.str _)⟩
    · exact p1.elim
  · exact p1.elim
inductive LJ (K : PySem.W.Frag) (κ : Kap) (E : EK) : List TE → List FE → Prop
  | nil : LJ K κ E [] []
  | cons {t : TE} {f : FE} {ts : List TE} {fs : List FE} : LE K κ E t f → LJ K κ E ts fs → LJ K κ E (t :: ts) (f :: fs)
theorem lj_run {ts : List TE} {fs : List FE} (h : LJ K κ E ts fs) : ∀ (acc : Str) σ δ H M ι F (Q : Str → Hp → Prop), RelS K κ E ι F H δ σ → RelH K κ ι F H M → Post K κ REq ι F H (fJs fs acc δ M) Q (E.E σ) → tJs ts acc σ H Q := by
  induction h with
  | nil => exact fun acc σ δ H M ι F Q hs hh p => p.here hh rfl
  | cons h t ih =>
    intro acc σ δ H M ι F Q hs hh p
    refine h σ δ H M ι F _ hs hh ((Post.bind (R := Rep K κ) p).mono Ext.refl ?_)
    rintro v H1 ⟨d, M1, ι1, F1, e1, hh1, r1, p1⟩
    split at p1
    · split at p1
      · rename_i hl
        cases r1
        exact ⟨_, rfl, hl, ih _ σ δ H1 M1 ι1 F1 Q (hs.ext e1) hh1 p1⟩
      · exact p1.elim
    · exact p1.elim
theorem le_joined {ts : List TE} {fs : List FE} (h : LJ K κ E ts fs) : LE K κ E (fun σ H Q => tJs ts Str.empty σ H fun out H1 => Q (.str out) H1) (fJoined fs) := fun σ δ H M ι F Q hs hh p => by
  refine lj_run h Str.empty σ δ H M ι F _ hs hh ((Post.bind (R := REq) p).mono Ext.refl ?_)
  rintro v H1 ⟨d, M1, ι1, F1, e1, hh1, r1, p1⟩
  cases (show d = v from r1)
  exact p1.here hh1 (.str _)
end
end G
namespace G
open PySem PySem.Spec PyProof.Rows L2
/-! ### defs by their bodies, told of data -/
/-- nothing is let go -/
def fnK (n p : Nat) (fs : AS → AH → SRes) : FD := fun ds M => if ds.length = p then outS (fs (ds.map some ++ List.replicate (n - ds.length) none) M) else .stuck
def gNeg : D → AH → Res D := fun x M => match x with | .int i => .ok (.int (-i)) M | _ => .stuck
def gBool : List D → AH → Res D := fun xs M => match xs with
  | [x] => (truD x M).bind fun b M1 => .ok (.bl b) M1
  | _ => .stuck
def gBoolOwn (c : String) (f : FD) : List D → AH → Res D := fun xs M => match xs with
  | [x] => (match objOf c x M with
    | some _ => (f [x] M).bind fun d M1 => match d with | .bl b => .ok (.bl b) M1 | _ => .stuck
    | none => .stuck)
  | _ => .stuck
/-- a class in a local name is called -/
def fMkV (c : String) (i : Nat) (f : FD) (ds : List D) (a : FA) : FE := fun δ M => match δ[i]? with
  | some (some (.cls c')) => if c' = c then fMk c f ds a δ M else .stuck
  | _ => .stuck
section
variable {P : Program} {w : World} {K : PySem.W.Frag} {mg : Str → Option Value} {base : Heap} {κ : Kap} {E : EK} {ι ι' : List Addr} {F F' H H' : Hp} {M M' : AH}
theorem negK : LR1 K κ (rU fun i => .int (-i)) gNeg := fun H M ι F x v Q e hh r p => by
  unfold gNeg at p
  split at p
  · cases r; exact ⟨_, rfl, p.here hh (.int _)⟩
  · exact p.elim
theorem conc_lenK {N ps : List Str} {fs : AS → AH → SRes} (vs : List V) (H : Hp) (Q : VK) (E : XK) (h : conc K κ (fnK N.length ps.length fs) vs H Q E) : vs.length = ps.length := by
  obtain ⟨ds, M, ι, F, rh, rd, p⟩ := h
  unfold fnK at p
  split at p
  · rename_i hl
    rw [← rd.len, hl]
  · exact p.elim
theorem body_ofK {N ps : List Str} {fs : AS → AH → SRes} {t : TS} {vs : List V} {Q : VK} {E : XK} (L : LS K κ (EK.of E) t fs) (h : conc K κ (fnK N.length ps.length fs) vs H Q E) : t { nx := fun _ H' => Q .non H', rt := Q } (L2.start N vs) H := by
  obtain ⟨ds, M, ι, F, rh, rd, p⟩ := h
  unfold fnK at p
  split at p
  · refine L _ _ H M ι F _ (relS_start rd) rh ?_
    revert p
    generalize fs _ M = r
    intro p
    cases r with
    | nx δ M' => exact fun σ' H' ι' F' e h' _ => p .non H' ι' F' e h' .non
    | rt d M' => exact p
    | exc c q δ M' =>
      cases q with
      | none => exact fun σ' H' ι' F' e h' _ => p H' ι' F' e h'
      | some q => exact fun σ' x H' ι' F' vs nx e h' _ hl rd hx => p x H' ι' F' vs nx e h' hl rd hx
    | bk δ M' => exact p.elim
    | ct δ M' => exact p.elim
    | stuck => exact p.elim
  · exact p.elim
/-- a def's body, lifted -/
def BodyOk (P : Program) (w : World) (K : PySem.W.Frag) (mg : Str → Option Value) (base : Heap) (κ : Kap) (k : Nat) (N : List Str) (qual : Str) (st : Stmt) (f : Addr) (fs : AS → AH → SRes) : Prop :=
  ∀ (cdv : Value) (A : Around) (outer : List Env) (s : Shared) (H : Hp) (E : XK), Room k (A.deeper (envOfC qual (defScope st) s.heap.objs.size f cdv)) →
    ∃ t, PSs (cxOf (L2.CX P w) P w K mg base N qual (defScope st) f cdv A outer s H E) (defBody st) t ∧ LS K κ (EK.of E) t fs
theorem fnD {x qual : Str} {st : Stmt} {f : Addr} {fd : FuncData} {N ps : List Str} {k : Nat} {fs : AS → AH → SRes} (F : Fun K x qual st f fd) (S : FnScope N ps (defScope st)) (b : BodyOk P w K mg base κ k N qual st f fs) :
    FnOk P w K mg base (L2.CX P w) (k + 1) f fd ps (conc K κ (fnF N.length ps.length fs)) :=
  F.okX S conc_len fun cdv A outer s H vs Q E hr h => by
    obtain ⟨t, d, l⟩ := b cdv A outer s H E hr
    exact ⟨t, d, body_of l h⟩
theorem fnDK {x qual : Str} {st : Stmt} {f : Addr} {fd : FuncData} {N ps : List Str} {k : Nat} {fs : AS → AH → SRes} {dvs : List V} {kws : List (Str × V)} (F : FunD K x qual (defArgs st) (defBody st) (defScope st) dvs kws f fd) (S : FnScope N ps (defScope st)) (b : BodyOk P w K mg base κ k N qual st f fs) :
    FnOk P w K mg base (L2.CX P w) (k + 1) f fd ps (conc K κ (fnK N.length ps.length fs)) :=
  F.ok S conc_lenK fun cdv A outer s H vs Q E hr h => by
    obtain ⟨t, d, l⟩ := b cdv A outer s H E hr
    exact ⟨t, d, body_ofK l h⟩
/-! bool(..) -/
theorem bool_run {prog : Program} {x : Value} {A : Around} {E : Value → Shared → Prop} {s : Shared} {Q : Value → Shared → Prop} (h : wpAny (model prog w) A.in1.in1 (truthy x) (fun b s' => Q (.bool b) s') E s) : wpAny (model prog w) A (call (.type "bool") [x]) Q E s := by
  have ft := F.called_bool
  obtain ⟨c, tl, hmro⟩ := ft.mro
  have hmade := ft.made
  have hsub := ft.sub
  have hcn := F.newCall_bool_1 x
  have hct := F.typeCall_bool_1 x
  have hli := ft.init.lookup
  have f1 := F.conv_sub_bool
  refine wpAny_call (codeAny_of_tree ?_)
  show wpAny _ _ (callAny (.type "bool") _) _ _ _
  refine wpAny_pure ⟨Code.quiet_builtin _ (by decide +kernel), codeAny_builtin PySem.F.entry_type_call ?_⟩
  rw [Around.under_plain (weight_type_call_type "bool" [x] []) (units_type_call_type "bool" [x] [])]
  have h1 := ft.notType
  have h2 := ft.canCreate
  repeat (any_goals (first | assumption | wp_step))
  have new : wpAny (model prog w) A.in1.in1 (Builtin.«bool.__new__» ⟨[.type "bool", x], []⟩) (fun fin s' => ∃ b, fin = .done (.ret (.bool b)) ∧ Q (.bool b) s') E s := by
    obtain ⟨hp, g, d, tk, os⟩ := s
    repeat (any_goals (first | assumption | (with_reducible refine wpAny_mono h (fun b s' q => ?_) fun _ _ e => e) | wp_step))
    all_goals first | exact ⟨_, rfl, q⟩ | skip
  refine codeAny_mono (codeAny_call_builtin (R := fun r s' => match r with | .ok (.ret v) => ∃ b, v = Value.bool b ∧ Q v s' | .ok _ => False | .error e => E e s') ft.plain F.entry_bool_new
    (wpAny_of_eq hcn (wpAny_mono new (fun fin s' q => ?_) fun e s' q => q))) fun r s1 hr => ?_
  · obtain ⟨b, rfl, q⟩ := q
    exact ⟨b, rfl, q⟩
  · cases r with
    | error e => exact hr
    | ok fl =>
      cases fl with
      | ret v =>
        obtain ⟨b, rfl, q⟩ := hr
        have hT : s1.TypeIs (Value.bool b) "bool" := rfl
        have hbi := ft.init.bind (Value.bool b)
        repeat (any_goals (first | assumption | wp_step))
        have oi := (object_init_meets (self := Value.bool b) (rest := [x]) ft.init.lookup ft.made F.newNe_bool) prog w A.in1 (fun r s' => match r with | .ok (.ret v) => v = Value.none ∧ Q (.bool b) s' | .ok _ => False | .error e => E e s') s1 ⟨hT, ⟨rfl, q⟩⟩
        refine codeAny_mono (codeAny_call_builtin (R := fun r s' => match r with | .ok (.ret v) => v = Value.none ∧ Q (.bool b) s' | .ok _ => False | .error e => E e s') ft.init.plain PySem.F.entry_object_init
          (ft.init.check _ _ _ _ _ _ _ _ hT (F.args_object_init_2 _ x) oi)) fun r2 s2 hr2 => ?_
        cases r2 with
        | error e => exact hr2
        | ok f2 =>
          cases f2 with
          | ret v =>
            obtain ⟨rfl, q2⟩ := hr2
            repeat (any_goals (first | assumption | wp_step))
          | _ => exact hr2.elim
      | _ => exact hr.elim
theorem inv_in {X : Cx} {pins : List (Addr × Obj)} {σ : L2.St} {H : Hp} {s : Shared} (I : Inv X pins σ H s) : Inv { X with A := X.A.in1.in1 } pins σ H s :=
  ⟨⟨I.ok.mod, I.ok.kind, I.ok.glob, I.ok.blt, I.ok.above, I.ok.inj, I.ok.has, I.ok.cab, I.ok.hd, I.ok.frames, I.ok.stk, I.ok.exf, I.ok.bs, I.ok.bsz, I.ok.noex, I.ok.exfs, I.ok.funs, I.ok.frf⟩,
    I.os, I.bare, I.base, I.loc, I.cell, I.free, I.freeC, I.pin, I.hok, I.len⟩
theorem inv_out {X : Cx} {pins : List (Addr × Obj)} {σ : L2.St} {H : Hp} {s : Shared} (I : Inv { X with A := X.A.in1.in1 } pins σ H s) : Inv X pins σ H s :=
  ⟨⟨I.ok.mod, I.ok.kind, I.ok.glob, I.ok.blt, I.ok.above, I.ok.inj, I.ok.has, I.ok.cab, I.ok.hd, I.ok.frames, I.ok.stk, I.ok.exf, I.ok.bs, I.ok.bsz, I.ok.noex, I.ok.exfs, I.ok.funs, I.ok.frf⟩,
    I.os, I.bare, I.base, I.loc, I.cell, I.free, I.freeC, I.pin, I.hok, I.len⟩
def rBoolG (K : PySem.W.Frag) : List V → Hp → VK → Prop := fun xs H Q => ∃ x, xs = [x] ∧ ∃ k, TruX K x H k ∧ Q (.bl k) H
theorem call_boolG {X : Cx} : CallR X (.type "bool") (rBoolG X.K) := by
  intro pins s σ H xs us Q I r h
  obtain ⟨x, rfl, h⟩ := h
  obtain ⟨u, rfl, rx⟩ := vals1 r
  refine bool_run ?_
  have h2 := h
  refine wpAny_mono (trux_ok (X := { X with A := X.A.in1.in1 }) pins s σ H x u (fun b H' => Q (.bl b) H') (inv_in I) rx h2) (fun b s' q => ?_) fun _ _ e => e
  obtain ⟨H', I', q⟩ := q
  exact ⟨.bl b, H', inv_out I', rfl, q⟩
theorem Room.in2 {k : Nat} {A : Around} (r : Room (k + 1) A) : Room k A.in1.in1 :=
  ⟨r.hd, by have := r.dp; show A.depth + 3 * k + 5 < _; omega, by have := r.un; show A.units + 1 + 1 + 16 * k + 200 < _; omega⟩
/-- bool(o), o of a class with an own truth -/
def rBoolOwn (C : Addr) (sp : Sp) (E : XK) : List V → Hp → VK → Prop := fun vs H Q => ∃ a dx fs, vs = [.ref a] ∧ H a = some (.ins C dx fs) ∧ sp [.ref a] H (fun v H' => ∃ b, v = .bl b ∧ Q (.bl b) H') E
theorem conc_mono {g : FD} {vs : List V} {H : Hp} {Q Q' : VK} {e : XK} (h : conc K κ g vs H Q e) (hq : ∀ v H', Q v H' → Q' v H') : conc K κ g vs H Q' e := by
  obtain ⟨ds, M, ι, F, hh, r, p⟩ := h
  exact ⟨ds, M, ι, F, hh, r, p.mono Ext.refl hq⟩
theorem call_boolOwn {X : Cx} {C : Addr} {k : Nat} {ps : List Str} {g : FD} {E : XK} (M : MetOk X.prog X.w X.K X.mg X.base C "__bool__" k ps (conc X.K κ g)) (hr : Room (k + 1) X.A) (hx : Passes (L2.CX X.prog X.w) X E) : CallR X (.type "bool") (rBoolOwn C (conc X.K κ g) E) := by
  intro pins s σ H xs us Q I r h
  obtain ⟨a, dx, fs, rfl, ha, q⟩ := h
  obtain ⟨u, rfl, ru⟩ := vals1 r
  cases ru
  refine bool_run ?_
  have hx2 : Passes (L2.CX X.prog X.w) { X with A := X.A.in1.in1 } E := fun pins σ H s e s' I c => hx pins σ H s e s' (inv_out I) c
  refine tru_own (X := { X with A := X.A.in1.in1 }) M (Room.in2 hr) hx2 (inv_in I) ha (conc_mono q fun v H' h => ?_)
  obtain ⟨b, rfl, h⟩ := h
  exact ⟨b, rfl, fun s' I' => ⟨.bl b, H', inv_out I', rfl, h⟩⟩
theorem boolK : LRN K κ (rBoolG K) gBool := fun H M ι F xs vs Q e hh r p => by
  unfold gBool at p
  split at p
  · rename_i x
    cases r with
    | cons a b =>
      cases b
      refine ⟨_, rfl, truD_at (Q := fun b H' => Q (.bl b) H') (e := e) hh a ?_⟩
      refine (Post.bind (R := REq) p).mono Ext.refl ?_
      rintro b H1 ⟨d, M1, ι1, F1, e1, h1, r1, p1⟩
      cases (show d = b from r1)
      exact p1.here h1 (.bl _)
  · exact p.elim
theorem boolOwnK {c : String} {g : FD} {e : XK} : LRNX K κ e (rBoolOwn (κ c) (conc K κ g) e) (gBoolOwn c g) := fun H M ι F xs vs Q hh r p => by
  unfold gBoolOwn at p
  split at p
  · split at p
    · rename_i q1 h1
      obtain ⟨ns, ys⟩ := q1
      cases r with
      | cons ra rb =>
        cases rb
        obtain ⟨a, dx, ws, rfl, k1, _, _⟩ := obj_at hh ra h1
        refine ⟨a, dx, _, rfl, k1, [_], M, ι, F, hh, .cons ra .nil, ?_⟩
        refine (Post.bind (R := Rep K κ) p).mono Ext.refl ?_
        rintro u H1 ⟨d, M1, ι1, F1, e1, hh1, r1, p1⟩
        split at p1
        · cases r1
          exact ⟨_, rfl, p1.here hh1 (.bl _)⟩
        · exact p1.elim
    · exact p.elim
  · exact p.elim
/-! a class in a local name, called -/
def tMakeV (i : Nat) (C : Addr) (sp : Sp) (dvs : List V) (E : XK) (t : TA) : TE := fun σ H Q => σ[i]? = some (some (.ref C)) ∧ tMake C sp dvs E t σ H Q
theorem pe_mkV {X : Cx} {i k : Nat} {C : Addr} {ps : List Str} {sp : Sp} {E : XK} {x y : Str} {p pos : Pos} {e : Expr} {es : List Expr} {t : TA} {ds : List Value} {dvs : List V} (M : MkOk X.prog X.w X.K X.mg X.base y C k ps ds dvs sp) (hr : Room (k + 1) X.A) (hx : Passes (L2.CX X.prog X.w) X E)
    (hN : X.N[i]? = some x) (hv : Vis X.env.scope x) (ha : PA X (e :: es) t) (hd : (x == ("__debug__" : Str)) = false := by decide) (hcd : (x == ("__classdict__" : Str)) = false := by decide)
    (he : starEach (e :: es) X.env = (false, eval e X.env) :: starEach es X.env := by rfl) (hpl : (backTo pos (starEach es X.env)).any (·.1) = false := by rfl) :
    PE X (.Call (.Name x p) (e :: es) [] pos) (tMakeV i C sp dvs E t) := by
  obtain ⟨f, fd, hm, mk, hb, hdv, F⟩ := M.ex
  refine ⟨fun pins s σ H Q I h => ?_⟩
  obtain ⟨h1, h2⟩ := h
  refine wpAny_Call_Name_kw (thn ((pe_var (pos := p) hN hv hd hcd).run pins s σ H (fun v H1 => v = .ref C ∧ H1 = H) I ⟨.ref C, h1, rfl, rfl⟩) fun u s1 ⟨v, H1, I1, r1, q1⟩ => ?_)
  obtain ⟨rfl, rfl⟩ := q1
  cases r1
  exact PySem.W.callWith_K (h₀ := X.base) I.ok.mod.kin mk.kp (thn (ha.run pos pins s1 σ _ _ I1 h2) fun us s2 ⟨vs, H2, I2, r, q⟩ => ⟨I2.kIn, run_make mk F hr hb hdv hx I2 r q⟩) he hpl
theorem le_mkV {c : String} {i : Nat} {E1 : XK} {g : FD} {ds : List D} {dvs : List V} {ta : TA} {fa : FA} (hd : ∀ ι F, RepL K κ ι F ds dvs) (h : LA K κ (EK.of E1) ta fa) : LE K κ (EK.of E1) (tMakeV i (κ c) (conc K κ g) dvs E1 ta) (fMkV c i g ds fa) := fun σ δ H M ι F Q hs hh p => by
  unfold fMkV at p
  split at p
  · rename_i c' hc
    split at p
    · rename_i e
      subst e
      obtain ⟨v, h1, h2⟩ := hs.pl i _ hc
      cases h2
      exact ⟨h1, le_mk hd h σ δ H M ι F Q hs hh p⟩
    · exact p.elim
  · exact p.elim
/-! a def with what is left over -/
theorem fnStar {x qual : Str} {st : Stmt} {f : Addr} {N ps : List Str} {k : Nat} {pv : Str} {fs : AS → AH → SRes} {oc kV doc pm cdv ct : Value} {od an : Option Addr} {osl : Array (Option Value)}
    (lk : K.lookup f = some ⟨oc, od, .func (PySem.W.fnOf x qual (defArgs st) (defBody st) (defScope st) .none kV doc pm an cdv ct), osl⟩) (hcd : PySem.W.codeIn K cdv qual = true) (S : FnScope N (ps ++ [pv]) (defScope st))
    (hb : ∀ us rest : List Value, us.length = ps.length → bindArgs (PySem.W.fnOf x qual (defArgs st) (defBody st) (defScope st) .none kV doc pm an cdv ct) ⟨us ++ rest, []⟩ = (newTuple rest >>= fun t => pure (ps.zip us ++ [(pv, t)])))
    (b : BodyOk P w K mg base κ k N qual st f fs) : FnR P w K mg base (L2.CX P w) (k + 1) f (conc K κ (fStar ps.length (fnF N.length (ps ++ [pv]).length fs))) := by
  have h := StX.fn_star (sp := conc K κ (fnF N.length (ps ++ [pv]).length fs)) (N := N) (ps := ps) (mg := mg) (base := base) (P := P) (w := w) (k := k) (CX := L2.CX P w) lk hcd S StX.cxUp hb fun A outer s H vs Q E hr h => by
    obtain ⟨t, d, l⟩ := b cdv A outer s H E hr
    exact ⟨t, d, body_of l h⟩
  intro A outer s H us vs Q E hr e0 r hsp
  exact h A outer s H us vs Q E hr e0 r (star_conc hsp)
end
end G
namespace G
open PySem PySem.Spec PyProof.Rows L2
def tNotX (K : PySem.W.Frag) (ta : TE) : TE := fun σ H Q => ta σ H fun x H1 => ∃ k, TruX K x H1 k ∧ Q (.bl (!k)) H1
section
variable {X : Cx} (K : PySem.W.Frag)
theorem call_isiN (h : X.K = K := by rfl) : CallR X (.builtin "isinstance") (rIsiH K) := by subst h; exact call_isiH
theorem call_tupleN (h : X.K = K := by rfl) : CallR X (.type "tuple") (rTupleG K) := by subst h; exact call_tupleG
theorem call_listN (h : X.K = K := by rfl) : CallR X (.type "list") (rListG K) := by subst h; exact call_listG
theorem call_dictN (hc : X.calm = true) (h : X.K = K := by rfl) : CallR X (.type "dict") (rDictG K) := by subst h; exact call_dictG hc
theorem call_boolN (h : X.K = K := by rfl) : CallR X (.type "bool") (rBoolG K) := by subst h; exact call_boolG
theorem cr_sumN (hc : X.calm = true) (h : X.K = K := by rfl) : CallR X (.builtin "sum") (rSum K) := by subst h; exact cr_sum hc
theorem cr_allN (hc : X.calm = true) (h : X.K = K := by rfl) : CallR X (.builtin "all") (rAll K) := by subst h; exact cr_all hc
theorem cr_anyN (hc : X.calm = true) (h : X.K = K := by rfl) : CallR X (.builtin "any") (rAny K) := by subst h; exact cr_any hc
theorem cr_minN (hc : X.calm = true) (h : X.K = K := by rfl) : CallR X (.builtin "min") (rMin K) := by subst h; exact cr_min hc
theorem cr_maxN (hc : X.calm = true) (h : X.K = K := by rfl) : CallR X (.builtin "max") (rMax K) := by subst h; exact cr_max hc
theorem cr_sortedN (h : X.K = K := by rfl) : CallR X (.builtin "sorted") (rSortedI K) := by subst h; exact cr_sortedI
theorem pe_notW {a : Expr} {ta : TE} {pos : Pos} (ha : PE X a ta) (h : X.K = K := by rfl) : PE X (.UnaryOp .Not a pos) (tNotX K ta) := by
  subst h
  refine ⟨fun pins s σ H Q I h => ?_⟩
  refine UnaryOp_ (thn (ha.run pins s σ H _ I h) fun v s1 ⟨x, H1, I1, r1, q1⟩ => ?_)
  obtain ⟨k, e, q1⟩ := q1
  exact not_of (thn (trux_ok pins s1 σ H1 x v (fun c H2 => Q (.bl (!c)) H2) I1 r1 ⟨k, e, q1⟩) fun c s2 ⟨H2, I2, q2⟩ => ⟨.bl (!c), H2, I2, rfl, q2⟩)
end
theorem units1 {k : Nat} {A : Around} (r : Room k A) : A.units + 1 < cLine := by have := r.un; omega
/-- not x, as a value -/
def fNotW (e : FE) : FE := fun δ M => (e δ M).bind fun x M1 => (truD x M1).bind fun b M2 => .ok (.bl (!b)) M2
structure ClmOk (P : Program) (w : World) (K : PySem.W.Frag) (mg : Str → Option Value) (base : Heap) (C : Addr) (nm : Str) (k : Nat) (sp : Sp) : Prop where
  ex : ∃ (mc : Value) (p g : Addr), ClX.CRead K C mc ∧ ClX.CMet K C mc nm p g ∧ FnR P w K mg base (L2.CX P w) k g sp
section
variable {X : Cx} {C : Addr} {k : Nat} {ps : List Str} {sp : Sp} {E : XK} {x m : Str} {p apos pos : Pos} {o e : Expr} {es : List Expr} {to : TE} {t : TA}
theorem pe_cc0 (M : CallOk X.prog X.w X.K X.mg X.base x k ps sp) (hx : Passes (L2.CX X.prog X.w) X E) (hr : Room k X.A) (hg : Gl X x := by rfl) (hdb : (x == ("__debug__" : Str)) = false := by decide) : PE X (.Call (.Name x p) [] [] pos) (tCall sp [] E tNil) := by
  obtain ⟨f, fd, hm, hk, hb, F⟩ := M.ex
  exact pe_call0 F hr hg hm hk hb .nil hx hdb
theorem pe_cmC {pl : Sem Bool} (M : ClmOk X.prog X.w X.K X.mg X.base C m k sp) (hr : Room k X.A) (hx : Passes (L2.CX X.prog X.w) X E) (ho : PE X o to) (ha : PA X (e :: es) t)
    (hst : starEach (e :: es) X.env = (false, eval e X.env) :: starEach es X.env := by rfl) (hpl : (backTo pos (starEach es X.env)).any (·.1) = false := by rfl)
    (ht : eval (.Call (.Attribute o m apos) (e :: es) [] pos) X.env = (do
      let ov ← eval o X.env
      standAt apos.atName
      let (f, first) ← holding [ov] (getMethod ov m pl)
      callWith pos f first (backTo pos (starEach (e :: es) X.env)) (backToKw pos (keywordEach [] X.env))) := by rfl) :
    PE X (.Call (.Attribute o m apos) (e :: es) [] pos) (ClX.tCMeth C sp E to t) := by
  obtain ⟨mc, p, g, h1, h2, F⟩ := M.ex
  exact ClX.pe_cmeth (pl := pl) ho h1 h2 F hr hx ha hst hpl ht
theorem pe_cmC0 {pl : Sem Bool} (M : ClmOk X.prog X.w X.K X.mg X.base C m k sp) (hr : Room k X.A) (hx : Passes (L2.CX X.prog X.w) X E) (ho : PE X o to)
    (ht : eval (.Call (.Attribute o m apos) [] [] pos) X.env = (do
      let ov ← eval o X.env
      standAt apos.atName
      let (f, first) ← holding [ov] (getMethod ov m pl)
      callWith pos f first (backTo pos (starEach [] X.env)) (backToKw pos (keywordEach [] X.env))) := by rfl) :
    PE X (.Call (.Attribute o m apos) [] [] pos) (ClX.tCMeth C sp E to tNil) := by
  obtain ⟨mc, pc, g, h1, h2, F⟩ := M.ex
  refine ⟨fun pins s σ H Q I h => ?_⟩
  refine PySem.W.methodCall_KW (pl := pl) (thn (ho.run pins s σ H _ I h) fun u s1 ⟨x, H1, I1, rx, ex, q⟩ => ?_) ht
  subst ex
  obtain rfl : u = Value.ref C := rx
  refine ClX.getmethcm_ok I1 h1 h2 fun s2 I2 => ?_
  exact PySem.W.callWith_M0 (K := X.K) (first := []) ⟨ClX.pin_at I2, I2.kIn⟩ h2.fi (ClX.run_cm (us := []) (vs := []) F hr hx I2 .nil q)
/-- e.f, a property that raises nothing -/
theorem pe_propN (c : Cls X.K C) (M : PropOk X.prog X.w X.K X.mg X.base C m k ps sp) (hr : Room (k + 1) X.A) (he : PE X o to) (hab : attributeBase o m X.env (eval o X.env) = eval o X.env := by rfl) :
    PE X (.Attribute o m pos) (tProp C sp [] E0 to) := pe_propC c M hr passL he hab
end
def fPropN (c : String) (f : FD) (o : FE) : FE := fun δ M => (o δ M).bind fun x M1 => match objOf c x M1 with
  | some _ => (match f [x] M1 with | .ok d M2 => .ok d M2 | _ => .stuck)
  | none => .stuck
section
variable {K : PySem.W.Frag} {κ : Kap} {E : EK} {ι ι' : List Addr} {F F' H H' : Hp} {M M' : AH} {c : String}
theorem le_notW {t : TE} {f : FE} (h : LE K κ E t f) : LE K κ E (tNotX K t) (fNotW f) := fun σ δ H M ι F Q hs hh p => by
  refine h σ δ H M ι F _ hs hh ((Post.bind (R := Rep K κ) p).mono Ext.refl ?_)
  rintro v H1 ⟨d, M1, ι1, F1, e1, hh1, r1, p1⟩
  obtain ⟨k, h1, d2, M2, ι2, F2, e2, h2, r2, p2⟩ := truD_at hh1 r1 (Post.bind (R := REq) p1)
  cases (show d2 = k from r2)
  exact ⟨k, h1, p2.here h2 (.bl _)⟩
theorem le_propN {g : FD} {to : TE} {fo : FE} (h : LE K κ E to fo) : LE K κ E (tProp (κ c) (conc K κ g) [] E0 to) (fPropN c g fo) := fun σ δ H M ι F Q hs hh p => by
  rw [w_Prop]
  refine h σ δ H M ι F _ hs hh ((Post.bind (R := Rep K κ) p).mono Ext.refl ?_)
  rintro v H1 ⟨d, M1, ι1, F1, e1, hh1, r1, p1⟩
  split at p1
  · rename_i q ho
    obtain ⟨ns, xs⟩ := q
    obtain ⟨a, dx, vs, rfl, h1, h2, h3⟩ := obj_at hh1 r1 ho
    refine ⟨a, dx, _, rfl, h1, [d], M1, ι1, F1, hh1, .cons r1 .nil, ?_⟩
    split at p1
    · rename_i e
      rw [e]
      exact p1
    · exact p1.elim
  · exact p1.elim
end
end G
namespace G
open PySem PySem.Spec PyProof.Rows L2
section
variable {P : Program} {w : World} {K : PySem.W.Frag} {mg : Str → Option Value} {base : Heap} {κ : Kap}
theorem fnD2 {x qual : Str} {st : Stmt} {f : Addr} {fd : FuncData} {N ps : List Str} {k : Nat} {fs : AS → AH → SRes} (F : Fun K x qual st f fd) (S : FnScope N ps (defScope st)) (b : BodyOk P w K mg base κ k N qual st f fs) :
    FnOk P w K mg base (L2.CX P w) (k + 1) f fd ps (conc K κ (fnK N.length ps.length fs)) :=
  F.okX S conc_lenK fun cdv A outer s H vs Q E hr h => by
    obtain ⟨t, d, l⟩ := b cdv A outer s H E hr
    exact ⟨t, d, body_ofK l h⟩
end
end G
namespace G
open PySem L2
/-! ### reckoning with the functions on data -/
theorem okOld_app (M xs : AH) : okOld M (M ++ xs) = true := by
  unfold okOld
  rw [List.all_eq_true]
  intro i hi
  have hi := List.mem_range.mp hi
  rw [List.getElem?_append_left hi, List.getElem?_eq_getElem hi]
  simp [AO.beq_refl]
theorem okOld_refl (M : AH) : okOld M M = true := by
  have := okOld_app M []
  rwa [List.append_nil] at this
theorem okOld_set {M : AH} {i : Nat} {o : AO} (hi : i < M.length) (h : AO.clo M.length o = true) : okOld M (M.set i o) = true := by
  unfold okOld
  rw [List.all_eq_true]
  intro j hj
  have hj := List.mem_range.mp hj
  rw [List.getElem?_eq_getElem hj]
  by_cases e : i = j
  · subst e
    rw [List.getElem?_set_self hi]
    simp [h]
  · rw [List.getElem?_set_ne e, List.getElem?_eq_getElem hj]
    simp [AO.beq_refl]
theorem frz_clo {M : AH} {n k : Nat} {d : D} (h : D.clo n d = true) : frz M n k d = some d := by
  unfold frz
  rw [if_pos h]
theorem frzL_clo {M : AH} {n k : Nat} : ∀ {ds : List D}, D.cloL n ds = true → frzL M n k ds = some ds
  | [], _ => by simp [frzL]
  | d :: ds, h => by
    simp only [D.cloL, Bool.and_eq_true] at h
    simp [frzL, frz_clo h.1, frzL_clo h.2]
theorem fin_same {M : AH} {d : D} (h : D.clo M.length d = true) : fin M (.ok d M) = .ok d M := by
  simp only [fin, okOld_refl, if_true, frz_clo h, List.take_length]
theorem fin_app {M xs : AH} {d : D} (h : D.clo M.length d = true) : fin M (.ok d (M ++ xs)) = .ok d M := by
  simp only [fin, okOld_app, if_true, frz_clo h, List.take_left]
theorem fin_set {M : AH} {d : D} {i : Nat} {o : AO} (hi : i < M.length) (ho : AO.clo M.length o = true) (h : D.clo M.length d = true) : fin M (.ok d (M.set i o)) = .ok d (M.set i o) := by
  have e : (M.set i o).take M.length = M.set i o := List.take_of_length_le (by simp)
  simp only [fin, okOld_set hi ho, if_true, frz_clo h, e]
/-- a new list is the answer -/
theorem fin_lst {M : AH} {xs : List D} (h : D.cloL M.length xs = true) : fin M (.ok (.ref M.length) (M ++ [.lst xs])) = .ok (.lst xs) M := by
  have : frz (M ++ [.lst xs]) M.length frzN (.ref M.length) = some (.lst xs) := by
    unfold frzN frz
    rw [if_neg (by simp [D.clo])]
    simp [frzL_clo h]
  simp only [fin, okOld_app, if_true, this, List.take_left]
@[simp] theorem clo_bl {n : Nat} {b : Bool} : D.clo n (.bl b) = true := by simp [D.clo]
@[simp] theorem clo_int {n : Nat} {b : Int} : D.clo n (.int b) = true := by simp [D.clo]
@[simp] theorem clo_str {n : Nat} {b : Str} : D.clo n (.str b) = true := by simp [D.clo]
@[simp] theorem clo_non {n : Nat} : D.clo n .non = true := by simp [D.clo]
@[simp] theorem clo_tup {n : Nat} {xs : List D} : D.clo n (.tup xs) = D.cloL n xs := by simp [D.clo]
@[simp] theorem clo_tuq {n : Nat} {xs : List D} : D.clo n (.tuq xs) = D.cloL n xs := by simp [D.clo]
@[simp] theorem clo_lst {n : Nat} {xs : List D} : D.clo n (.lst xs) = D.cloL n xs := by simp [D.clo]
@[simp] theorem clo_obj {n : Nat} {c : String} {ns : List String} {xs : List D} : D.clo n (.obj c ns xs) = D.cloL n xs := by simp [D.clo]
@[simp] theorem clo_dct {n : Nat} {ks : List Key} {xs : List D} : D.clo n (.dct ks xs) = D.cloL n xs := by simp [D.clo]
@[simp] theorem cloL_nil {n : Nat} : D.cloL n [] = true := by simp [D.cloL]
@[simp] theorem cloL_cons {n : Nat} {d : D} {ds : List D} : D.cloL n (d :: ds) = (D.clo n d && D.cloL n ds) := by simp [D.cloL]
theorem cloL_all {n : Nat} : ∀ {ds : List D}, (∀ d ∈ ds, D.clo n d = true) → D.cloL n ds = true
  | [], _ => by simp
  | d :: ds, h => by
    simp only [cloL_cons, Bool.and_eq_true]
    exact ⟨h d (List.mem_cons_self ..), cloL_all fun e he => h e (List.mem_cons_of_mem _ he)⟩
theorem bind_ok {α β : Type} {a : α} {M : AH} {k : α → AH → Res β} : (Res.ok a M).bind k = k a M := rfl
theorem thenS_ok {α : Type} {a : α} {M : AH} {δ : AS} {k : α → AH → SRes} : (Res.ok a M).thenS δ k = k a M := rfl
theorem asB_bl {b : Bool} {M : AH} : asB (.bl b) M = .ok b M := rfl
theorem truD_bl {b : Bool} {M : AH} : truD (.bl b) M = .ok b M := rfl
theorem truD_tup {xs : List D} {M : AH} : truD (.tup xs) M = .ok (!xs.isEmpty) M := rfl
theorem j_ii {i : Int} {M : AH} : gIsi [.int i, .ty "int"] M = .ok (.bl true) M := rfl
theorem j_ib {i : Int} {M : AH} : gIsi [.int i, .ty "bool"] M = .ok (.bl false) M := rfl
theorem j_ss {i : Str} {M : AH} : gIsi [.str i, .ty "str"] M = .ok (.bl true) M := rfl
theorem j_tt {i : List D} {M : AH} : gIsi [.tup i, .ty "tuple"] M = .ok (.bl true) M := rfl
/-- a comprehension that changes nothing -/
theorem lc_fm {chk : AH → Bool} {g : FG} {t : FT} {e : FE} {δ : AS} {M : AH} (y : D → Option D) (hc : chk M = true) : ∀ (xs acc : List D), acc.length + xs.length ≤ sizeLine →
    (∀ d ∈ xs, ∃ δ1, g d δ M = .nx δ1 M ∧ (match y d with | some v => t δ1 M = .ok true M ∧ e δ1 M = .ok v M | none => t δ1 M = .ok false M)) → fLcL chk g t e δ xs acc M = .ok (acc ++ xs.filterMap y) M
  | [], acc, _, _ => by simp [fLcL, hc]
  | d :: ds, acc, hl, h => by
    obtain ⟨δ1, h1, h2⟩ := h d (List.mem_cons_self ..)
    have hl' : acc.length < sizeLine := by simp only [List.length_cons] at hl; omega
    simp only [fLcL, hc, if_true, h1]
    cases hy : y d with
    | none =>
      rw [hy] at h2
      simp only at h2
      simp only [h2]
      rw [lc_fm y hc ds acc (by simp only [List.length_cons] at hl; omega) fun d hd => h d (List.mem_cons_of_mem _ hd), List.filterMap_cons, hy]
    | some v =>
      rw [hy] at h2
      simp only at h2
      simp only [h2.1, h2.2, hl', if_true]
      rw [lc_fm y hc ds (acc ++ [v]) (by simp only [List.length_cons, List.length_append, List.length_nil] at hl ⊢; omega) fun d hd => h d (List.mem_cons_of_mem _ hd), List.filterMap_cons, hy, List.append_assoc]
      rfl
theorem lc_map {chk : AH → Bool} {g : FG} {t : FT} {e : FE} {δ : AS} {M : AH} (y : D → D) (hc : chk M = true) (xs : List D) (hl : xs.length ≤ sizeLine)
    (h : ∀ d ∈ xs, ∃ δ1, g d δ M = .nx δ1 M ∧ t δ1 M = .ok true M ∧ e δ1 M = .ok (y d) M) : fLcL chk g t e δ xs [] M = .ok (xs.map y) M := by
  rw [lc_fm (fun d => some (y d)) hc xs [] (by simpa using hl) fun d hd => h d hd]
  have : List.filterMap (fun d => some (y d)) xs = xs.map y := by
    induction xs with
    | nil => rfl
    | cons a r ih => simp
  rw [this]
  rfl
/-- a loop, by what holds ahead of the rest -/
theorem for_ex {α : Type} {chk : AH → Bool} {g : FG} {b : FS} (f : α → D) (I : List α → AS → AH → Prop) (hc : ∀ r δ M, I r δ M → chk M = true)
    (hs : ∀ a r δ M, I (a :: r) δ M → ∃ δ1 M1 δ2 M2, g (f a) δ M = .nx δ1 M1 ∧ (b δ1 M1 = .nx δ2 M2 ∨ b δ1 M1 = .ct δ2 M2) ∧ I r δ2 M2) :
    ∀ (xs : List α) (δ : AS) (M : AH), I xs δ M → ∃ δ' M', fForL chk g b (xs.map f) δ M = .nx δ' M' ∧ I [] δ' M'
  | [], δ, M, h => ⟨δ, M, by simp [fForL, hc _ _ _ h], h⟩
  | a :: r, δ, M, h => by
    obtain ⟨δ1, M1, δ2, M2, h1, h2, h3⟩ := hs a r δ M h
    obtain ⟨δ', M', h4, h5⟩ := for_ex f I hc hs r δ2 M2 h3
    refine ⟨δ', M', ?_, h5⟩
    simp only [List.map_cons, fForL, hc _ _ _ h, if_true, h1, thenG]
    rcases h2 with h2 | h2
    · rw [h2]; exact h4
    · rw [h2]; exact h4
/-- .. which may be left by a return -/
theorem for_rt {α : Type} {chk : AH → Bool} {g : FG} {b : FS} (f : α → D) (I : List α → AS → AH → Prop) (R : D → AH → Prop) (hc : ∀ r δ M, I r δ M → chk M = true)
    (hs : ∀ a r δ M, I (a :: r) δ M → ∃ δ1 M1, g (f a) δ M = .nx δ1 M1 ∧ ((∃ δ2 M2, (b δ1 M1 = .nx δ2 M2 ∨ b δ1 M1 = .ct δ2 M2) ∧ I r δ2 M2) ∨ ∃ d M2, b δ1 M1 = .rt d M2 ∧ R d M2)) :
    ∀ (xs : List α) (δ : AS) (M : AH), I xs δ M → (∃ δ' M', fForL chk g b (xs.map f) δ M = .nx δ' M' ∧ I [] δ' M') ∨ ∃ d M', fForL chk g b (xs.map f) δ M = .rt d M' ∧ R d M'
  | [], δ, M, h => .inl ⟨δ, M, by simp [fForL, hc _ _ _ h], h⟩
  | a :: r, δ, M, h => by
    obtain ⟨δ1, M1, h1, h2⟩ := hs a r δ M h
    simp only [List.map_cons, fForL, hc _ _ _ h, if_true, h1, thenG]
    rcases h2 with ⟨δ2, M2, h2, h3⟩ | ⟨d, M2, h2, h3⟩
    · have := for_rt f I R hc hs r δ2 M2 h3
      rcases h2 with h2 | h2
      · rw [h2]; exact this
      · rw [h2]; exact this
    · rw [h2]
      exact .inr ⟨d, M2, rfl, h3⟩
theorem size600 {n : Nat} (h : n ≤ 600) : n ≤ sizeLine := Nat.le_trans h (by decide)
end G
namespace G
open PySem PySem.Spec PyProof.Rows L2
/-! ### try with any clauses: names, tuples of names, as or not -/
structure Hd where
  cs : List Value
  nm : Option Nat
  ts : Addr → Value → Option Addr → TS
def Hd.out (h : Hd) (D : Ends) : Ends := match h.nm with
  | none => D
  | some i => { nx := fun σ' H' => D.nx (σ'.set i none) H', rt := D.rt, bk := fun σ' H' => D.bk (σ'.set i none) H', ct := fun σ' H' => D.ct (σ'.set i none) H' }
def Hd.inn (h : Hd) (a : Addr) (σ : L2.St) : L2.St := match h.nm with
  | none => σ
  | some i => σ.set i (some (.ref a))
def wTry (K : PySem.W.Frag) (Wout : WX) (D : Ends) : List Hd → WX
  | [] => Wout
  | h :: r => fun cls d σ H => ∃ b, PySem.W.exmAny K cls h.cs = some b ∧ (b = true → ∀ a, H a = none → h.ts a cls d (h.out D) (h.inn a σ) H) ∧ (b = false → wTry K Wout D r cls d σ H)
inductive TestOk (X : Cx) : Expr → List Value → Prop
  | one {x : Str} {c : Value} {p : Pos} : Names X x c → TestOk X (.Name x p) [c]
  | two {x y : Str} {c e : Value} {p q tp : Pos} {kk : Nat} : Names X x c → Names X y e → TestOk X (.Tuple [.Name x p, .Name y q] kk tp) [c, e]
inductive HdsG (X : Cx) : List ExceptHandler → List Hd → Prop
  | nil : HdsG X [] []
  | no {t : Expr} {cs : List Value} {ts : Addr → Value → Option Addr → TS} {b₀ : Stmt} {suite : List Stmt} {pos' : Pos} {hds : List ExceptHandler} {l : List Hd} (ht : TestOk X t cs)
      (hsu : ∀ (a : Addr) (oe : Obj) (cls : Value) (d : Option Addr) (pn : List (Addr × Obj)), Zc cls d oe → (∃ vs, oe.data = .fields vs) → PSs (X.suite a ((a, oe) :: pn)) (b₀ :: suite) (ts a cls d)) (r : HdsG X hds l) :
      HdsG X (.ExceptHandler (some t) none (b₀ :: suite) pos' :: hds) (⟨cs, none, ts⟩ :: l)
  | as_ {t : Expr} {cs : List Value} {ts : Addr → Value → Option Addr → TS} {b₀ : Stmt} {suite : List Stmt} {pos' : Pos} {hds : List ExceptHandler} {l : List Hd} {n : Str} {i : Nat} (ht : TestOk X t cs) (hi : X.N[i]? = some n) (hln : X.env.kindOf n = some .local)
      (hsu : ∀ (a : Addr) (oe : Obj) (cls : Value) (d : Option Addr) (pn : List (Addr × Obj)), Zc cls d oe → (∃ vs, oe.data = .fields vs) → PSs (X.suite a ((a, oe) :: pn)) (b₀ :: suite) (ts a cls d)) (r : HdsG X hds l) :
      HdsG X (.ExceptHandler (some t) (some n) (b₀ :: suite) pos' :: hds) (⟨cs, some i, ts⟩ :: l)
theorem flying_push {base h : Heap} {l : List Env} {e : Addr} {Z : Obj → Prop} (f : HandSPX.FlyingZ base l e Z h) (o : Obj) : HandSPX.FlyingZ base l e Z (h.push o) := by
  obtain ⟨f1, f2, f3, oe, vs, T, oT, ts, h1, h2, g3, g4, h5, h6, h7, h8, h9⟩ := f
  have k : ∀ b u, h.get? b = some u → (h.push o).get? b = some u := fun b u q => Heap.get?_push_of_some _ q
  exact ⟨fun b u q => k b u (f1 b u q), f2, f3.of_keeps fun b u q _ => ⟨u, k b u q, rfl⟩, oe, vs, T, oT, ts, k _ _ h1, h2, g3, g4, h5, h6, k _ _ h7, h8, h9⟩
section
variable {X : Cx} {body : List Stmt} {h₀ : ExceptHandler} {hds : List ExceptHandler} {l : List Hd} {pos : Pos} {tb : WX → TS} {Wout : WX}
theorem test_ok {t : Expr} {cs : List Value} (ht : TestOk X t cs) {B : Heap} {a : Addr} {cls : Value} {d : Option Addr} {σ : L2.St} {H : Hp} {s : Shared} {pn : List (Addr × Obj)} {b : Bool} {E : Value → Shared → Prop} {Q : Bool → Shared → Prop} (hb : PySem.W.exmAny X.K cls cs = some b)
    (S : Inv (X.suite a pn) [] σ H s) (fl : HandSPX.FlyingZ B (X.env :: X.outer) a (Zc cls d) s.heap) (q : ∀ h', HandSPX.FlyingZ B (X.env :: X.outer) a (Zc cls d) h' → s.heap.UpToSlots h' → Q b { s with heap := h' }) :
    wpAny (model X.prog X.w) (X.A.mark (some (.ref a))) (eval t X.env) (fun c s1 => wpAny (model X.prog X.w) (X.A.mark (some (.ref a))) (excMatches (.ref a) c) Q E s1) E s := by
  have test : ∀ {x : Str} {c : Value} {np : Pos} {Q : Value → Shared → Prop} {E : Value → Shared → Prop}, Names X x c → Q c s → wpAny (model X.prog X.w) (X.A.mark (some (.ref a))) (eval (.Name x np) X.env) Q E s := fun {x c np Q E} hc q => by
    obtain ⟨hg, hdbg, hm | ⟨hm, hv, hnn⟩⟩ := hc
    · exact ld_glob (X := X.suite a pn) S hg hm q hdbg
    · exact ld_blt (X := X.suite a pn) S hg hm hv q hnn hdbg
  obtain ⟨oe, vs, hE, hZ, hD⟩ : ∃ oe vs, s.heap.get? a = some oe ∧ Zc cls d oe ∧ oe.data = .fields vs := by
    obtain ⟨_, _, _, oe, vs, _, _, _, h1, h2, g3, _⟩ := fl
    exact ⟨oe, vs, h1, h2, g3⟩
  have LT : PySem.W.Looks (model X.prog X.w) s.heap (typeOf (.ref a)) cls := fun A Q E s k q => wpAny_typeOf_ref (k _ _ hE) (by rw [hZ.1]; exact q)
  cases ht with
  | @one x c p hc =>
    have h1 : ∃ b1, PySem.W.exmOne X.K cls c = some b1 ∧ b = b1 := by
      obtain ⟨b1, d1, e1, e2, e3⟩ := PySem.W.exmAny_cons hb
      cases (show some false = some d1 from e2)
      exact ⟨b1, e1, by rw [e3, Bool.or_false]⟩
    obtain ⟨b1, h1, rfl⟩ := h1
    refine test hc ((PySem.W.exm_one (M := model X.prog X.w) S.kIn LT h1).here ?_)
    exact q s.heap fl (Heap.UpToSlots.refl _)
  | @two x y c e p q2 tp kk hc he2 =>
    refine wpAny_Tuple ?_
    refine wpAny_items_cons (test hc ?_)
    refine wpAny_items_cons (test he2 ?_)
    refine wpAny_items_nil ⟨by size_fits, ?_⟩
    have kp : ∀ q o, s.heap.get? q = some o → (s.heap.push { cls := .type "tuple", data := .seq [c, e].toArray }).get? q = some o := fun _ _ z => Heap.get?_push_of_some _ z
    refine (PySem.W.exm_tup2 (S.kIn.keeps kp) (LT.keeps kp) (Heap.get?_push_size s.heap rfl) hb).here ?_
    exact q _ (flying_push fl _) (Heap.UpToSlots.of_keeps kp)
theorem ps_tryG (hs : X.stack = X.env :: X.outer) (hf : X.env.frame = some X.env.locals) (hN : X.N.Nodup) (tk : Takes X Wout)
    (hb : ∀ (W : WX) (pn : List (Addr × Obj)) (xe : Value → Shared → Prop), Takes (X.tr pn xe) W → PassesOwn (model X.prog X.w) X.A X.env xe → PSs (X.tr pn xe) body (tb W))
    (hh : HdsG X (h₀ :: hds) l) : PS X (.Try body (h₀ :: hds) [] [] pos) (fun D σ H => tb (wTry X.K Wout D l) D σ H) := by
  refine ⟨fun pins s σ H D I h => ?_⟩
  have ok := I.ok
  have hfr : X.A.frames = some (X.env :: X.outer) := by rw [ok.frames, hs]
  refine wpAny_Try_except ?_
  refine wpAny_mono ((hb (wTry X.K Wout D l) (X.pn ++ pins) (fun e s₁ => wpAny (model X.prog X.w) X.A (noteFrame e X.env) (fun _ s₂ => wpAny (model X.prog X.w) X.A (setFlight e none) (fun _ s₃ =>
    wpAny (model X.prog X.w) X.A (handleBy e X.env (h₀ :: hds)) (SP X pins D) X.xe s₃) X.xe s₂) X.xe s₁) (fun u s' flight => ?_) PassesOwn.looking).run [] s σ H D (I.toTry _) h) (fun f s1 fin6 => ?_) (fun e s1 hE => hE)
  · -- the catch
    obtain ⟨a, B, sI, pinsE, σ', H', cls, d, rfl, J', nobase, up, flew, na, os, ag, w⟩ := flight
    have J : Inv X pins σ' H' sI := J'.ofTry ok
    have sky' : Sky B (X.env :: X.outer) a (Zc cls d) X.env.locals s'.heap := by rw [← hs]; exact flew
    show wpAny (model X.prog X.w) X.A (noteFrame (.ref a) X.env) _ _ _
    refine Sky.land Zc.steady hfr hf sky' fun g3 fly3 upg => ?_
    have offStack : ∀ {h : Heap} {o : Obj} {vs : Array Value}, h.FunFrames B (X.env :: X.outer) → h.get? a = some o → o.data = .fields vs → a ∉ frs (X.env :: X.outer) := fun {h o vs} ff e dd hm => by
      obtain ⟨_, o', e', hnf⟩ := ff.mem hm
      rw [e] at e'; cases e'
      exact hnf _ dd
    -- at each heap on the ground
    have at_ : ∀ {h : Heap}, HandSPX.FlyingZ B (X.env :: X.outer) a (Zc cls d) h → sI.heap.UpToSlots h → ∃ oe, Zc cls d oe ∧ (∃ vs, oe.data = .fields vs) ∧ Inv (X.suite a ((a, oe) :: (X.pn ++ pins))) [] σ' H' { s' with heap := h } := fun {h} fl u => by
      have Jg : Inv X pins σ' H' { s' with heap := h } := J.landed nobase fl.1 u os ag
      obtain ⟨_, _, ff, oe, vs, _, _, _, h1, h2, hD, _⟩ := fl
      have offS := offStack ff h1 hD
      have offL : a ≠ X.env.locals := fun z => offS (List.mem_filterMap.mpr ⟨X.env, List.mem_cons_self, by rw [hf, z]⟩)
      have offF : a ∉ X.fs := fun hm => by
        obtain ⟨e, hE, q⟩ := List.mem_filterMap.mp hm
        exact offS (List.mem_filterMap.mpr ⟨e, List.mem_cons_of_mem _ hE, q⟩)
      exact ⟨oe, h2, ⟨vs, hD⟩, Jg.suite h1 hD na offL offF⟩
    have go : ∀ {hds' : List ExceptHandler} {l' : List Hd}, HdsG X hds' l' → ∀ (h : Heap), HandSPX.FlyingZ B (X.env :: X.outer) a (Zc cls d) h → sI.heap.UpToSlots h → wTry X.K Wout D l' cls d σ' H' →
        wpAny (model X.prog X.w) X.A (handleBy (.ref a) X.env hds') (SP X pins D) X.xe { s' with heap := h } := by
      intro hds' l' hk
      induction hk with
      | nil =>
        intro h fl u w
        refine wpAny_handleBy_nil ?_
        obtain ⟨k1, k2, k3, oe, vs, T, oT, ts', hE, hZ, hD, h1, hr⟩ := id fl
        unfold PySem.passOn
        refine wpAny_bind (wpAny_field hE hD h1 ?_)
        rw [if_neg (show ¬ ((Value.ref T == Value.none) = true) from by simp)]
        have goesOn : wpAny (model X.prog X.w) X.A (setFlight (.ref a) X.env.frame) (fun _ s4 => wpAny (model X.prog X.w) X.A (throw (.ref a) : Sem Flow) (SP X pins D) X.xe s4) X.xe { s' with heap := h } := by
          rw [hf]
          refine HandSPX.setFlight_upZ fl fun g4 fly5 uph => wpAny_throw (tk _ _ ?_)
          exact ⟨a, B, sI, pins, σ', H', cls, d, rfl, J, nobase, u.trans uph, .inr (.inr (by rw [hs]; exact fly5)), na, os, ag, w⟩
        first
          | exact wpAny_bind (wpAny_pure (wpAny_bind goesOn))
          | exact wpAny_bind goesOn
      | @no t cs ts b₀ suite pos' hds2 l2 ht hsu r ih =>
        intro h fl u w
        obtain ⟨b, hit, yes, no⟩ := w
        obtain ⟨oe, _, _, Sg⟩ := at_ fl u
        refine wpAny_handleBy_cons (codeAny_handlers_test ?_) (by intro q; cases q)
        refine test_ok ht hit Sg fl fun h' fl' up' => ?_
        have u' := u.trans up'
        cases b with
        | true =>
          refine codeAny_handlers_suite ?_
          refine HandSPX.lands_againZ fl' fun g4 fly4 uph => ?_
          obtain ⟨oh, zh, dh, Sh⟩ := at_ fly4 (u'.trans uph)
          refine wpAny_mono ((hsu a oh cls d (X.pn ++ pins) zh dh).run [] _ _ H' _ Sh (yes rfl a na)) (fun f tJ fin6 => ?_) (fun _ _ z => False.elim z)
          cases f with
          | next =>
            obtain ⟨σj, Hj, Sj, wj⟩ := fin6
            exact ⟨_, _, Sj.unsuite ok, wj⟩
          | brk =>
            obtain ⟨σj, Hj, Sj, wj⟩ := fin6
            exact ⟨_, _, Sj.unsuite ok, wj⟩
          | cont =>
            obtain ⟨σj, Hj, Sj, wj⟩ := fin6
            exact ⟨_, _, Sj.unsuite ok, wj⟩
          | ret u =>
            obtain ⟨vj, σj, Hj, Sj, rj, wj⟩ := fin6
            exact ⟨_, _, _, Sj.unsuite ok, rj, wj⟩
        | false =>
          show wpAny _ X.A (handleBy (.ref a) X.env hds2) _ _ _
          exact ih h' fl' u' (no rfl)
      | @as_ t cs ts b₀ suite pos' hds2 l2 n i ht hi hln hsu r ih =>
        intro h fl u w
        obtain ⟨b, hit, yes, no⟩ := w
        obtain ⟨oe, _, _, Sg⟩ := at_ fl u
        refine wpAny_handleBy_cons (codeAny_handlers_test ?_) (by intro q; cases q)
        refine test_ok ht hit Sg fl fun h' fl' up' => ?_
        have u' := u.trans up'
        cases b with
        | true =>
          refine codeAny_handlers_suite_as ?_
          refine HandSPX.lands_againZ fl' fun g4 fly4 uph => ?_
          obtain ⟨oh, zh, dh, Sh⟩ := at_ fly4 (u'.trans uph)
          refine store_ok (X := X.suite a ((a, oh) :: (X.pn ++ pins))) (v := .ref a) Sh hN hi (.inl hln) rfl (fun tI Si => ?_) (.inr hln)
          refine wpAny_mono ((hsu a oh cls d (X.pn ++ pins) zh dh).run [] tI _ H' _ Si (yes rfl a na)) (fun f tJ fin6 => ?_) (fun _ _ z => False.elim z)
          have left_ : ∀ {σj : L2.St} {Hj : Hp} {Q : Shared → Prop}, Inv (X.suite a ((a, oh) :: (X.pn ++ pins))) [] σj Hj tJ → (∀ tK, Inv X pins (σj.set i none) Hj tK → Q tK) →
              wpAny (model X.prog X.w) X.A (do bindName X.env n .none; unbindBehindTheSuite X.env n pos') (fun _ tK => Q tK) X.xe tJ := fun {σj Hj Q} Sj hq => gone_ok (Sj.unsuite ok) hN hi hln hq
          cases f with
          | next =>
            obtain ⟨σj, Hj, Sj, wj⟩ := fin6
            exact left_ Sj fun tK Jk => ⟨_, _, Jk, wj⟩
          | brk =>
            obtain ⟨σj, Hj, Sj, wj⟩ := fin6
            exact left_ Sj fun tK Jk => ⟨_, _, Jk, wj⟩
          | cont =>
            obtain ⟨σj, Hj, Sj, wj⟩ := fin6
            exact left_ Sj fun tK Jk => ⟨_, _, Jk, wj⟩
          | ret u =>
            obtain ⟨vj, σj, Hj, Sj, rj, wj⟩ := fin6
            exact left_ Sj fun tK Jk => ⟨_, _, _, Jk, rj, wj⟩
        | false =>
          show wpAny _ X.A (handleBy (.ref a) X.env hds2) _ _ _
          exact ih h' fl' u' (no rfl)
    exact go hh g3 fly3 (up.trans upg) w
  · cases f with
    | next =>
      obtain ⟨σ', H', J', q⟩ := fin6
      exact wpAny_execs_nil ⟨σ', H', J'.ofTry ok, q⟩
    | brk =>
      obtain ⟨σ', H', J', q⟩ := fin6
      exact ⟨σ', H', J'.ofTry ok, q⟩
    | cont =>
      obtain ⟨σ', H', J', q⟩ := fin6
      exact ⟨σ', H', J'.ofTry ok, q⟩
    | ret u =>
      obtain ⟨v, σ', H', J', r, q⟩ := fin6
      exact ⟨v, σ', H', J'.ofTry ok, r, q⟩
end
end G
namespace G
open PySem PySem.Spec PyProof.Rows L2
/-! ### try, told of data -/
abbrev Pay := Option (List String × List D)
structure HF where
  tk : String → Option Bool
  nm : Option Nat
  fs : String → Pay → FS
def clr (i : Nat) : SRes → SRes
  | .nx δ M => .nx (δ.set i none) M
  | .bk δ M => .bk (δ.set i none) M
  | .ct δ M => .ct (δ.set i none) M
  | .rt d M => .rt d M
  | _ => .stuck
def noExc : SRes → SRes
  | .exc _ _ _ _ => .stuck
  | r => r
def runHd : List HF → String → Pay → AS → AH → SRes
  | [], c, p, δ, M => .exc c p δ M
  | h :: r, c, p, δ, M => match h.tk c with
    | some true => (match h.nm with
      | none => noExc (h.fs c p δ M)
      | some i => if i < δ.length then clr i (h.fs c p (δ.set i none) M) else .stuck)
    | some false => runHd r c p δ M
    | none => .stuck
def fTry (b : FS) (l : List HF) : FS := fun δ M => match b δ M with
  | .exc c p δ' M' => runHd l c p δ' M'
  | r => r
/-- a field of the exception in hand, of the class c0 -/
def fXf (c0 f c : String) (p : Pay) : FE := fun _ M => if c = c0 then (match p with
  | some (ns, ds) => (match look f ns ds with | some d => .ok d M | none => .stuck)
  | none => .stuck) else .stuck
/-- an error without fields is raised -/
def fRaiseN (c : String) : FS := fun δ M => .exc c none δ M
section
variable (K : PySem.W.Frag) (κ : Kap)
def PX (ι : List Addr) (F H : Hp) (d : Option Addr) : Pay → Prop
  | none => True
  | some (ns, ds) => ∃ dd vs, d = some dd ∧ ns.length = vs.length ∧ RepL K κ ι F ds vs ∧ H dd = some (.xd ((ns.map Str.ofString).zip vs)) ∧ dd ∉ ι
end
section
variable {K : PySem.W.Frag} {κ : Kap} {ι ι' : List Addr} {F F' H H' : Hp} {M M' : AH}
/-- what is neither ours to change nor to lock stays -/
theorem Ext.stays (e : Ext ι F H ι' F' H') {a : Addr} {o : HO} (h : H a = some o) (n : a ∉ ι) (l : ¬ Lk o) (t : ∀ ps, o ≠ .tbl ps) : H' a = some o ∧ a ∉ ι' :=
  ⟨(e.frame a o h (.inl n) t).elim id fun q => (l q.1).elim, fun z => (e.nι a z).elim n fun q => q.no h t⟩
theorem PX.mono {d : Option Addr} {p : Pay} (e : Ext ι F H ι' F' H') (h : PX K κ ι F H d p) : PX K κ ι' F' H' d p := by
  cases p with
  | none => trivial
  | some p =>
    obtain ⟨dd, vs, q, hl, r, hH, hn⟩ := h
    obtain ⟨h1, h2⟩ := e.stays hH hn (fun z => z) (fun _ z => by cases z)
    exact ⟨dd, vs, q, hl, r.ext e, h1, h2⟩
/-- what else is known of the names -/
structure Ch where
  χ : List Addr → L2.St → Hp → Hp → Prop
  mono : ∀ ι ι' σ F F' H H', Ext ι F H ι' F' H' → χ ι σ F H → χ ι' σ F' H'
def Ch.t : Ch := ⟨fun _ _ _ _ => True, fun _ _ _ _ _ _ _ _ _ => trivial⟩
def Ch.FreeAt (c : Ch) (j : Nat) : Prop := ∀ ι σ F H v, c.χ ι σ F H → c.χ ι (σ.set j v) F H
theorem Ch.t_free {j : Nat} : Ch.t.FreeAt j := fun _ _ _ _ _ _ => trivial
def EK.c (E : L2.St → XK) (c : Ch) : EK := ⟨E, c.χ, c.mono⟩
/-- within a suite: the exception a stands in the slot, its dict is known -/
def EK.xc (K : PySem.W.Frag) (κ : Kap) (c0 : Ch) (nm : Option Nat) (a : Addr) (cls : Value) (d : Option Addr) (c : String) (p : Pay) : EK :=
  ⟨fun _ _ _ _ => False, fun ι σ F H => c0.χ ι σ F H ∧ (∀ i, nm = some i → σ[i]? = some (some (.ref a))) ∧ cls = .ref (κ c) ∧ PX K κ ι F H d p, fun ι ι' σ F F' H H' e h => ⟨c0.mono _ _ _ _ _ _ _ e h.1, h.2.1, h.2.2.1, h.2.2.2.mono e⟩⟩
def EK.wx (W : WX) (c0 : Ch) : EK := EK.c (fun σ cls d H => W cls d σ H) c0
def EK.FreeAt (E : EK) (j : Nat) : Prop := ∀ ι σ F H v, E.χ ι σ F H → E.χ ι (σ.set j v) F H
theorem RelS.setAt {E : EK} {δ : AS} {σ : L2.St} (h : RelS K κ E ι F H δ σ) {i : Nat} (hf : E.FreeAt i) {d : D} {v : V} (r : Rep K κ ι F d v) : RelS K κ E ι F H (δ.set i (some d)) (σ.set i (some v)) := by
  have h0 : RelS K κ (EK.of fun _ _ _ => False) ι F H δ σ := ⟨h.len, h.pl, trivial⟩
  have h1 := h0.set free_of r i
  exact ⟨h1.len, h1.pl, hf _ _ _ _ _ h.chi⟩
theorem lg_nameAt {E : EK} {i : Nat} (hE : E.FreeAt i) : LG K κ E (gName i) (fgName i) := fun v d σ δ H M ι F T hs hh r p => p _ _ _ _ Ext.refl hh (hs.setAt hE r)
theorem xc_free {nm : Option Nat} {a : Addr} {cls : Value} {d : Option Addr} {c : String} {p : Pay} {j : Nat} {c0 : Ch} (h0 : c0.FreeAt j) (h : nm ≠ some j) : (EK.xc K κ c0 nm a cls d c p).FreeAt j := fun ι σ F H v x => ⟨h0 _ _ _ _ _ x.1, fun i hi => by
  rw [List.getElem?_set_ne (fun z => h (by rw [hi, z]))]; exact x.2.1 i hi, x.2.2⟩
theorem le_xf {c0x : Ch} {a : Addr} {cls : Value} {d : Option Addr} {c0 f c : String} {p : Pay} {i : Nat} {te : TE} (ht : te = tVar i) : LE K κ (EK.xc K κ c0x (some i) a cls d c p) (tXf a cls d (κ c0) (Str.ofString f) te) (fXf c0 f c p) := fun σ δ H M ι F Q hs hh q => by
  subst ht
  obtain ⟨_, h1, h2, h3⟩ := hs.chi
  unfold fXf at q
  split at q
  · rename_i hc
    subst hc
    refine ⟨_, h1 i rfl, rfl, h2, ?_⟩
    split at q
    · rename_i ns ds
      obtain ⟨dd, vs, e, hl, r, hF, _⟩ := h3
      split at q
      · rename_i x hx
        obtain ⟨v, hv, rv⟩ := look_rep r hx
        exact ⟨dd, _, v, e, hF, hv, q.here hh rv⟩
      · exact q.elim
    · exact q.elim
  · exact q.elim
/-- a clause's suite, lifted -/
structure HdLift (K : PySem.W.Frag) (κ : Kap) (c0 : Ch) (h : Hd) (f : HF) : Prop where
  nm : h.nm = f.nm
  tk : ∀ c b, f.tk c = some b → PySem.W.exmAny K (.ref (κ c)) h.cs = some b
  fr : ∀ i, h.nm = some i → c0.FreeAt i
  su : ∀ a cls d c p, LS K κ (EK.xc K κ c0 h.nm a cls d c p) (h.ts a cls d) (f.fs c p)
inductive HdsLift (K : PySem.W.Frag) (κ : Kap) (c0 : Ch) : List Hd → List HF → Prop
  | nil : HdsLift K κ c0 [] []
  | cons {h : Hd} {f : HF} {hs : List Hd} {fs : List HF} : HdLift K κ c0 h f → HdsLift K κ c0 hs fs → HdsLift K κ c0 (h :: hs) (f :: fs)
theorem clr_post {r : SRes} {T : Ends} {E : XK} {c0 : Ch} {h : Hd} {i : Nat} {a : Addr} {cls : Value} {d : Option Addr} {c : String} {p : Pay} (hi : h.nm = some i) (fr : c0.FreeAt i) (q : SPost K κ ι F H (clr i r) T (EK.c (fun _ => E) c0)) : SPost K κ ι F H r (h.out T) (EK.xc K κ c0 h.nm a cls d c p) := by
  have rel : ∀ {ι : List Addr} {F H : Hp} {δ : AS} {σ : L2.St}, RelS K κ (EK.xc K κ c0 h.nm a cls d c p) ι F H δ σ → RelS K κ (EK.c (fun _ => E) c0) ι F H (δ.set i none) (σ.set i none) := fun {ι F H δ σ} s => by
    refine ⟨by simp [s.len], fun j x z => ?_, fr _ _ _ _ _ s.chi.1⟩
    by_cases hj : i = j
    · subst hj
      rw [List.getElem?_set_self'] at z
      cases q : δ[i]? with
      | none => rw [q] at z; cases z
      | some _ => rw [q] at z; cases z
    · rw [List.getElem?_set_ne hj] at z ⊢
      exact s.pl j x z
  have ho : h.out T = { nx := fun σ' H' => T.nx (σ'.set i none) H', rt := T.rt, bk := fun σ' H' => T.bk (σ'.set i none) H', ct := fun σ' H' => T.ct (σ'.set i none) H' } := by
    unfold Hd.out
    rw [hi]
  rw [ho]
  cases r with
  | nx δ M1 => exact fun σ' H' ι' F' e h s => q _ H' ι' F' e h (rel s)
  | bk δ M1 => exact fun σ' H' ι' F' e h s => q _ H' ι' F' e h (rel s)
  | ct δ M1 => exact fun σ' H' ι' F' e h s => q _ H' ι' F' e h (rel s)
  | rt x M1 => exact fun v H' ι' F' e h s => q v H' ι' F' e h s
  | exc c q2 δ M1 => exact q.elim
  | stuck => exact q.elim
theorem noExc_post {r : SRes} {T : Ends} {E : XK} {c0 : Ch} {h : Hd} {a : Addr} {cls : Value} {d : Option Addr} {c : String} {p : Pay} (hi : h.nm = none) (q : SPost K κ ι F H (noExc r) T (EK.c (fun _ => E) c0)) : SPost K κ ι F H r (h.out T) (EK.xc K κ c0 h.nm a cls d c p) := by
  have rel : ∀ {ι : List Addr} {F H : Hp} {δ : AS} {σ : L2.St}, RelS K κ (EK.xc K κ c0 h.nm a cls d c p) ι F H δ σ → RelS K κ (EK.c (fun _ => E) c0) ι F H δ σ := fun s => ⟨s.len, s.pl, s.chi.1⟩
  have ho : h.out T = T := by
    unfold Hd.out
    rw [hi]
  rw [ho]
  cases r with
  | nx δ M1 => exact fun σ' H' ι' F' e h s => q _ H' ι' F' e h (rel s)
  | bk δ M1 => exact fun σ' H' ι' F' e h s => q _ H' ι' F' e h (rel s)
  | ct δ M1 => exact fun σ' H' ι' F' e h s => q _ H' ι' F' e h (rel s)
  | rt x M1 => exact fun v H' ι' F' e h s => q v H' ι' F' e h s
  | exc c q2 δ M1 => exact q.elim
  | stuck => exact q.elim
theorem ls_tryC {E1 : XK} {c0 : Ch} {tb : WX → TS} {fb : FS} {l : List Hd} {lf : List HF} (hb : ∀ W : WX, LS K κ (EK.wx W c0) (tb W) fb) (hl : HdsLift K κ c0 l lf) :
    LS K κ (EK.c (fun _ => E1) c0) (fun D σ H => tb (wTry K (fun cls d _ H => E1 cls d H) D l) D σ H) (fTry fb lf) := fun σ δ H M ι F T hs hh p => by
  refine hb _ σ δ H M ι F T ⟨hs.len, hs.pl, hs.chi⟩ hh ?_
  unfold fTry at p
  have wk : ∀ {W : WX} {ι : List Addr} {F H : Hp} {δ : AS} {σ : L2.St}, RelS K κ (EK.wx W c0) ι F H δ σ → RelS K κ (EK.c (fun _ => E1) c0) ι F H δ σ := fun s => ⟨s.len, s.pl, s.chi⟩
  -- an exception with its payload
  have main : ∀ {l : List Hd} {lf : List HF}, HdsLift K κ c0 l lf → ∀ {c : String} {q : Pay} {δ' : AS} {M' : AH} {σ' : L2.St} {H' : Hp} {ι' : List Addr} {F' : Hp} (dd : Option Addr), Ext ι F H ι' F' H' → RelS K κ (EK.c (fun _ => E1) c0) ι' F' H' δ' σ' → RelH K κ ι' F' H' M' →
      PX K κ ι' F' H' dd q → SPost K κ ι F H (runHd lf c q δ' M') T (EK.c (fun _ => E1) c0) → (SPost K κ ι F H (.exc c q δ' M') T (EK.c (fun _ => E1) c0) → E1 (.ref (κ c)) dd H') → wTry K (fun cls d _ H => E1 cls d H) T l (.ref (κ c)) dd σ' H' := by
    intro l lf hl
    induction hl with
    | nil => exact fun dd _ hs hh px p k => k p
    | @cons h f hs' fs' hL _ ih =>
      intro c q δ' M' σ' H' ι' F' dd ee hs hh px p k
      simp only [runHd] at p
      cases ht : f.tk c with
      | none => rw [ht] at p; exact p.elim
      | some b =>
        rw [ht] at p
        refine ⟨b, hL.tk c b ht, fun hb a ha => ?_, fun hb => ?_⟩
        · subst hb
          simp only at p
          cases hn : f.nm with
          | none =>
            rw [hn] at p
            simp only at p
            have hn' : h.nm = none := hL.nm.trans hn
            have hi : h.inn a σ' = σ' := by unfold Hd.inn; rw [hn']
            rw [hi]
            refine hL.su a _ dd c q σ' δ' H' M' ι' F' (h.out T) ⟨hs.len, hs.pl, ⟨hs.chi, (fun i z => by rw [hn'] at z; cases z), rfl, px⟩⟩ hh ?_
            exact noExc_post hn' (SPost.mono ee p)
          | some i =>
            rw [hn] at p
            simp only at p
            have hn' : h.nm = some i := hL.nm.trans hn
            have hi : h.inn a σ' = σ'.set i (some (.ref a)) := by unfold Hd.inn; rw [hn']
            rw [hi]
            split at p
            · rename_i hlt
              rw [hs.len] at hlt
              refine hL.su a _ dd c q (σ'.set i (some (.ref a))) (δ'.set i none) H' M' ι' F' (h.out T) ⟨by simp [hs.len], (fun j x z => ?_), ⟨hL.fr i hn' _ _ _ _ _ hs.chi, (fun j z => ?_), rfl, px⟩⟩ hh ?_
              · by_cases hj : i = j
                · subst hj
                  rw [List.getElem?_set_self'] at z
                  cases q : δ'[i]? with
                  | none => rw [q] at z; cases z
                  | some _ => rw [q] at z; cases z
                · rw [List.getElem?_set_ne hj] at z ⊢
                  exact hs.pl j x z
              · rw [hn'] at z
                cases z
                rw [List.getElem?_set_self hlt]
              · exact clr_post hn' (hL.fr i hn') (SPost.mono ee p)
            · exact p.elim
        · subst hb
          simp only at p
          exact ih dd ee hs hh px p k
  revert p
  generalize fb δ M = r
  intro p
  cases r with
  | nx δ M1 => exact fun σ' H' ι' F' e h s => p _ H' ι' F' e h (wk s)
  | bk δ M1 => exact fun σ' H' ι' F' e h s => p _ H' ι' F' e h (wk s)
  | ct δ M1 => exact fun σ' H' ι' F' e h s => p _ H' ι' F' e h (wk s)
  | rt x M1 => exact fun v H' ι' F' e h s => p v H' ι' F' e h s
  | exc c q2 δ M1 =>
    cases q2 with
    | none => exact fun σ' H' ι' F' e h s => main hl (q := none) none e (wk s) h (show PX K κ ι' F' H' none none from trivial) p fun z => z σ' H' ι' F' e h (wk s)
    | some q2 =>
      obtain ⟨ns, ds⟩ := q2
      intro σ' x H' ι' F' vs nx e h s hlen rl hx
      have hn : x ∉ ι' := fun z => by
        obtain ⟨_, _, _, _, _, q, r⟩ := h.taken z
        rw [hx] at q
        cases q
        cases r
      exact main hl (q := some (ns, ds)) (some x) e (wk s) h ⟨x, vs, rfl, hlen, rl, hx, hn⟩ p fun z => z σ' x H' ι' F' vs nx e h (wk s) hlen rl hx
  | stuck => exact p.elim
theorem ls_try {E1 : XK} {tb : WX → TS} {fb : FS} {l : List Hd} {lf : List HF} (hb : ∀ W : WX, LS K κ (EK.wx W Ch.t) (tb W) fb) (hl : HdsLift K κ Ch.t l lf) :
    LS K κ (EK.of E1) (fun D σ H => tb (wTry K (fun cls d _ H => E1 cls d H) D l) D σ H) (fTry fb lf) := ls_tryC hb hl
/-! errors without fields -/
structure BareOk (K : PySem.W.Frag) (mg : Str → Option Value) (x : Str) (C : Addr) : Prop where
  gC : mg x = some (.ref C)
  kC : PySem.W.keepIn K (.ref C) = true
  bP : PySem.W.subIn K (.ref C) (.type "BaseException") = some true
  tP : PySem.W.typeIn K (.ref C) = some (.type "type")
  q : PySem.W.excIn K C [.type "ValueError", .type "Exception", .type "BaseException", .type "object"] "ValueError.__new__" = true
def tRaiseN (C : Addr) (W : WX) : TS := fun _ σ H => W (.ref C) none σ H
theorem ps_raiseN {X : Cx} {x m : Str} {C : Addr} {W : WX} {j : Nat} {p p2 pos pos2 : Pos} (R : BareOk X.K X.mg x C) (tk : Takes X W) (hc : X.calm = true := by rfl) (hg : Gl X x := by rfl) (hdb : (x == ("__debug__" : Str)) = false := by decide) :
    PS X (.Raise (some (.Call (.Name x p) [.Constant (.str m) j p2] [] pos)) none pos2) (tRaiseN C W) :=
  ps_raise hc tk (pmk_own PySem.F.excBase_ValueError R.q R.gC R.kC (raises_own R.bP R.tP) hg hdb)
theorem ls_raiseN {E : EK} {c : String} {W : WX} (hW : ∀ σ cls d H, E.E σ cls d H → W cls d σ H) : LS K κ E (tRaiseN (κ c) W) (fRaiseN c) := fun σ δ H M ι F T hs hh p => hW _ _ _ _ (p σ H ι F Ext.refl hh hs)
/-! calls in a try's body: the wish hangs on the names -/
theorem le_callW {W : WX} {c0 : Ch} {f : FD} {t : TA} {fa : FA} (h : LA K κ (EK.wx W c0) t fa) : LE K κ (EK.wx W c0) (tCallS (conc K κ f) (fun σ cls d H => W cls d σ H) t) (fCall f fa) := le_callS (E := EK.wx W c0) h
end
end G
namespace G
open PySem PySem.Spec PyProof.Rows L2 LamX
/-! ### a lambda handed to a def: what it raises is wished for at the slots of the def -/
def tAct (f c' : Addr) (q : Str) (tl : XK → Hp → VK → Prop) (W : WX) : TE := fun σZ HZ Q => σZ[0]? = some (some (.ref f)) ∧ HZ c' = some (CodeO c' q) ∧ tl (fun cls d H' => W cls d σZ H') HZ Q
abbrev gCx (X : Cx) (Ng : List Str) (x : Str) (sg : Scope) (g : Addr) (cdg : Value) (s : Shared) (H : Hp) : Cx := cxOf (L2.CX X.prog X.w) X.prog X.w X.K X.mg X.base Ng x sg g cdg X.A X.stack s H (fun _ _ _ => False)
section
variable {X : Cx} {pins : List (Addr × Obj)} {σ : L2.St} {H : Hp} {s : Shared}
theorem pe_actS {Ng : List Str} {x : Str} {sg : Scope} {g f c' : Addr} {cdg pm ctv : Value} {params : Arguments} {body : Expr} {scope : Scope} {k : Nat} {a : Str} {pn : List (Addr × Obj)} {xe : Value → Shared → Prop} {W : WX} {t : XK → TE} {p1 p2 : Pos}
    (I : Inv X pins σ H s) (L : LamS X.env.scope scope) (of : s.heap.get? f = some (PySem.W.kla_obj "<lambda>" (X.env.qual ++ "<lambda>") params body scope (cloFrom X.env.cells scope.names []) pm c' ctv)) (nf : H f = none) (nfr : f ∉ frs X.stack)
    (hbind : bindArgs (PySem.W.kla_fn "<lambda>" (X.env.qual ++ "<lambda>") params body scope (cloFrom X.env.cells scope.names []) pm (.ref c') ctv) ⟨[], []⟩ = pure [])
    (tk : Takes ((gCx X Ng x sg g cdg s H).tr pn xe) W) (hr : Room (k + 1) (X.A.deeper (envOfC x sg s.heap.objs.size g cdg)))
    (hbody : ∀ (A : Around) (outer : List Env) (s : Shared) (H : Hp) (E : XK), Room k (A.deeper (lamEnv X scope s.heap.objs.size f c')) → PE (lamCx X A outer s H E scope f c') body (t E))
    (hN : Ng[0]? = some a) (hv : Vis sg a) (hd : (a == ("__debug__" : Str)) = false := by decide) (hcd : (a == ("__classdict__" : Str)) = false := by decide) :
    PE ((gCx X Ng x sg g cdg s H).tr pn xe) (.Call (.Name a p1) [] [] p2) (tAct f c' (X.env.qual ++ "<lambda>") (fun E H' Q' => t E σ H' Q') W) := by
  refine ⟨fun pinsZ sZ σZ HZ Q IZ hw => ?_⟩
  obtain ⟨h1, h2, h3⟩ := hw
  refine wpAny_Call_Name_kw (thn ((pe_var (pos := p1) (i := 0) hN hv hd hcd).run pinsZ sZ σZ HZ (fun v H1 => v = .ref f ∧ H1 = HZ) IZ ⟨.ref f, h1, rfl, rfl⟩) fun u s1 ⟨v, H1, I1, ru, e1, e2⟩ => ?_)
  subst e1 e2
  cases ru
  have keepF := I1.base.keep f _ of nf nfr (fun z => nomatch (show f ∈ ([] : List Addr) from z))
  refine PySem.W.callWith_F0 ⟨_, _, _, _, keepF⟩ ?_
  obtain ⟨⟨oc, vs, tq, k1, k2, k3⟩, _, _⟩ := I1.hok c' _ h2
  let Eσ : XK := fun cls d H' => W cls d σZ H'
  have ran : codeAny (model X.prog X.w) (X.A.deeper (envOfC x sg s.heap.objs.size g cdg)) (.call (.ref f) ⟨[], []⟩) (CR (L2.CX X.prog X.w) (envOfC x sg s.heap.objs.size g cdg :: X.stack) X.prog X.w H1 s1 Q Eσ) s1 := by
    refine PySem.W.kla_callFunE hr.depth keepF rfl L.co L.gen rfl ⟨c', oc, vs, tq, rfl, k1, k2, k3⟩ ?_
    rw [hbind]
    refine wpAny_pure (wpAny_newFunctionEnv (fun y hy => (L.own y hy).2) (fun y hy => absurd hy (by simp)) (fun hA ns sb => ⟨I1.nolimit.fresh _ sb, ?_⟩) L.kind)
    show codeAny _ _ (.expr body (lamEnv X scope s1.heap.objs.size f c')) _ _
    have J : Inv (lamCx X (X.A.deeper (envOfC x sg s.heap.objs.size g cdg)) (envOfC x sg s.heap.objs.size g cdg :: X.stack) s1 H1 Eσ scope f c') [] σ H1 { s1 with heap := hA, toks := s1.toks + ([] : List (Str × Value)).length } :=
      lam_start2 I L I1.env0 hr.hd I1.base ns fun b o e => sb.extBut b o (Nat.ne_of_lt (Heap.lt_size e)) (Heap.get?_push_of_some _ e)
    refine PySem.W.kla_codeExpr (wpAny_mono ((hbody _ _ s1 H1 Eσ (hr.deeper _)).run [] _ _ H1 Q J h3) (fun v s2 ⟨y, H2, J2, ry, q2⟩ => ?_) fun e s2 q => q)
    exact ⟨y, H2, J2.os, J2.bare, J2.base, J2.hok, ry, q2⟩
  refine wpAny_call (codeAny_mono ran fun r s2 hq => ?_)
  cases r with
  | error e => exact passAt tk σZ pinsZ H1 s1 e s2 I1 hq
  | ok fl =>
    cases fl with
    | ret u => exact I1.after hq
    | next => exact False.elim hq
    | brk => exact False.elim hq
    | cont => exact False.elim hq
end
/-- the def that calls what it got -/
def GivesS (X : Cx) (Ng : List Str) (x : Str) (sg : Scope) (g : Addr) (cdg : Value) (bg : List Stmt) (a q : Str) (kg : Nat) (TT : (XK → Hp → VK → Prop) → Hp → VK → Prop) : Prop :=
  ∀ (f c' : Addr) (s : Shared) (H : Hp) (Q : VK) (tl : XK → Hp → VK → Prop), Room kg (X.A.deeper (envOfC x sg s.heap.objs.size g cdg)) →
    (∀ (W : WX) (pn : List (Addr × Obj)) (xe : Value → Shared → Prop) (p1 p2 : Pos), Takes ((gCx X Ng x sg g cdg s H).tr pn xe) W → PE ((gCx X Ng x sg g cdg s H).tr pn xe) (.Call (.Name a p1) [] [] p2) (tAct f c' q tl W)) →
    H c' = some (CodeO c' q) → TT tl H Q → ∃ t, PSs (gCx X Ng x sg g cdg s H) bg t ∧ t { nx := fun _ H' => Q .non H', rt := Q } (L2.start Ng [.ref f]) H
section
variable {X : Cx}
theorem pe_lamS {T : List (Addr × Str)} {TT : (XK → Hp → VK → Prop) → Hp → VK → Prop} {x a : Str} {g c P : Addr} {k : Nat} {pg : Arguments} {bg : List Stmt} {sg : Scope} {dV kV doc pm cdv ct oc : Value} {an od : Option Addr} {osl : Array (Option Value)} {Ng : List Str}
    {params : Arguments} {body : Expr} {scope : Scope} {t : XK → TE} {p lpos pos : Pos} (hm : X.mg x = some (.ref g)) (hk : PySem.W.keepIn X.K (.ref g) = true)
    (lk : X.K.lookup g = some ⟨oc, od, .func (PySem.W.fnOf x x pg bg sg dV kV doc pm an cdv ct), osl⟩) (hcg : PySem.W.codeIn X.K cdv x = true) (hb : L2.Binds X.K (PySem.W.fnOf x x pg bg sg dV kV doc pm an cdv ct) [a] []) (Sg : FnScope Ng [a] sg) (hNg : Ng[0]? = some a) (hva : Vis sg a)
    (hG : GivesS X Ng x sg g cdv bg a (X.env.qual ++ "<lambda>") (k + 1) TT)
    (TB : TabB X.base X.mg c P) (hcode : X.env.code = .ref c) (hmT : (P, X.env.qual ++ "<lambda>") ∈ T) (hu : ∀ p ∈ T, p.1 = P → p.2 = X.env.qual ++ "<lambda>") (hr : Room (k + 2) X.A) (L : LamS X.env.scope scope) 
    (hbind : ∀ (q : Str) (cl : List (Str × Addr)) (pm cv ctv : Value), bindArgs (PySem.W.kla_fn "<lambda>" q params body scope cl pm cv ctv) ⟨[], []⟩ = pure [])
    (hbody : ∀ (A : Around) (outer : List Env) (s : Shared) (H : Hp) (E : XK) (f c' : Addr), Room k (A.deeper (lamEnv X scope s.heap.objs.size f c')) → PE (lamCx X A outer s H E scope f c') body (t E))
    (hg : Gl X x := by rfl) (hdef : defaultsOf params X.env = ([], []) := by rfl) (hdb : (x == ("__debug__" : Str)) = false := by decide) (hd : (a == ("__debug__" : Str)) = false := by decide) (hcd : (a == ("__classdict__" : Str)) = false := by decide) :
    PE X (.Call (.Name x p) [.Lambda params body scope lpos] [] pos) (tLam T TT t) := by
  refine ⟨fun pins s σ H Q I ⟨hT, hw⟩ => ?_⟩
  refine wpAny_Call_Name_kw (ld_glob I hg hm ?_ hdb)
  refine PySem.W.callWith_K (h₀ := X.base) I.ok.mod.kin hk ?_ (by rfl) (by rfl)
  show wpAny _ _ (spliced ((false, eval (.Lambda params body scope lpos) X.env) :: backTo pos (starEach [] X.env))) _ _ s
  refine Calls.spliced_cons (lam_make2 I TB hcode hmT hu hT hdef (L.has I.ok) fun f c' pm' ctv H1 s1 I1 grown T1 o1 n1 n2 co => ?_)
  refine Calls.spliced_nil ⟨I1.kIn, ?_⟩
  have ran : codeAny (model X.prog X.w) X.A (.call (.ref g) ⟨[.ref f], []⟩) (CR (L2.CX X.prog X.w) X.stack X.prog X.w H1 s1 Q (fun _ _ _ => False)) s1 := by
    refine run_ofS (N := Ng) (ps := [a]) (us := [.ref f]) (vs := [.ref f]) lk hcg Sg hr I1.env0 (hb s1 [.ref f] I1.kIn rfl) (.cons rfl .nil) rfl fun hr' => ?_
    exact hG f c' s1 H1 Q (fun E H' Q' => t E σ H' Q') hr' (fun W pn xe p1 p2 tk => pe_actS I1 L o1 n1 n2 (hbind _ _ _ _ _) tk hr' (fun A outer s H E hr2 => hbody A outer s H E f c' hr2) hNg hva hd hcd) co (hw H1 grown T1)
  refine wpAny_call (codeAny_mono ran fun r s2 hq => ?_)
  cases r with
  | error e => exact passL pins σ H1 s1 e s2 I1 hq
  | ok fl =>
    cases fl with
    | ret u => exact I1.after hq
    | next => exact False.elim hq
    | brk => exact False.elim hq
    | cont => exact False.elim hq
end
end G
namespace G
open PySem PySem.Spec PyProof.Rows L2 LamX
/-! ### lambdas, told of data -/
abbrev LamD := AH → Res D
def fAct (lam : LamD) : FE := fun _ M => lam M
def fnL (n : Nat) (fs : LamD → FS) : LamD → LamD := fun lam M => fin M (outS (fs lam (List.replicate n none) M))
def fLam (Fg : LamD → LamD) (b : FE) : FE := fun δ M => match Fg (b δ) M with
  | .ok d M' => .ok d M'
  | _ => .stuck
section
variable {K : PySem.W.Frag} {κ : Kap} {ι ι' : List Addr} {F F' H H' : Hp} {M M' : AH}
/-- a lambda's reading from its function on data, from ι0, F0, H0 on -/
def LamLift (K : PySem.W.Frag) (κ : Kap) (lam : LamD) (tl : XK → Hp → VK → Prop) (ι0 : List Addr) (F0 H0 : Hp) : Prop := ∀ ι F H M E Q, Ext ι0 F0 H0 ι F H → RelH K κ ι F H M → Post K κ (Rep K κ) ι F H (lam M) Q E → tl E H Q
def TTd (K : PySem.W.Frag) (κ : Kap) (Fg : LamD → LamD) : (XK → Hp → VK → Prop) → Hp → VK → Prop := fun tl H Q => ∃ lam ι F M, RelH K κ ι F H M ∧ LamLift K κ lam tl ι F H ∧ Post K κ (Rep K κ) ι F H (Fg lam M) Q (fun _ _ _ => False)
/-- in the def that got it: the lambda at f stands in the first slot -/
def Ch.lam (f c' : Addr) (q : Str) (ι0 : List Addr) (F0 H0 : Hp) : Ch :=
  ⟨fun ι σ F H => σ[0]? = some (some (.ref f)) ∧ Ext ι0 F0 H0 ι F H ∧ H c' = some (CodeO c' q) ∧ c' ∉ ι, fun ι ι' σ F F' H H' e h => by
    obtain ⟨h1, h2, h3, h4⟩ := h
    obtain ⟨h5, h6⟩ := e.stays h3 h4 (fun z => by unfold CodeO at z; exact z) codeO_ne
    exact ⟨h1, h2.trans e, h5, h6⟩⟩
theorem Ch.lam_free {f c' : Addr} {q : Str} {ι0 : List Addr} {F0 H0 : Hp} {j : Nat} (h : j ≠ 0) : (Ch.lam f c' q ι0 F0 H0).FreeAt j := fun ι σ F H v x => ⟨by rw [List.getElem?_set_ne h]; exact x.1, x.2⟩
theorem le_act {f c' : Addr} {q : Str} {ι0 : List Addr} {F0 H0 : Hp} {lam : LamD} {tl : XK → Hp → VK → Prop} {W : WX} (hl : LamLift K κ lam tl ι0 F0 H0) : LE K κ (EK.wx W (Ch.lam f c' q ι0 F0 H0)) (tAct f c' q tl W) (fAct lam) := fun σ δ H M ι F Q hs hh p => by
  obtain ⟨h1, h2, h3, _⟩ := hs.chi
  exact ⟨h1, h3, hl ι F H M _ Q h2 hh p⟩
theorem relH_grown (hh : RelH K κ ι F H M) {H1 : Hp} (g : ExtN H H1) (t : Tabs κ.T H1) : RelH K κ ι F H1 M ∧ Ext ι F H ι F H1 := by
  have st : ∀ {a o}, H a = some o → (∀ ps, o ≠ .tbl ps) → H1 a = some o := fun h n => g _ _ h n
  have nn : ∀ a, Nn H1 a → Nn H a := fun a n => by
    cases q : H a with
    | none => exact .inl q
    | some o =>
      by_cases ht : ∃ ps, o = .tbl ps
      · obtain ⟨ps, rfl⟩ := ht
        exact .inr ⟨ps, q⟩
      · have nt : ∀ ps, o ≠ .tbl ps := fun ps z => ht ⟨ps, z⟩
        exact (n.no (st q nt) nt).elim
  refine ⟨⟨fun a o h => ?_, t, hh.nt, hh.len, hh.nd, hh.dis, fun i o h => ?_⟩, ⟨List.prefix_rfl, Same.refl _, fun a o h n t => .inl (st h t), nn, fun a h => .inl h, fun a o h => .inl h⟩⟩
  · rcases hh.le a o h with q | ⟨l, od, q⟩
    · exact .inl (st q fun ps z => hh.nt a ps (z ▸ h))
    · exact .inr ⟨l, od, st q fun ps z => by cases z⟩
  · obtain ⟨a, u, h1, h2, h3⟩ := hh.pl i o h
    exact ⟨a, u, h1, st h2 h3.noTbl.1, h3⟩
theorem le_lam {E0 : EK} {t : XK → TE} {fb : FE} {Fg : LamD → LamD} (hb : ∀ E, LE K κ (EK.of E) (t E) fb) : LE K κ E0 (tLam κ.T (TTd K κ Fg) t) (fLam Fg fb) := fun σ δ H M ι F Q hs hh p => by
  refine ⟨hh.tb, fun H1 g t1 => ?_⟩
  obtain ⟨h1, e1⟩ := relH_grown hh g t1
  refine ⟨fb δ, ι, F, M, h1, fun ι2 F2 H2 M2 E Q2 e2 h2 p2 => ?_, ?_⟩
  · have s0 : RelS K κ (EK.of E) ι F H δ σ := ⟨hs.len, hs.pl, trivial⟩
    exact hb E σ δ H2 M2 ι2 F2 Q2 (s0.ext (e1.trans e2)) h2 p2
  · unfold fLam at p
    revert p
    generalize Fg (fb δ) M = r
    intro p
    cases r with
    | ok d M' => exact Post.mono e1 p fun _ _ x => x
    | exc c q M' => exact p.elim
    | stuck => exact p.elim
theorem gives_of {X : Cx} {Ng : List Str} {x : Str} {sg : Scope} {g : Addr} {cdg : Value} {bg : List Stmt} {a q : Str} {kg : Nat} {fs : LamD → FS} (n0 : 0 < Ng.length)
    (h : ∀ (f c' : Addr) (s : Shared) (H : Hp) (tl : XK → Hp → VK → Prop), Room kg (X.A.deeper (envOfC x sg s.heap.objs.size g cdg)) →
      (∀ (W : WX) (pn : List (Addr × Obj)) (xe : Value → Shared → Prop) (p1 p2 : Pos), Takes ((gCx X Ng x sg g cdg s H).tr pn xe) W → PE ((gCx X Ng x sg g cdg s H).tr pn xe) (.Call (.Name a p1) [] [] p2) (tAct f c' q tl W)) →
      ∃ t, PSs (gCx X Ng x sg g cdg s H) bg t ∧ ∀ ι0 F0 H0 lam, LamLift X.K κ lam tl ι0 F0 H0 → LS X.K κ (EK.c (fun _ _ _ _ => False) (Ch.lam f c' q ι0 F0 H0)) t (fs lam)) :
    GivesS X Ng x sg g cdg bg a q kg (TTd X.K κ (fnL Ng.length fs)) := by
  intro f c' s H Q tl hr act hc hw
  obtain ⟨t, d, l⟩ := h f c' s H tl hr act
  obtain ⟨lam, ι, F, M, rh, hl, p⟩ := hw
  refine ⟨t, d, ?_⟩
  have nc : c' ∉ ι := fun z => by
    obtain ⟨_, _, _, _, _, e, r⟩ := rh.taken z
    rw [hc] at e
    cases e
    exact r.noTbl.2 _ rfl
  have p := fin_post rh p
  refine l ι F H lam hl _ (List.replicate Ng.length none) H M ι F _ ⟨?_, fun i d z => ?_, ⟨?_, Ext.refl, hc, nc⟩⟩ rh ?_
  · unfold L2.start
    simp
    omega
  · rw [List.getElem?_replicate] at z
    split at z <;> cases z
  · rfl
  revert p
  generalize fs lam (List.replicate Ng.length none) M = r
  intro p
  cases r with
  | nx δ M' => exact fun σ' H' ι' F' e h' _ => p .non H' ι' F' e h' .non
  | rt d M' => exact p
  | exc c q δ M' =>
    cases q with
    | none => exact fun σ' H' ι' F' e h' _ => p H' ι' F' e h'
    | some q => exact fun σ' x H' ι' F' vs nx e h' _ hl rd hx => p x H' ι' F' vs nx e h' hl rd hx
  | bk δ M' => exact p.elim
  | ct δ M' => exact p.elim
  | stuck => exact p.elim
end
end G
namespace G
open PySem PySem.Spec PyProof.Rows L2
/-! ### is; repr; more by numbers -/
def gIsN (neg : Bool) : D → D → AH → Res D := fun x y M => match y with
  | .non => (match x with
    | .non => .ok (.bl (!neg)) M
    | .ref _ => .ok (.bl neg) M
    | _ => .ok (.bl neg) M)
  | _ => .stuck
def gIsB (neg : Bool) : D → D → AH → Res D := fun x y M => match x, y with
  | .bl a, .bl b => .ok (.bl (neg != decide (a = b))) M
  | _, _ => .stuck
def gRepr : List D → AH → Res D := fun xs M => match xs with
  | [.int i] => if i.natAbs.log2 < 1920 then .ok (.str (Str.ofString (toString i))) M else .stuck
  | [.bl b] => .ok (.str (if b then Str.ofString "True" else Str.ofString "False")) M
  | [.non] => .ok (.str (Str.ofString "None")) M
  | [.str z] => if (reprText z).length ≤ sizeLine then .ok (.str (reprText z)) M else .stuck
  | _ => .stuck
def gMulT : D → D → AH → Res D := fun x y M => match x, y with
  | .int i, .int j => gMul (.int i) (.int j) M
  | x, .int k => (match tupOf x with
    | some xs => if xs ≠ [] ∧ 2 ≤ k ∧ k ≤ 1000 ∧ xs.length ≤ 1000 then .ok (.tuq (List.replicate k.toNat xs).flatten) M else .stuck
    | none => .stuck)
  | _, _ => .stuck
section
variable {K : PySem.W.Frag} {κ : Kap} {E : EK} {ι ι' : List Addr} {F F' H H' : Hp} {M M' : AH}
def rIsNG (neg : Bool) : R2 := fun x y H Q => y = .non ∧ Q (.bl (neg != decide (x = .non))) H
theorem op_isNG {X : Cx} : OpR X (compareOp .Is) (rIsNG false) := by
  intro pins s σ H x y v u Q I rx ry h
  exact op_isN pins s σ H x y v u Q I rx ry ⟨h.1, by have := h.2; simpa using this⟩
theorem op_notNG {X : Cx} : OpR X (compareOp .IsNot) (rIsNG true) := by
  intro pins s σ H x y v u Q I rx ry h
  exact op_notN pins s σ H x y v u Q I rx ry ⟨h.1, by have := h.2; simpa using this⟩
def rIsBG (neg : Bool) : R2 := fun x y H Q => ∃ a b : Bool, x = .bl a ∧ y = .bl b ∧ Q (.bl (neg != decide (a = b))) H
theorem op_isBG {X : Cx} : OpR X (compareOp .Is) (rIsBG false) := by
  intro pins s σ H x y v u Q I rx ry h
  obtain ⟨a, b, h1, h2, h3⟩ := h
  exact op_isBl pins s σ H x y v u Q I rx ry ⟨a, b, h1, h2, by simpa using h3⟩
theorem op_notBG {X : Cx} : OpR X (compareOp .IsNot) (rIsBG true) := by
  intro pins s σ H x y v u Q I rx ry h
  obtain ⟨a, b, h1, h2, h3⟩ := h
  exact op_notBl pins s σ H x y v u Q I rx ry ⟨a, b, h1, h2, by simpa using h3⟩
theorem isNK (neg : Bool) : LR2 K κ (rIsNG neg) (gIsN neg) := fun H M ι F x y v w Q e hh rx ry p => by
  unfold gIsN at p
  cases ry with
  | non =>
    refine ⟨rfl, ?_⟩
    cases rx <;> first
      | (have q := p.here hh (.bl _); cases neg <;> simpa using q)
      | skip
  | _ => exact p.elim
theorem isBK (neg : Bool) : LR2 K κ (rIsBG neg) (gIsB neg) := fun H M ι F x y v w Q e hh rx ry p => by
  unfold gIsB at p
  split at p
  · cases rx; cases ry
    exact ⟨_, _, rfl, rfl, p.here hh (.bl _)⟩
  · exact p.elim
def rReprG : List V → Hp → VK → Prop := fun xs H Q => match xs with
  | [.int i] => i.natAbs.log2 < 1920 ∧ Q (.str (Str.ofString (toString i))) H
  | [.bl b] => Q (.str (if b then Str.ofString "True" else Str.ofString "False")) H
  | [.non] => Q (.str (Str.ofString "None")) H
  | [.str z] => (reprText z).length ≤ sizeLine ∧ Q (.str (reprText z)) H
  | _ => False
theorem call_reprG {X : Cx} : CallR X (.builtin "repr") rReprG := by
  intro pins s σ H xs us Q I r h
  unfold rReprG at h
  split at h
  · obtain ⟨u, rfl, t, rfl⟩ := vals1 r
    exact PySem.P.repr_of_int h.1 ⟨.str _, H, I.tok _, ⟨_, rfl⟩, h.2⟩
  · rename_i b
    obtain ⟨u, rfl, ru⟩ := vals1 r
    cases ru
    refine PySem.P.repr_of_bool ⟨.str _, H, I.tok _, ⟨_, rfl⟩, ?_⟩
    cases b <;> exact h
  · obtain ⟨u, rfl, ru⟩ := vals1 r
    cases ru
    exact PySem.P.repr_of_none ⟨.str _, H, I.tok _, ⟨_, rfl⟩, h⟩
  · obtain ⟨u, rfl, t, rfl⟩ := vals1 r
    exact PySem.P.repr_of_str ⟨.str _, H, I.tok _, ⟨_, rfl⟩, h.2⟩ h.1
  · exact h.elim
theorem reprK : LRN K κ rReprG gRepr := fun H M ι F xs vs Q e hh r p => by
  unfold gRepr at p
  split at p
  · split at p
    · rename_i hl
      cases r with | cons a b => cases a; cases b; exact ⟨hl, p.here hh (.str _)⟩
    · exact p.elim
  · cases r with | cons a b => cases a; cases b; exact p.here hh (.str _)
  · cases r with | cons a b => cases a; cases b; exact p.here hh (.str _)
  · split at p
    · rename_i hl
      cases r with | cons a b => cases a; cases b; exact ⟨hl, p.here hh (.str _)⟩
    · exact p.elim
  · exact p.elim
theorem rep_rep {ds : List D} {vs : List V} (h : RepL K κ ι F ds vs) : ∀ n, RepL K κ ι F (List.replicate n ds).flatten (List.replicate n vs).flatten
  | 0 => .nil
  | n + 1 => by
    rw [List.replicate_succ, List.replicate_succ, List.flatten_cons, List.flatten_cons]
    exact h.append (rep_rep h n)
def rMulTG (K : PySem.W.Frag) : R2 := fun x y H Q => rMulG x y H Q ∨ rRepT K x y H Q
theorem op_mulTG {X : Cx} (K : PySem.W.Frag) (h : X.K = K := by rfl) : OpR X (binaryOp .Mult) (rMulTG K) := by
  subst h
  intro pins s σ H x y v u Q I rx ry h
  rcases h with h | h
  · exact op_mulG pins s σ H x y v u Q I rx ry h
  · exact op_repT pins s σ H x y v u Q I rx ry h
theorem mulTK : LR2 K κ (rMulTG K) gMulT := fun H M ι F x y v w Q e hh rx ry p => by
  unfold gMulT at p
  split at p
  · exact .inl (rmulK H M ι F _ _ v w Q e hh rx ry p)
  · split at p
    · rename_i hx
      split at p
      · rename_i hc
        obtain ⟨a, vs, rfl, h1, r1⟩ := tup_at hh rx hx
        cases ry
        refine .inr ⟨a, _, vs, rfl, rfl, h1, fun z => hc.1 ((nE r1.len).mpr z), hc.2.1, hc.2.2.1, by rw [← r1.len]; exact hc.2.2.2, fun q hq => ?_⟩
        obtain ⟨e2, h3⟩ := hh.newF hq (.tup (List.replicate _ vs).flatten)
        exact p _ _ _ _ e2 h3 (.tuq (.inl (.inl upd_same)) ((rep_rep r1 _).ext e2))
      · exact p.elim
    · exact p.elim
  · exact p.elim
/-! ### dicts of the module -/
theorem lookup_rep {ks : List Str} {ds : List D} {vs : List V} (r : RepL K κ ι F ds vs) (z : Str) : (ks.length = vs.length) → ((ks.zip ds).lookup z = none ∧ (ks.zip vs).lookup z = none) ∨ ∃ d v, (ks.zip ds).lookup z = some d ∧ (ks.zip vs).lookup z = some v ∧ Rep K κ ι F d v := by
  induction ks generalizing ds vs with
  | nil => exact fun _ => .inl ⟨rfl, rfl⟩
  | cons k ks ih =>
    intro hl
    cases r with
    | nil => cases hl
    | @cons d v ds vs a b =>
      by_cases h : z = k
      · subst h
        exact .inr ⟨d, v, by simp [List.lookup], by simp [List.lookup], a⟩
      · have : (z == k) = false := beq_eq_false_iff_ne.mpr h
        rcases ih b (by simpa using hl) with ⟨h1, h2⟩ | ⟨x, y, h1, h2, h3⟩
        · exact .inl ⟨by simp [List.lookup, this, h1], by simp [List.lookup, this, h2]⟩
        · exact .inr ⟨x, y, by simp [List.lookup, this, h1], by simp [List.lookup, this, h2], h3⟩
def gKIx : D → D → AH → Res D := fun x y M => match x, y with
  | .dck ks xs, .str z => (match (ks.zip xs).lookup z with | some d => .ok d M | none => .stuck)
  | _, _ => .stuck
def fKGet (d y z : FE) : FE := fun δ M => (d δ M).bind fun a M1 => match a with
  | .dck ks xs => (y δ M1).bind fun k M2 => (z δ M2).bind fun e M3 => (match k with
    | .str k => .ok (((ks.zip xs).lookup k).getD e) M3
    | _ => .stuck)
  | _ => .stuck
def rKIx (K : PySem.W.Frag) (w : World) : R2 := fun x y H Q => ∃ p ks vs z v, x = .ref p ∧ y = .str z ∧ KDk K w p ks vs ∧ (ks.zip vs).lookup z = some v ∧ Q v H
theorem kdk_in {w : World} {p : Addr} {ks : List Str} {vs : List V} (h : KDk K w p ks vs) {z : Str} {v : V} (e : (ks.zip vs).lookup z = some v) : ∃ u, PySem.W.nsIn K p z = some (some u) ∧ RelV v u := by
  obtain ⟨_, _, h⟩ := h
  obtain ⟨r, h1, h2⟩ := h z
  rw [e] at h2
  cases r with
  | none => exact h2.elim
  | some u => exact ⟨u, h1, h2⟩
theorem ix_kdk {X : Cx} (K : PySem.W.Frag) (w : World) (h : X.K = K := by rfl) (hw : X.w = w := by rfl) : IxR X (rKIx K w) := by
  subst h hw
  intro value slice pins s σ H x y v u Q I rx ry h hs
  obtain ⟨p, ks, vs, z, v0, rfl, rfl, hk, e, q⟩ := h
  obtain rfl : v = Value.ref p := rx
  obtain ⟨t, rfl⟩ := ry
  obtain ⟨u0, h1, h2⟩ := kdk_in hk e
  obtain ⟨_, ⟨es, n, D⟩, _⟩ := hk
  have hm := PySem.W.mapOf_K (prog := X.prog) I.kIn D.at_ D.lit
  exact tail_any hm.typeIs slot_dict_getitem.lookup (wpAny_getItem_of (strKind_is X.prog X.w z t) hm (PySem.W.find_K D.at_ h1) ⟨v0, H, I.tok _, h2, q⟩) hs
theorem kixK : LR2 K κ (rKIx K κ.w) gKIx := fun H M ι F x y v w Q e hh rx ry p => by
  unfold gKIx at p
  split at p
  · rename_i ks xs z
    cases ry
    cases rx with
    | @dck _ _ a vs hk r =>
      split at p
      · rename_i d hd
        rcases lookup_rep r z hk.1 with ⟨h1, _⟩ | ⟨d', v', h1, h2, h3⟩
        · rw [hd] at h1; cases h1
        · rw [hd] at h1
          cases h1
          exact ⟨a, ks, vs, z, v', rfl, rfl, hk, h2, p.here hh h3⟩
      · exact p.elim
  · exact p.elim
def tKGet (K : PySem.W.Frag) (w : World) (td ty tx : TE) : TE := fun σ H Q => td σ H fun x H1 => ∃ a ks vs, x = .ref a ∧ KDk K w a ks vs ∧ ty σ H1 fun y H2 => tx σ H2 fun z H3 => ∃ k, y = .str k ∧ Q (((ks.zip vs).lookup k).getD z) H3
theorem pe_kget {X : Cx} {o e f : Expr} {td ty tx : TE} {apos cpos : Pos} (K : PySem.W.Frag) (w : World) (ho : PE X o td) (he : PE X e ty) (hf : PE X f tx) (m : M2 X o "get" apos e f cpos) (h : X.K = K := by rfl) (hw : X.w = w := by rfl) : PE X (.Call (.Attribute o "get" apos) [e, f] [] cpos) (tKGet K w td ty tx) := by
  subst h hw
  refine ⟨fun pins s σ H Q I h => ?_⟩
  refine wpAny_Call_method m.base m.few m.line PySem.F.plainAttrs_dict PySem.F.slot_dict_get PySem.F.type_dict_get (thn (ho.run pins s σ H _ I h) fun u s1 ⟨x, H1, I1, rx, a, ks, vs, ex, hk, q1⟩ => ?_)
  subst ex
  obtain rfl : u = Value.ref a := rx
  obtain ⟨hl, ⟨es, n, D⟩, hz⟩ := hk
  have hm := fun (s : Shared) (hK : X.K.In s.heap) => PySem.W.mapOf_K (prog := X.prog) (w := X.w) hK D.at_ D.lit
  refine ⟨(hm s1 I1.kIn).typeIs, fun b z => ?_, ?_⟩
  · cases z
    exact ⟨_, I1.kIn _ _ D.at_, rfl⟩
  rw [m.trees]
  refine Calls.callWith_builtin rfl (Calls.evalArgs_plain (Calls.spliced_cons (thn (he.run pins s1 σ H1 _ I1 q1) fun iv s2 ⟨y, H2, I2, ry, q2⟩ =>
    Calls.spliced_cons (thn (hf.run pins s2 σ H2 _ I2 q2) fun fv s3 ⟨z, H3, I3, rz, k, ek, q3⟩ => Calls.spliced_nil ?_))))
  subst ek
  obtain ⟨t, rfl⟩ := ry
  obtain ⟨r, h1, h2⟩ := hz k
  have hm3 := hm s3 I3.kIn
  refine call_meetsIn PySem.F.slot_dict_get hm3.typeIs PySem.F.entry_dict_get (PySem.F.args_dict_get_3 _ _ _) (meets_dict_get_default (strKind X.prog X.w) a (strKind_is X.prog X.w k t) D.low fv) ⟨_, hm3, ?_⟩
  rw [PySem.W.find_K D.at_ h1]
  refine ⟨_, H3, I3.tok _, ?_, q3⟩
  exact L2.RelO.getD h2 rz
theorem le_kget {td ty tx : TE} {fd fy fx : FE} (h1 : LE K κ E td fd) (h2 : LE K κ E ty fy) (h3 : LE K κ E tx fx) : LE K κ E (tKGet K κ.w td ty tx) (fKGet fd fy fx) := fun σ δ H M ι F Q hs hh p => by
  refine h1 σ δ H M ι F _ hs hh ((Post.bind (R := Rep K κ) p).mono Ext.refl ?_)
  rintro v H1 ⟨d, M1, ι1, F1, e1, hh1, r1, p1⟩
  split at p1
  · rename_i ks xs
    cases r1 with
    | @dck _ _ a vs hk r =>
      have s1 := hs.ext e1
      refine ⟨a, ks, vs, rfl, hk, ?_⟩
      refine h2 σ δ H1 M1 ι1 F1 _ s1 hh1 ((Post.bind (R := Rep K κ) p1).mono Ext.refl ?_)
      rintro w H2 ⟨d2, M2, ι2, F2, e2, hh2, r2, p2⟩
      refine h3 σ δ H2 M2 ι2 F2 _ (s1.ext e2) hh2 ((Post.bind (R := Rep K κ) p2).mono Ext.refl ?_)
      rintro z H3 ⟨d3, M3, ι3, F3, e3, hh3, r3, p3⟩
      split at p3
      · rename_i k
        cases r2
        rcases lookup_rep ((r.ext e2).ext e3) k hk.1 with ⟨q1, q2⟩ | ⟨x, u, q1, q2, q3⟩
        · rw [q1] at p3
          exact ⟨k, rfl, by rw [q2]; exact p3.here hh3 r3⟩
        · rw [q1] at p3
          exact ⟨k, rfl, by rw [q2]; exact p3.here hh3 q3⟩
      · exact p3.elim
  · exact p1.elim
/-! ### d.setdefault(k, x); dicts that are written -/
def fDSetd (d y z : FE) : FE := fun δ M => (d δ M).bind fun a M1 => if (dctOf a M1).isSome then (y δ M1).bind fun k M2 => (z δ M2).bind fun e M3 => (match a, keyD k with
  | .ref i, some k => (match M3[i]? with
    | some (.dct ks xs) => if ks.length < sizeLine then (match valD ks xs k with
      | some x => .ok x M3
      | none => .ok e (M3.set i (.dct (putD ks xs k e).1 (putD ks xs k e).2))) else .stuck
    | _ => .stuck)
  | _, _ => .stuck) else .stuck
theorem le_dsetd {td ty tx : TE} {fd fy fx : FE} (h1 : LE K κ E td fd) (h2 : LE K κ E ty fy) (h3 : LE K κ E tx fx) : LE K κ E (tDSetd td ty tx) (fDSetd fd fy fx) := fun σ δ H M ι F Q hs hh p => by
  refine h1 σ δ H M ι F _ hs hh ((Post.bind (R := Rep K κ) p).mono Ext.refl ?_)
  rintro v H1 ⟨d, M1, ι1, F1, e1, hh1, r1, p1⟩
  split at p1
  · rename_i hd0
    have s1 := hs.ext e1
    obtain ⟨⟨ks0, xs0⟩, hd0⟩ := Option.isSome_iff_exists.mp hd0
    obtain ⟨a, vs0, ea, hq0, _, _⟩ := dct_at hh1 r1 hd0
    refine ⟨a, ea, .inl ⟨_, hq0⟩, ?_⟩
    refine h2 σ δ H1 M1 ι1 F1 _ s1 hh1 ((Post.bind (R := Rep K κ) p1).mono Ext.refl ?_)
    rintro w H2 ⟨d2, M2, ι2, F2, e2, hh2, r2, p2⟩
    refine h3 σ δ H2 M2 ι2 F2 _ (s1.ext e2) hh2 ((Post.bind (R := Rep K κ) p2).mono Ext.refl ?_)
    rintro z H3 ⟨d3, M3, ι3, F3, e3, hh3, r3, p3⟩
    split at p3
    · rename_i i k hk _
      split at p3
      · rename_i ks xs hM
        split at p3
        · rename_i hlen
          obtain ⟨b, u, eb, hb, hu, ru⟩ := relH_ref hh3 ((r1.ext e2).ext e3) hM
          have hab : a = b := by rw [ea] at eb; exact V.ref.inj eb
          subst hab
          have hw := keyD_rep (r2.ext e3) hk
          subst hw
          cases ru with
          | @dct _ _ vs hl ru =>
            refine ⟨_, k, hu, rfl, by rw [List.length_zip, hl, Nat.min_self, ← hl]; exact hlen, fun v hv => ?_, fun hv => ?_⟩
            · rcases val_rep hl ru k with ⟨q1, q2⟩ | ⟨x, y, q1, q2, q3⟩
              · rw [q2] at hv; cases hv
              · rw [q2] at hv
                cases hv
                rw [q1] at p3
                exact p3.here hh3 q3
            · rcases val_rep hl ru k with ⟨q1, q2⟩ | ⟨x, y, q1, q2, q3⟩
              · rw [q1] at p3
                obtain ⟨ws, z1, z2, z3⟩ := put_rep (k := k) hl ru r3
                obtain ⟨e4, hh4⟩ := hh3.put (o := .dct (putD ks xs k d3).1 (putD ks xs k d3).2) (ho := .dK ((putD ks xs k d3).1.zip ws)) hb hM rfl (.dct z2 z3)
                rw [z1]
                exact p3 _ _ ι3 F3 e4 hh4 (r3.ext e4)
              · rw [q2] at hv; cases hv
        · exact p3.elim
      · exact p3.elim
    · exact p3.elim
  · exact p1.elim
def fPairs : List (FE × FE) → AS → AH → Res (List (D × D))
  | [], _, M => .ok [] M
  | (k, v) :: r, δ, M => (k δ M).bind fun x M1 => (v δ M1).bind fun y M2 => (fPairs r δ M2).bind fun ps M3 => .ok ((x, y) :: ps) M3
def keysP : List (D × D) → Option (List (Key × D))
  | [] => some []
  | (k, v) :: r => match keyD k, keysP r with
    | some k, some ps => some ((k, v) :: ps)
    | _, _ => none
/-- {k: v, ..}: the place stands ahead of the pairs, empty -/
def fDisp (ps : List (FE × FE)) : FE := fun δ M => (fPairs ps δ (M ++ [.dct [] []])).bind fun qs M2 => match keysP qs, M2[M.length]? with
  | some kvs, some (.dct [] []) => if kvs.length ≤ 15 then .ok (.ref M.length) (M2.set M.length (.dct (mergeD ([], []) kvs).1 (mergeD ([], []) kvs).2)) else .stuck
  | _, _ => .stuck
inductive LPs (K : PySem.W.Frag) (κ : Kap) (E : EK) : List (TE × TE) → List (FE × FE) → Prop
  | nil : LPs K κ E [] []
  | cons {tk tv : TE} {fk fv : FE} {ts : List (TE × TE)} {fs : List (FE × FE)} : LE K κ E tk fk → LE K κ E tv fv → LPs K κ E ts fs → LPs K κ E ((tk, tv) :: ts) ((fk, fv) :: fs)
def RepP (K : PySem.W.Frag) (κ : Kap) (ι : List Addr) (F : Hp) : List (D × D) → List (V × V) → Prop := Paired fun p q => Rep K κ ι F p.1 q.1 ∧ Rep K κ ι F p.2 q.2
theorem RepP.ext {a : List (D × D)} {b : List (V × V)} (e : Ext ι F H ι' F' H') (h : RepP K κ ι F a b) : RepP K κ ι' F' a b := paired_mono (fun _ _ q => ⟨q.1.ext e, q.2.ext e⟩) h
theorem lps_run {ts : List (TE × TE)} {fs : List (FE × FE)} (h : LPs K κ E ts fs) : ∀ σ δ H M ι F (Q : List (V × V) → Hp → Prop), RelS K κ E ι F H δ σ → RelH K κ ι F H M → Post K κ (RepP K κ) ι F H (fPairs fs δ M) Q (E.E σ) → tPairs ts σ H Q := by
  induction h with
  | nil => exact fun σ δ H M ι F Q hs hh p => p.here hh .nil
  | cons hk hv _ ih =>
    intro σ δ H M ι F Q hs hh p
    refine hk σ δ H M ι F _ hs hh ((Post.bind (R := Rep K κ) p).mono Ext.refl ?_)
    rintro x H1 ⟨d1, M1, ι1, F1, e1, hh1, r1, p1⟩
    refine hv σ δ H1 M1 ι1 F1 _ (hs.ext e1) hh1 ((Post.bind (R := Rep K κ) p1).mono Ext.refl ?_)
    rintro y H2 ⟨d2, M2, ι2, F2, e2, hh2, r2, p2⟩
    refine ih σ δ H2 M2 ι2 F2 _ ((hs.ext e1).ext e2) hh2 ((Post.bind (R := RepP K κ) p2).mono Ext.refl ?_)
    rintro ps H3 ⟨d3, M3, ι3, F3, e3, hh3, r3, p3⟩
    exact p3.here hh3 (.cons ⟨(r1.ext e2).ext e3, r2.ext e3⟩ r3)
theorem keysP_rep : ∀ {qs : List (D × D)} {ps : List (V × V)} {kvs : List (Key × D)}, RepP K κ ι F qs ps → keysP qs = some kvs → ∃ kws : List (Key × V), ps = kws.map (fun kv => (kV kv.1, kv.2)) ∧ Paired (fun (p : Key × D) (q : Key × V) => p.1 = q.1 ∧ Rep K κ ι F p.2 q.2) kvs kws
  | [], _, _, .nil, h => by simp only [keysP] at h; cases h; exact ⟨[], rfl, .nil⟩
  | (k, v) :: r, _, _, .cons a b, h => by
    simp only [keysP] at h
    split at h
    · rename_i k2 ps2 h1 h2
      cases h
      obtain ⟨kws, e, q⟩ := keysP_rep b h2
      have := keyD_rep a.1 h1
      refine ⟨(k2, _) :: kws, ?_, .cons ⟨rfl, a.2⟩ q⟩
      rw [e, List.map_cons, ← this]
    · cases h
theorem le_disp {ts : List (TE × TE)} {fs : List (FE × FE)} (h : LPs K κ E ts fs) : LE K κ E (tDisp ts) (fDisp fs) := fun σ δ H M ι F Q hs hh p => fun q hq => by
  obtain ⟨e1, hh1, h1⟩ := hh.new (o := .dct [] []) (ho := .dK []) hq (RepO.dct (ks := []) (vs := []) rfl .nil)
  refine lps_run h σ δ _ _ _ _ _ (hs.ext e1) hh1 ((Post.bind (R := RepP K κ) (Post.mono e1 p fun _ _ x => x)).mono Ext.refl ?_)
  rintro ps H2 ⟨qs, M2, ι2, F2, e2, hh2, r2, p2⟩
  split at p2
  · rename_i kvs hk hM
    split at p2
    · rename_i hl
      obtain ⟨kws, rfl, pr⟩ := keysP_rep r2 hk
      have ha := pre_get e2.pre h1
      obtain ⟨u, hu, ru⟩ := hh2.at_ ha hM
      have hu0 : u = .dK [] := by
        cases ru with
        | @dct _ _ vs hl ru => rfl
      subst hu0
      obtain ⟨ws, m1, m2, m3⟩ := merge_rep (ks := []) (vs := []) pr rfl .nil
      refine ⟨hu, kws, rfl, ?_, ?_⟩
      · have := Paired.length pr
        omega
      · have em : mergeK [] kws = (mergeD ([], []) kvs).1.zip ws := m1
        rw [em]
        obtain ⟨e3, hh3⟩ := hh2.put (o := .dct (mergeD ([], []) kvs).1 (mergeD ([], []) kvs).2) (ho := .dK ((mergeD ([], []) kvs).1.zip ws)) ha hM rfl (.dct m2 m3)
        exact p2 _ _ _ _ e3 hh3 (.ref ha)
    · exact p2.elim
  · exact p2.elim
end
end G
namespace G
open PySem PySem.Spec PyProof.Rows L2 LamX
def fBM0 (T : String) (g : D → List D → AH → Res D) (o : FE) : FE := fun δ M => (o δ M).bind fun x M1 => if tyM T x M1 then g x [] M1 else .stuck
section
variable {K : PySem.W.Frag} {κ : Kap} {E : EK} {ι ι' : List Addr} {F F' H H' : Hp} {M M' : AH}
theorem le_bm0 {T : String} {r : V → List V → Hp → VK → Prop} {g : D → List D → AH → Res D} {to : TE} {fo : FE} (hr : LRM K κ r g) (h : LE K κ E to fo) : LE K κ E (tBM0 K T r to) (fBM0 T g fo) := fun σ δ H M ι F Q hs hh p => by
  refine h σ δ H M ι F _ hs hh ((Post.bind (R := Rep K κ) p).mono Ext.refl ?_)
  rintro v H1 ⟨d, M1, ι1, F1, e1, hh1, r1, p1⟩
  split at p1
  · rename_i ht
    exact ⟨tyM_rep hh1 r1 ht, hr H1 M1 ι1 F1 d [] v [] Q _ hh1 r1 .nil p1⟩
  · exact p1.elim
theorem pe_ccS {X : Cx} {W : WX} {k : Nat} {ps : List Str} {sp : Sp} {x : Str} {e : Expr} {es : List Expr} {t : TA} {p pos : Pos} (C : CallOk X.prog X.w X.K X.mg X.base x k ps sp) (tk : Takes X W) (hr : Room k X.A) (ha : PA X (e :: es) t) (hg : Gl X x := by rfl)
    (hdb : (x == ("__debug__" : Str)) = false := by decide) (he : starEach (e :: es) X.env = (false, eval e X.env) :: starEach es X.env := by rfl) (hpl : (backTo pos (starEach es X.env)).any (·.1) = false := by rfl) :
    PE X (.Call (.Name x p) (e :: es) [] pos) (tCallS sp (fun σ cls d H => W cls d σ H) t) := by
  obtain ⟨f, fd, hm, hk, hb, F⟩ := C.ex
  exact pe_callS F hr hg hm hk hb (fun σ => passAt tk σ) ha hdb he hpl
end
/-! ### defs that make lambdas: their code objects are known -/
section
variable {P : Program} {w : World} {K : PySem.W.Frag} {mg : Str → Option Value} {base : Heap} {κ : Kap}
def BodyC (P : Program) (w : World) (K : PySem.W.Frag) (mg : Str → Option Value) (base : Heap) (κ : Kap) (k : Nat) (N : List Str) (qual : Str) (st : Stmt) (f c : Addr) (fs : AS → AH → SRes) : Prop :=
  ∀ (A : Around) (outer : List Env) (s : Shared) (H : Hp) (E : XK), Room k (A.deeper (envOfC qual (defScope st) s.heap.objs.size f (.ref c))) →
    ∃ t, PSs (cxOf (L2.CX P w) P w K mg base N qual (defScope st) f (.ref c) A outer s H E) (defBody st) t ∧ LS K κ (EK.of E) t fs
theorem fnDC {x qual : Str} {st : Stmt} {f c : Addr} {N ps : List Str} {k : Nat} {fs : AS → AH → SRes} {dV kV doc pm ct oc : Value} {an od : Option Addr} {osl : Array (Option Value)}
    (lk : K.lookup f = some ⟨oc, od, .func (PySem.W.fnOf x qual (defArgs st) (defBody st) (defScope st) dV kV doc pm an (.ref c) ct), osl⟩) (hcd : PySem.W.codeIn K (.ref c) qual = true) (S : FnScope N ps (defScope st)) (b : BodyC P w K mg base κ k N qual st f c fs) :
    FnOk P w K mg base (L2.CX P w) (k + 1) f (PySem.W.fnOf x qual (defArgs st) (defBody st) (defScope st) dV kV doc pm an (.ref c) ct) ps (conc K κ (fnF N.length ps.length fs)) :=
  fn_of lk hcd S conc_len fun A outer s H vs Q E hr h => by
    obtain ⟨t, d, l⟩ := b A outer s H E hr
    exact ⟨t, d, body_of l h⟩
theorem fnDC2 {x qual : Str} {st : Stmt} {f c : Addr} {N ps : List Str} {k : Nat} {fs : AS → AH → SRes} {dV kV doc pm ct oc : Value} {an od : Option Addr} {osl : Array (Option Value)}
    (lk : K.lookup f = some ⟨oc, od, .func (PySem.W.fnOf x qual (defArgs st) (defBody st) (defScope st) dV kV doc pm an (.ref c) ct), osl⟩) (hcd : PySem.W.codeIn K (.ref c) qual = true) (S : FnScope N ps (defScope st)) (b : BodyC P w K mg base κ k N qual st f c fs) :
    FnOk P w K mg base (L2.CX P w) (k + 1) f (PySem.W.fnOf x qual (defArgs st) (defBody st) (defScope st) dV kV doc pm an (.ref c) ct) ps (conc K κ (fnK N.length ps.length fs)) :=
  fn_of lk hcd S conc_lenK fun A outer s H vs Q E hr h => by
    obtain ⟨t, d, l⟩ := b A outer s H E hr
    exact ⟨t, d, body_ofK l h⟩
/-- no depth is left -/
def fStuck : FD := fun _ _ => .stuck
theorem fn_stuck {f : Addr} {fd : FuncData} {ps : List Str} {k : Nat} : FnOk P w K mg base (L2.CX P w) k f fd ps (conc K κ fStuck) where
  len := fun vs H Q E ⟨_, _, _, _, _, _, p⟩ => p.elim
  run := fun A outer s H args us vs Q E _ _ _ _ ⟨_, _, _, _, _, _, p⟩ => p.elim
/-- what is known of a def that is handed a lambda -/
structure GivOk (K : PySem.W.Frag) (mg : Str → Option Value) (x : Str) (st : Stmt) (a : Str) : Prop where
  ex : ∃ (g : Addr) (oc : Value) (od : Option Addr) (osl : Array (Option Value)) (dV kV doc pm : Value) (an : Option Addr) (cdv ct : Value), mg x = some (.ref g) ∧ PySem.W.keepIn K (.ref g) = true ∧
    K.lookup g = some ⟨oc, od, .func (PySem.W.fnOf x x (defArgs st) (defBody st) (defScope st) dV kV doc pm an cdv ct), osl⟩ ∧ PySem.W.codeIn K cdv x = true ∧ L2.Binds K (PySem.W.fnOf x x (defArgs st) (defBody st) (defScope st) dV kV doc pm an cdv ct) [a] []
/-- x(lambda: body) -/
theorem pe_lamG {X : Cx} {T : List (Addr × Str)} {TT : (XK → Hp → VK → Prop) → Hp → VK → Prop} {x a : Str} {c P : Addr} {k : Nat} {st : Stmt} {Ng : List Str} {params : Arguments} {body : Expr} {scope : Scope} {t : XK → TE} {p lpos pos : Pos} (Gv : GivOk X.K X.mg x st a)
    (Sg : FnScope Ng [a] (defScope st)) (hNg : Ng[0]? = some a) (hva : Vis (defScope st) a) (hG : ∀ g cdg, GivesS X Ng x (defScope st) g cdg (defBody st) a (X.env.qual ++ "<lambda>") (k + 1) TT)
    (TB : TabB X.base X.mg c P) (hcode : X.env.code = .ref c) (hmT : (P, X.env.qual ++ "<lambda>") ∈ T) (hu : ∀ p ∈ T, p.1 = P → p.2 = X.env.qual ++ "<lambda>") (hr : Room (k + 2) X.A) (L : LamS X.env.scope scope)
    (hbind : ∀ (q : Str) (cl : List (Str × Addr)) (pm cv ctv : Value), bindArgs (PySem.W.kla_fn "<lambda>" q params body scope cl pm cv ctv) ⟨[], []⟩ = pure [])
    (hbody : ∀ (A : Around) (outer : List Env) (s : Shared) (H : Hp) (E : XK) (f c' : Addr), Room k (A.deeper (lamEnv X scope s.heap.objs.size f c')) → PE (lamCx X A outer s H E scope f c') body (t E))
    (hg : Gl X x := by rfl) (hdef : defaultsOf params X.env = ([], []) := by rfl) (hdb : (x == ("__debug__" : Str)) = false := by decide) (hd : (a == ("__debug__" : Str)) = false := by decide) (hcd : (a == ("__classdict__" : Str)) = false := by decide) :
    PE X (.Call (.Name x p) [.Lambda params body scope lpos] [] pos) (tLam T TT t) := by
  obtain ⟨g, oc, od, osl, dV, kV, doc, pm, an, cdv, ct, h1, h2, h3, h4, h5⟩ := Gv.ex
  exact pe_lamS h1 h2 h3 h4 h5 Sg hNg hva (hG g cdv) TB hcode hmT hu hr L hbind hbody hg hdef hdb hd hcd
end
/-! ### the beginning -/
theorem start_rel {K : PySem.W.Frag} {κ : Kap} {H : Hp} {a : Addr} {vs : List V} (t : Tabs κ.T H) (h : SqL K H a vs) : ∃ F, RelH K κ [] F H [] ∧ SqL K F a vs := by
  let F : Hp := fun b => if b = a then H a else none
  have hF : ∀ b o, F b = some o → b = a ∧ H a = some o := fun b o z => by
    by_cases e : b = a
    · exact ⟨e, (if_pos e).symm.trans z⟩
    · have := (if_neg e).symm.trans z; cases this
  by_cases hl : ∃ ps, H a = some (.tbl ps)
  · obtain ⟨ps, hl⟩ := hl
    refine ⟨fun _ => none, ⟨(fun _ _ z => by cases z), t, (fun _ _ z => by cases z), rfl, List.nodup_nil, (fun _ z => by cases z), (fun _ _ z => by cases z)⟩, ?_⟩
    rcases h with h | h
    · rcases h with h | ⟨o, h⟩ <;> rw [hl] at h <;> cases h
    · exact .inr h
  · refine ⟨F, ⟨fun b o z => ?_, t, fun b ps z => hl ⟨ps, (hF b _ z).2⟩, rfl, List.nodup_nil, (fun _ z => by cases z), (fun _ _ z => by cases z)⟩, ?_⟩
    · obtain ⟨rfl, q⟩ := hF b o z
      exact .inl q
    · have e : F a = H a := if_pos rfl
      rcases h with h | h
      · rcases h with h | ⟨o, h⟩
        · exact .inl (.inl (e.trans h))
        · exact .inl (.inr ⟨o, e.trans h⟩)
      · exact .inr h
/-- a dict of the module from its object -/
def keyStr (e : DictEntry) : Option Str := match e.key with
  | .str x _ => some x
  | _ => none
theorem isStr_key {e : DictEntry} {z k : Str} (h : keyStr e = some k) : e.key.isStr z = decide (z = k) := by
  unfold keyStr at h
  split at h
  · rename_i x t q
    have e := Option.some.inj h
    subst e
    rw [q]
    show (x == z) = decide (z = x)
    by_cases hz : z = x
    · subst hz; simp
    · rw [decide_eq_false hz]
      exact beq_eq_false_iff_ne.mpr fun q => hz q.symm
  · cases h
theorem refKey_no {e : DictEntry} {k : Str} (h : keyStr e = some k) : e.refKey = false := by
  unfold keyStr at h
  split at h
  · rename_i x t q
    unfold DictEntry.refKey
    rw [q]
  · cases h
theorem kdk_of {K : PySem.W.Frag} {w : World} {d : Addr} {es : Array DictEntry} {n : Nat} {ks : List Str} {vs : List V} (h : K.lookup d = some ⟨.type "dict", none, .dict es n, #[]⟩) (lit : PySem.W.KeysLit w.params es.toList) (low : (d == sysModules) = false)
    (hk : es.toList.map keyStr = ks.map some) (hv : Vals vs (es.toList.map (·.val))) : KDk K w d ks vs := by
  have hl : ks.length = vs.length := by
    have h1 := congrArg List.length hk
    have h2 := hv.length
    simp at h1 h2
    omega
  refine ⟨hl, ⟨es, n, h, lit, low⟩, fun z => ?_⟩
  have nin : PySem.W.nsIn K d z = (match es.toList.find? (·.key.isStr z) with
      | some e => some (some e.val)
      | none => if es.toList.any (·.refKey) then none else some none) := by
    unfold PySem.W.nsIn
    rw [h]
    rfl
  rw [nin]
  have anyF : es.toList.any (·.refKey) = false := by
    clear nin hv lit hl
    revert hk
    generalize es.toList = l
    intro hk
    induction l generalizing ks with
    | nil => rfl
    | cons e l ih =>
      cases ks with
      | nil => cases hk
      | cons k ks =>
        simp only [List.map_cons, List.cons.injEq] at hk
        rw [List.any_cons, refKey_no hk.1, ih hk.2]
        rfl
  rw [anyF]
  clear nin lit anyF h hl
  revert hk hv
  generalize es.toList = l
  intro hk hv
  induction l generalizing ks vs with
  | nil =>
    cases ks with
    | nil => exact ⟨none, rfl, by simp [L2.RelO]⟩
    | cons _ _ => cases hk
  | cons e l ih =>
    cases ks with
    | nil => cases hk
    | cons k ks =>
      simp only [List.map_cons, List.cons.injEq] at hk
      cases hv with
      | @cons v _ vs _ a b =>
        rw [List.find?_cons, isStr_key hk.1]
        by_cases hz : z = k
        · subst hz
          exact ⟨some e.val, by simp, by simp [List.lookup]; exact a⟩
        · have hb : (z == k) = false := beq_eq_false_iff_ne.mpr hz
          obtain ⟨r, h1, h2⟩ := ih hk.2 b
          refine ⟨r, ?_, by simp only [List.zip_cons_cons, List.lookup, hb]; exact h2⟩
          simp only [hz, decide_false]
          exact h1
end G
namespace G
open PySem PySem.Spec PyProof.Rows L2
/-! which raised classes a clause takes -/
def tkOf (l : List (String × Bool)) (c : String) : Option Bool := l.lookup c
inductive TkC (K : PySem.W.Frag) (κ : Kap) (cs : List Value) : List (String × Bool) → Prop
  | nil : TkC K κ cs []
  | cons {r : String} {b : Bool} {l : List (String × Bool)} : PySem.W.exmAny K (.ref (κ r)) cs = some b → TkC K κ cs l → TkC K κ cs ((r, b) :: l)
theorem tkOf_ok {K : PySem.W.Frag} {κ : Kap} {cs : List Value} {l : List (String × Bool)} (h : TkC K κ cs l) (c : String) (b : Bool) (q : tkOf l c = some b) : PySem.W.exmAny K (.ref (κ c)) cs = some b := by
  induction h with
  | nil => cases q
  | @cons r b1 l h1 _ ih =>
    unfold tkOf at q ih
    rw [List.lookup_cons] at q
    split at q
    · rename_i e
      cases q
      rw [beq_iff_eq.mp e]
      exact h1
    · exact ih q
end G
namespace G
open PySem PySem.Spec PyProof.Rows L2
/-! a, b = x, y where the names may be cells; three names -/
section
variable {X : Cx}
theorem ps_parC {i j : Nat} {x y : Str} {a b : Expr} {ta : TA} {px py pt pos : Pos} {kt k2 pt2} (hc : X.calm = true) (hN : X.N.Nodup) (hi : X.N[i]? = some x) (hj : X.N[j]? = some y) (hij : i ≠ j)
    (hx : Loc X.env.scope x) (hy : Loc X.env.scope y) (hf : X.fn x = true) (hf2 : X.fn y = true) (ha : PA X [a, b] ta)
    (hw : swappedStores [.Tuple [.Name x px, .Name y py] kt pt] (.Tuple [a, b] k2 pt2) X.env = pure (some [x, y]))
    (hs : swapsWithSole [.Tuple [.Name x px, .Name y py] kt pt] (.Tuple [a, b] k2 pt2) pos.line X.env = pure false := by rfl) :
    PS X (.Assign [.Tuple [.Name x px, .Name y py] kt pt] (.Tuple [a, b] k2 pt2) pos) (tPar i j ta) := by
  refine ⟨fun pins s σ H D I h => ?_⟩
  rw [exec_Assign_arm]
  refine wpAny_bind (wpAny_standAt ?_)
  rw [hs]
  refine wpAny_bind (wpAny_pure ?_)
  rw [if_neg (by decide)]
  refine wpAny_bind (Tuple_ (thn (ha.run _ pins s σ H _ I h) fun us s1 ⟨vs, H1, I1, r1, q1⟩ => ?_))
  obtain ⟨v, w, e1, q1⟩ := q1
  subst e1
  obtain ⟨u1, u2, rfl, rv, rw'⟩ : ∃ u1 u2, us = [u1, u2] ∧ RelV v u1 ∧ RelV w u2 := by
    cases r1 with
    | cons p q =>
      cases q with
      | cons p' q' =>
        cases q'
        exact ⟨_, _, rfl, p, p'⟩
  refine wpAny_newObj_type ?_ (by show 2 ≤ sizeLine; decide)
  have I2 : Inv X pins σ H1 { s1 with heap := s1.heap.push { cls := .type "tuple", data := .seq [u1, u2].toArray } } := I1.kept (t' := s1.toks) fun b o e => Heap.get?_push_of_some _ e
  rw [hw]
  refine wpAny_bind (wpAny_pure ?_)
  show wpAny (model X.prog X.w) X.A (do rule "assign.swapped-stores"; let items ← unpackItems (.ref s1.heap.objs.size) 2 none; assignInOrder [fun v => bindName X.env y v, fun v => bindName X.env x v] items.reverse; pure Flow.next) _ _ _
  refine wpAny_bind (wpAny_rule (wpAny_bind (unpackItems_tuple (items := #[u1, u2]) (I.ok.hd hc) (IsTup.new s1.heap _) fun h' hx' => ?_)))
  have I3 := I2.kept (h' := h') (t' := s1.toks) fun b o e => hx' b o (Nat.ne_of_lt (Heap.lt_size e)) e
  show wpAny _ _ (assignInOrder [fun v => bindName X.env y v, fun v => bindName X.env x v] [u2, u1] >>= fun _ => pure Flow.next) _ _ _
  refine wpAny_bind (assignInOrder_cons (wpAny_bindName (store_ok I3 hN hj hy rw' (fun s2 I4 => ?_) (.inl hf2))))
  refine assignInOrder_cons (wpAny_bindName (store_ok I4 hN hi hx rv (fun s3 I5 => assignInOrder_nil (wpAny_pure ?_)) (.inl hf)))
  rw [List.set_comm _ _ (Ne.symm hij)] at I5
  exact ⟨_, H1, I5, q1⟩
end
def fPar3 (i j l : Nat) (a : FA) : FS := fun δ M => (a δ M).thenS δ fun ds M1 => match ds with
  | [x, y, z] => .nx (((δ.set i (some x)).set j (some y)).set l (some z)) M1
  | _ => .stuck
section
variable {K : PySem.W.Frag} {κ : Kap} {E : EK}
theorem ls_par3 {i j l : Nat} {t : TA} {f : FA} (hE : E.Free) (h : LA K κ E t f) : LS K κ E (tPar3 i j l t) (fPar3 i j l f) := fun σ δ H M ι F T hs hh p => by
  refine h σ δ H M ι F _ hs hh ((SPost.thenS (R := RepL K κ) hs p).mono Ext.refl ?_)
  rintro vs H1 ⟨ds, M1, ι1, F1, e1, h1, r1, p1⟩
  split at p1
  · cases r1 with
    | cons a b => cases b with
      | cons c d => cases d with
        | cons e f =>
          cases f
          exact ⟨_, _, _, rfl, p1 _ H1 ι1 F1 Ext.refl h1 ((((hs.ext e1).set hE a i).set hE c j).set hE e l)⟩
  · exact p1.elim
end
end G
namespace G
open PySem PySem.Spec PyProof.Rows L2
/-! len(d) -/
def rLenD : List V → Hp → VK → Prop := fun xs H Q => ∃ (p : Addr) (kvs : List (Key × V)), xs = [.ref p] ∧ Rd H p (.dK kvs) ∧ Q (.int ((kvs.length : Nat) : Int)) H
theorem call_lenD {X : Cx} : CallR X (.builtin "len") rLenD := by
  intro pins s σ H xs us Q I r h
  obtain ⟨p, kvs, rfl, hp, q⟩ := h
  obtain ⟨u, rfl, rx⟩ := vals1 r
  obtain rfl : u = .ref p := rx
  exact d_len I hp fun t s' I' => ⟨.int ((kvs.length : Nat) : Int), H, I', ⟨_, rfl⟩, q⟩
def gLenD : List D → AH → Res D := fun xs M => match xs with
  | [x] => (match dctOf x M with
    | some (ks, _) => .ok (.int ks.length) M
    | none => .stuck)
  | _ => .stuck
section
variable {K : PySem.W.Frag} {κ : Kap}
theorem lenDK : LRN K κ rLenD gLenD := fun H M ι F xs vs Q e hh r p => by
  unfold gLenD at p
  split at p
  · cases r with
    | cons a b =>
      cases b
      split at p
      · rename_i hx
        obtain ⟨q, ws, rfl, h1, hl, r1⟩ := dct_at hh a hx
        refine ⟨q, _, rfl, h1, ?_⟩
        rw [List.length_zip, ← hl, Nat.min_self]
        exact p.here hh (.int _)
      · exact p.elim
  · exact p.elim
end
end G
namespace PySem
open Sem (wp)
namespace G
theorem ext_list_tup (l : Addr) (items : Array Value) (n : Nat) (b : Addr) (dd : Option Addr) (sl : Array (Option Value)) (items2 : Array Value) (n2 : Nat) (hs0 : ¬(!items.isEmpty && Builtin.List.listTooLong (items.size + items2.size)) = true) (hs1 : items.size ≤ sizeLine) (hs2 : items.size + items2.size ≤ sizeLine + 1 := by seq_fits) :
    Meets (Builtin.«list.extend» ⟨[.ref l, .ref b], []⟩) (fun _ R s => s.heap.get? l = some { cls := .type "list", dict := none, data := .seq items n, slots := #[] } ∧ s.heap.get? b = some { cls := .type "tuple", dict := dd, data := .seq items2 n2, slots := sl } ∧ R (.ok (.ret Value.none)) { s with heap := s.heap.update l (Obj.mapSeq fun x => x ++ items2), toks := s.toks }) :=
  .of_wp fun prog w A R s h => by
    obtain ⟨hp, g, d, tk, os⟩ := s; obtain ⟨hl, hb, h⟩ := h; have f1 := AutoSeq1.idx_int; have f2 := AutoSeq1.sub_tuple_tuple; have f3 := AutoSeq1.sub_list_list; have f4 := AutoSeq1.sub_tuple_list; have f5 := AutoSeq1.sub_list_tuple;
    have hz' : (items ++ items2).size ≤ sizeLine + 1 := by rw [Array.size_append]; exact hs2
    wp_walk using (wpAny_updateSeq hl rfl (hz := hs1) (_hz' := hz')), wpAny_loadPart' hl, wpAny_loadPart' hb; exact ⟨_, rfl, h⟩
end G
end PySem
namespace G
open PySem PySem.Spec PyProof.Rows L2
/-! xs.extend(t), t a list or a tuple -/
def rExtT (K : PySem.W.Frag) : V → List V → Hp → VK → Prop := fun x vs H Q => ∃ l b xs zs, x = .ref l ∧ vs = [.ref b] ∧ H l = some (.lst xs) ∧ SqT K H b zs ∧ xs.length + zs.length ≤ sizeLine ∧ Q .non (upd H l (.lst (xs ++ zs)))
theorem mt_extT {X : Cx} (K : PySem.W.Frag) (h : X.K = K := by rfl) : MtM X "list.extend" (rExtT K) := by
  subst h
  intro pins s σ H x vs v us Q I rx rv h
  obtain ⟨l, b, xs, zs, rfl, rfl, hH, hB, hz, q⟩ := h
  cases rx
  obtain ⟨u, rfl, ru⟩ := rv.one
  cases ru
  obtain ⟨z, its, n, r, hl, e⟩ := I.lstM hH
  obtain ⟨its2, r2, ⟨o2, e2, c2, n2, d2⟩, z2⟩ := I.tuple hB
  obtain ⟨oc, od, odt, osl⟩ := o2
  cases c2
  cases d2
  have hl2 := r2.length
  have hsz : its.toArray.size + its2.toArray.size ≤ sizeLine := by rw [List.size_toArray, List.size_toArray]; omega
  have hlong : ¬ (!its.toArray.isEmpty && Builtin.List.listTooLong (its.toArray.size + its2.toArray.size)) = true := by
    rw [notLongL hsz, Bool.and_false]
    exact Bool.false_ne_true
  refine call_meets F.slot_list_extend ⟨_, e, rfl⟩ F.entry_list_extend (F.args_list_extend_2 _ _)
    (PySem.G.ext_list_tup l its.toArray n b od osl its2.toArray n2 hlong (by rw [List.size_toArray]; omega) (by omega)) ⟨e, e2, ?_⟩
  refine ⟨.non, _, I.lset (its' := its ++ its2) hH e (by simp) (r.append r2) ?_, rfl, q⟩
  rw [List.length_append]
  omega
def mExtT : D → List D → AH → Res D := fun x xs M => match x, xs with
  | .ref l, [d] => (match M[l]? with
    | some (.lst ys) => (match tupOf d with
      | some zs => if ys.length + zs.length ≤ sizeLine then .ok .non (M.set l (.lst (ys ++ zs))) else .stuck
      | none => .stuck)
    | _ => .stuck)
  | _, _ => .stuck
section
variable {K : PySem.W.Frag} {κ : Kap}
theorem extTK : LRM K κ (rExtT K) mExtT := fun H M ι F x xs v vs Q e hh rx r p => by
  unfold mExtT at p
  split at p
  · split at p
    · rename_i ys q
      split at p
      · rename_i zs hz
        split at p
        · rename_i hl
          obtain ⟨a, u, rfl, h1, h2, h3⟩ := relH_ref hh rx q
          cases r with
          | cons ra rb =>
            cases rb
            cases h3 with
            | @lst _ ws h3 =>
              obtain ⟨b, us, rfl, h4, h5⟩ := tup_at hh ra hz
              obtain ⟨e2, hh2⟩ := hh.put (o := .lst (ys ++ zs)) (ho := .lst (ws ++ us)) h1 q rfl (.lst (h3.append h5))
              exact ⟨a, b, ws, us, rfl, rfl, h2, h4, by rw [← h3.len, ← h5.len]; exact hl, p _ _ _ _ e2 hh2 .non⟩
        · exact p.elim
      · exact p.elim
    · exact p.elim
  · exact p.elim
end
end G
namespace G
open PySem PySem.Spec PyProof.Rows L2
/-! text * int -/
def gMulS : D → D → AH → Res D := fun x y M => match x, y with
  | .str z, .int k => if -(1000 : Int) ≤ k ∧ k ≤ 1000 ∧ z.length * k.toNat ≤ 600 ∧ z.length ≤ 600 then .ok (.str (Txt.mul z k)) M else .stuck
  | _, _ => .stuck
def rMulS : R2 := fun x y H Q => ∃ z k, x = .str z ∧ y = .int k ∧ -(1000 : Int) ≤ k ∧ k ≤ 1000 ∧ z.length * k.toNat ≤ 600 ∧ z.length ≤ 600 ∧ Q (.str (Txt.mul z k)) H
theorem mulOk_of {z : Str} {k : Int} (h1 : -(1000 : Int) ≤ k) (h2 : k ≤ 1000) (h3 : z.length * k.toNat ≤ 600) (h4 : z.length ≤ 600) : MulOk z k := by
  refine ⟨?_, fun h5 _ => ?_, fun h5 _ => ?_⟩
  · rw [decide_eq_false (by omega), decide_eq_false (by omega)]; rfl
  · have : (1000 : Int) ≤ (2 ^ 63 - 1) / k := by
      rw [Int.le_ediv_iff_mul_le (by omega)]
      omega
    omega
  · exact decide_eq_false (by have := size600 h3; omega)
theorem op_mulS {X : Cx} : OpR X (binaryOp .Mult) rMulS := by
  intro pins s σ H x y v u Q I rx ry h
  obtain ⟨z, k, rfl, rfl, h1, h2, h3, h4, q⟩ := h
  obtain ⟨t, rfl⟩ := rx
  obtain ⟨t2, rfl⟩ := ry
  exact SB.mul (mulOk_of h1 h2 h3 h4) fun t' n => ⟨.str (Txt.mul z k), H, I.kept (t' := n) fun b o e => e, ⟨_, rfl⟩, q⟩
section
variable {K : PySem.W.Frag} {κ : Kap}
theorem mulSK : LR2 K κ rMulS gMulS := fun H M ι F x y v w Q e hh rx ry p => by
  unfold gMulS at p
  split at p
  · split at p
    · rename_i hc
      cases rx
      cases ry
      exact ⟨_, _, rfl, rfl, hc.1, hc.2.1, hc.2.2.1, hc.2.2.2, p.here hh (.str _)⟩
    · exact p.elim
  · exact p.elim
end
end G
namespace G
open PySem PySem.Spec PyProof.Rows L2
/-! max(o.values(), default=j), a dict with int values -/
def tMaxVD (j : Int) (td : TE) : TE := fun σ H Q => td σ H fun x H1 => ∃ a kvs ns, x = V.ref a ∧ Rd H1 a (.dK kvs) ∧ kvs.map (·.2) = ns.map V.int ∧ Q (.int (if ns = [] then j else maxL ns)) H1
theorem getD_int {vs : List (Key × Value)} {kvs : List (Key × V)} {ns : List Int} (rel : KV kvs vs) (hv : kvs.map (·.2) = ns.map V.int) (i : Nat) (u : Value) (h : ∃ k, vs[i]? = some (k, u)) : ∃ t, u = Value.int (ns.getD i 0) t := by
  obtain ⟨k, hk⟩ := h
  obtain ⟨x, h1, h2⟩ := KV.at' rel hk
  have h3 : (kvs.map (·.2))[i]? = some x := by simp [h1]
  rw [hv, List.getElem?_map] at h3
  obtain ⟨m, h4, rfl⟩ := Option.map_eq_some_iff.mp h3
  obtain ⟨t, rfl⟩ := h2
  exact ⟨t, by simp [h4]⟩
variable {X : Cx} {o : Expr} {p pos apos mpos kp cp : Pos} {td : TE} {j : Int} {cj : Nat}
theorem pe_maxVD (hc : X.calm = true) (hg : Gl X "max") (hm : X.mg "max" = none) (hd : PE X o td) (hbase : attributeBase o "values" X.env (eval o X.env) = eval o X.env := by rfl) (hline : (apos.endLine == mpos.line) = true := by rfl)
    (hse : backTo pos (starEach [Expr.Call (.Attribute o "values" apos) [] [] mpos] X.env) = [(false, eval (Expr.Call (.Attribute o "values" apos) [] [] mpos) X.env)] := by rfl) :
    PE X (.Call (.Name "max" p) [.Call (.Attribute o "values" apos) [] [] mpos] [⟨some "default", .Constant (.int j) cj cp, kp⟩] pos) (tMaxVD j td) := by
  refine ⟨fun pins s σ H Q I h => ?_⟩
  refine wpAny_Call_Name_kw (ld_blt I hg hm (u := .builtin "max") (by first | rfl | decide +kernel) ?_ (by decide) (by decide))
  refine PyProof.Rows.callWith_kw (rest := []) ?_
  rw [hse]
  refine Calls.spliced_cons (wpAny_Call_method0_late hbase hline (thn (hd.run pins s σ H _ I h) fun u0 s1 got => ?_))
  obtain ⟨x, H1, I1, r1, a, kvs, ns, ex, ha, hv, q⟩ := got
  subst ex
  obtain rfl : u0 = Value.ref a := r1
  obtain ⟨_, nosys, vs, rel, dof⟩ := dk_rd I1.hok ha
  obtain ⟨ep, dat⟩ := dof.dictAt
  have was := dat
  obtain ⟨ob, es, ho, exx, hdat, _⟩ := was
  refine ⟨"dict", "dict.values", F.plainAttrs_dict, F.slot_dict_values, F.type_dict_values, ⟨ob, ho, exx.1⟩, (fun b e => by cases e; exact ⟨ob, ho, exx.2.1⟩), Calls.callWith_builtin rfl (PySem.evalArgs_none ?_)⟩
  refine call_meetsIn F.slot_dict_values ⟨ob, ho, exx.1⟩ F.entry_dict_values (F.args_dict_values_1 _) (meets_dict_values (mixKind X.prog X.w) a nosys) ⟨⟨vs, dof⟩, ?_⟩
  refine Calls.spliced_nil ?_
  refine PyProof.Rows.kws_cons (wpAny_Constant_int ?_)
  refine PyProof.Rows.kws_nil ?_
  let h2 : Heap := s1.heap.push { cls := .type "dict_values", data := .fields #[.ref a] }
  have keep2 : ∀ b z, s1.heap.get? b = some z → h2.get? b = some z := fun b z e => Heap.get?_push_of_some _ e
  have size2 : h2.objs.size = s1.heap.objs.size + 1 := Heap.size_push _ _
  have below : a < s1.heap.objs.size := Heap.lt_size ho
  have dat2 : h2.DictAt (mixKind X.prog X.w) a vs ep := dat.keep keep2
  have same : vs.length = ns.length := by
    have e1 := congrArg List.length hv
    simp only [List.length_map] at e1
    have e2 : kvs.length = vs.length := KV.length rel
    omega
  have allInt := getD_int rel hv
  refine call_max_walkD (wpAny_pyIter_values (v := s1.heap.objs.size) (d := a) ⟨_, Heap.get?_push_size _ rfl, rfl, rfl⟩ dat2 ?_)
  have W := (Walks.dictValues (prog := X.prog) (w := X.w) (knd := mixKind X.prog X.w) (A := X.A.in1) (I.ok.hd hc) h2.objs.size a (Nat.ne_of_lt (by rw [size2]; exact Nat.lt_succ_of_lt below)) vs ep).toS
  refine ⟨_, _, _, _, _, _, _, h2, (fun i k => decide (ns.getD i 0 > ns.getD k 0)), rfl, W, ⟨⟨_, Heap.get?_push_size _ rfl, rfl, rfl⟩, dat2.keep fun b z e => Heap.get?_push_of_some _ e⟩, ?_, ?_, (fun b z e => Heap.get?_push_of_some _ e), ?_, ?_⟩
  · intro b hb
    show b < (h2.push _).objs.size
    rw [Heap.size_push, size2]
    rcases List.mem_cons.mp hb with e | e
    · rw [e, size2]; exact Nat.lt_succ_self _
    · rw [List.mem_singleton.mp e]; exact Nat.lt_succ_of_lt (Nat.lt_succ_of_lt below)
  · intro b z e hb
    have e1 := List.mem_singleton.mp hb
    have e2 := Heap.lt_size e
    rw [e1] at e2
    exact absurd e2 (Nat.lt_irrefl _)
  · intro hz s' m
    have e0 : ns = [] := List.eq_nil_of_length_eq_zero (same.symm.trans hz)
    rw [if_pos e0] at q
    rw [m.eq_with]
    exact ⟨.int j, H1, I1.kept (t' := s'.toks) (fun b z e => m.heap b z (fun hb => by
      have e1 := List.mem_singleton.mp hb
      have e2 := Heap.lt_size e
      rw [e1, size2] at e2
      exact absurd e2 (Nat.not_lt.mpr (Nat.le_succ _))) (Heap.get?_push_of_some _ (keep2 b z e))), ⟨_, rfl⟩, q⟩
  · intro hp
    refine ⟨fun i k vi vk s Q E _ hi hk hQ => CmpOf.ints_gt (fun i => ns.getD i 0) allInt i k vi vk s Q E hi hk hQ, fun v s' hP m => ?_⟩
    obtain ⟨t, rfl⟩ := allInt _ v hP
    obtain ⟨b1, b2⟩ := argBest_gt (fun i => ns.getD i 0) (vs.length - 1)
    have b1 : argBest (fun i k => decide (ns.getD i 0 > ns.getD k 0)) (vs.length - 1) ≤ vs.length - 1 := b1
    have b2 : ∀ j, j ≤ vs.length - 1 → ns.getD j 0 ≤ ns.getD (argBest (fun i k => decide (ns.getD i 0 > ns.getD k 0)) (vs.length - 1)) 0 := b2
    have hne : ns ≠ [] := fun z => by rw [z] at same; rw [same] at hp; exact absurd hp (Nat.lt_irrefl _)
    have hlt : argBest (fun i k => decide (ns.getD i 0 > ns.getD k 0)) (vs.length - 1) < ns.length := Nat.lt_of_le_of_lt b1 (by rw [← same]; exact Nat.sub_lt hp Nat.one_pos)
    have hmax : ns.getD (argBest (fun i k => decide (ns.getD i 0 > ns.getD k 0)) (vs.length - 1)) 0 = maxL ns := by
      obtain ⟨k1, k2⟩ := maxL_is ns hne
      obtain ⟨i, hi, e⟩ := List.mem_iff_getElem.mp k1
      have e2 : ns.getD i 0 = maxL ns := by rw [← e]; simp [hi]
      have h1 := b2 i (Nat.le_sub_one_of_lt (by rw [same]; exact hi))
      have h3 : ns.getD (argBest (fun i k => decide (ns.getD i 0 > ns.getD k 0)) (vs.length - 1)) 0 ∈ ns := by
        rw [List.getD_eq_getElem?_getD, List.getElem?_eq_getElem hlt]
        exact List.getElem_mem hlt
      have h4 := k2 _ h3
      simp only [e2] at h1
      omega
    rw [if_neg hne] at q
    rw [m.eq_with]
    exact ⟨.int (maxL ns), H1, I1.kept (t' := s'.toks) (fun b z e => m.heap b z (fun hb => by
      have e1 := List.mem_singleton.mp hb
      have e2 := Heap.lt_size e
      rw [e1, size2] at e2
      exact absurd e2 (Nat.not_lt.mpr (Nat.le_succ _))) (Heap.get?_push_of_some _ (keep2 b z e))), ⟨t, by rw [hmax]⟩, q⟩
end G
namespace G
open PySem PySem.Spec PyProof.Rows L2
def fMaxVD (j : Int) (o : FE) : FE := fun δ M => (o δ M).bind fun x M1 => match dctOf x M1 with
  | some (_, ys) => (match intsOf ys with
    | some ns => .ok (.int (if ns = [] then j else maxL ns)) M1
    | none => .stuck)
  | none => .stuck
theorem zip_snd {α β : Type} : ∀ {a : List α} {b : List β}, a.length = b.length → (a.zip b).map (·.2) = b
  | [], [], _ => rfl
  | [], _ :: _, h => by cases h
  | _ :: _, [], h => by cases h
  | x :: a, y :: b, h => by simp [zip_snd (a := a) (b := b) (by simpa using h)]
theorem le_maxVD {K : PySem.W.Frag} {κ : Kap} {E : EK} {j : Int} {to : TE} {fo : FE} (h : LE K κ E to fo) : LE K κ E (tMaxVD j to) (fMaxVD j fo) := fun σ δ H M ι F Q hs hh p => by
  refine h σ δ H M ι F _ hs hh ((Post.bind (R := Rep K κ) p).mono Ext.refl ?_)
  rintro v H1 ⟨d, M1, ι1, F1, e1, hh1, r1, p1⟩
  split at p1
  · rename_i ks ys hd
    split at p1
    · rename_i ns hn
      obtain ⟨a, vs, rfl, ha, hl, r⟩ := dct_at hh1 r1 hd
      exact ⟨a, _, ns, rfl, ha, by rw [zip_snd hl, ints_rep r hn], p1.here hh1 (.int _)⟩
    · exact p1.elim
  · exact p1.elim
end G
namespace K01
open PySem PySem.Spec PyProof.Rows L2 G
def F_is_between : FD := fnF 3 3 (
    (fSeq (fRet (fAndV (fCB gIsi (fCons (fVar 0) (fCons (fC (.ty "int")) fNil))) (fAndV (fNotV (fCB gIsi (fCons (fVar 0) (fCons (fC (.ty "bool")) fNil)))) (fChain gLe gLe (fVar 1) (fVar 0) (fVar 2))))) fNext))
def F_is_short_name : FD := fnF 2 2 (
    (fSeq (fIfS (fOr (fNot (fTru (fCB gIsi (fCons (fVar 0) (fCons (fC (.ty "str")) fNil))))) (fNot (fTest (fChain gLe gLe (fC (.int 1)) (fCB gLen (fCons (fVar 0) fNil)) (fVar 1))))) (fSeq (fRet (fC (.bl false))) fNext) fNext)
    (fSeq (fRet (fAndV (fM0 (mAsk Txt.isascii) (fVar 0)) (fAndV (fM0 (mAsk Txt.isalnum) (fVar 0)) (fAndV (fM0 (mAsk Txt.islower) (fVar 0)) (fM0 (mAsk Txt.isalpha) (fOp gIxS (fVar 0) (fC (.int 0)))))))) fNext)))
def F_is_kind : FD := fnF 1 1 (
    (fSeq (fRet (fAndV (fCall F_is_short_name (fCons (fVar 0) (fCons (fC (.int 8)) fNil))) (fOp gNe (fVar 0) (fC (.str (Str.ofString "nothing")))))) fNext))
def L__are_pairs_1 : FS := (fSeq (fIfS (fOr (fNot (fTru (fCB gIsi (fCons (fVar 2) (fCons (fC (.ty "tuple")) fNil))))) (fTest (fOp gNe (fCB gLen (fCons (fVar 2) fNil)) (fC (.int 2))))) (fSeq (fRet (fC (.bl false))) fNext) fNext)
    (fSeq (fAsg (fVar 2) (fgTup 2 (fgCons (fgName 3) (fgCons (fgName 4) fgNil))))
    (fSeq (fIfS (fOr (fNot (fTru (fCall F_is_kind (fCons (fVar 3) fNil)))) (fOr (fNot (fTest (fOp gLt (fVar 1) (fVar 3)))) (fNot (fTru (fCall F_is_between (fCons (fVar 4) (fCons (fC (.int 1)) (fCons (fC (.int 1000000)) fNil)))))))) (fSeq (fRet (fC (.bl false))) fNext) fNext)
    (fSeq (fAsg (fVar 3) (fgName 1)) fNext))))
def F__are_pairs : FD := fnF 5 1 (
    (fSeq (fIfS (fOr (fNot (fTru (fCB gIsi (fCons (fVar 0) (fCons (fC (.ty "tuple")) fNil))))) (fTest (fOp gGt (fCB gLen (fCons (fVar 0) fNil)) (fC (.int 60))))) (fSeq (fRet (fC (.bl false))) fNext) fNext)
    (fSeq (fAsg (fC (.str (Str.ofString ""))) (fgName 1))
    (fSeq (fFor (fiTup (fVar 0)) (fgName 2) L__are_pairs_1)
    (fSeq (fRet (fC (.bl true))) fNext)))))
def F_Amounts___init__ : FD := fnK 2 2 (
    (fSeq (fIfS (fAnd (fTest (fOp gNe (fVar 1) (fTup fNil))) (fNot (fTru (fCall F__are_pairs (fCons (fVar 1) fNil))))) (fSeq fNever fNext) fNext)
    (fSeq (fsFld "Amounts" "_pairs" (fVar 0) (fVar 1))
    (fSeq (fsFld "Amounts" "_numbers" (fVar 0) (fCB gDict (fCons (fVar 1) fNil))) fNext))))
def F__lacking : FD := fnF 5 2 (
    (fSeq (fAsg (fLc (fiTup (fFld "Amounts" "_pairs" (fVar 1))) (fgTup 2 (fgCons (fgName 3) (fgCons (fgName 4) fgNil))) fYes (fTup (fCons (fVar 3) (fCons (fOp gSubI (fVar 4) (fDGet2 (fFld "Amounts" "_numbers" (fVar 0)) (fVar 3) (fC (.int 0)))) fNil))) [3, 4]) (fgName 2))
    (fSeq (fRet (fCB gTuple (fCons (fLc (fiList (fVar 2)) (fgTup 2 (fgCons (fgName 3) (fgCons (fgName 4) fgNil))) (fTest (fOp gGt (fVar 4) (fC (.int 0)))) (fTup (fCons (fVar 3) (fCons (fVar 4) fNil))) [3, 4]) fNil))) fNext)))
def F_check_amounts : FD := fnF 1 1 (
    (fSeq (fIfS (fNot (fTru (fCB (gIsiX ["Amounts"]) (fCons (fVar 0) (fCons (fC (.cls "Amounts")) fNil))))) (fSeq fNever fNext) fNext) fNext))
def F_Amounts_covers : FD := fnF 2 2 (
    (fSeq (fDrop (fCall F_check_amounts (fCons (fVar 1) fNil)))
    (fSeq (fRet (fNotW (fCall F__lacking (fCons (fVar 0) (fCons (fVar 1) fNil))))) fNext)))
def F_Amounts___bool__ : FD := fnF 1 1 (
    (fSeq (fRet (fCB gBool (fCons (fFld "Amounts" "_pairs" (fVar 0)) fNil))) fNext))
def F_Amounts___eq__ : FD := fnF 2 2 (
    (fSeq (fRet (fAndV (fCB (gIsiX ["Amounts"]) (fCons (fVar 1) (fCons (fC (.cls "Amounts")) fNil))) (fOp gEq (fFld "Amounts" "_pairs" (fVar 0)) (fFld "Amounts" "_pairs" (fVar 1))))) fNext))
def F__pairs_of : FD := fnF 2 1 (
    (fSeq (fRet (fCB gTuple (fCons (fLc (fiList (fCB gSortD (fCons (fVar 0) fNil))) (fgName 1) fYes (fTup (fCons (fVar 1) (fCons (fDGet (fVar 0) (fVar 1)) fNil))) [1]) fNil))) fNext))
def F_Amounts_pairs : FD := fnF 1 1 (
    (fSeq (fRet (fFld "Amounts" "_pairs" (fVar 0))) fNext))
def L_Amounts_cover_of_1 : FS := (fSeq (fDPut (fVar 2) (fVar 4) (fCB gMax (fCons (fVar 5) (fCons (fDGet2 (fVar 2) (fVar 4) (fC (.int 0))) fNil)))) fNext)
def L_Amounts_cover_of_2 : FS := (fSeq (fDrop (fCall F_check_amounts (fCons (fVar 3) fNil)))
    (fSeq (fFor (fiTup (fPropN "Amounts" F_Amounts_pairs (fVar 3))) (fgTup 2 (fgCons (fgName 4) (fgCons (fgName 5) fgNil))) L_Amounts_cover_of_1) fNext))
def F_Amounts_cover_of : FD := fnF 6 2 (
    (fSeq (fAsg fDNew (fgName 2))
    (fSeq (fFor (fiTup (fVar 1)) (fgName 3) L_Amounts_cover_of_2)
    (fSeq (fRet (fMkV "Amounts" 0 F_Amounts___init__ [] (fCons (fCall F__pairs_of (fCons (fVar 2) fNil)) fNil))) fNext))))
def F_Amounts_lacks : FD := fnF 2 2 (
    (fSeq (fDrop (fCall F_check_amounts (fCons (fVar 1) fNil)))
    (fSeq (fRet (fMk "Amounts" F_Amounts___init__ [] (fCons (fCall F__lacking (fCons (fVar 0) (fCons (fVar 1) fNil))) fNil))) fNext)))
def F_sure_amounts : FD := fnF 2 1 (
    (fSeq (fAsg (fMkM "Amounts" F_Amounts___init__ [.tup []] fNil) (fgName 1))
    (fSeq (fsFld "Amounts" "_pairs" (fVar 1) (fVar 0))
    (fSeq (fsFld "Amounts" "_numbers" (fVar 1) (fCB gDict (fCons (fVar 0) fNil)))
    (fSeq (fRet (fVar 1)) fNext)))))
def L_Amounts___add___1 : FS := (fSeq (fDPut (fVar 2) (fVar 3) (fOp gAdd (fDGet2 (fVar 2) (fVar 3) (fC (.int 0))) (fVar 4))) fNext)
def F_Amounts___add__ : FD := fnF 5 2 (
    (fSeq (fIfS (fNot (fTru (fCB (gIsiX ["Amounts"]) (fCons (fVar 1) (fCons (fC (.cls "Amounts")) fNil))))) (fSeq fNever fNext) fNext)
    (fSeq (fAsg (fCB gDict (fCons (fFld "Amounts" "_numbers" (fVar 0)) fNil)) (fgName 2))
    (fSeq (fFor (fiTup (fFld "Amounts" "_pairs" (fVar 1))) (fgTup 2 (fgCons (fgName 3) (fgCons (fgName 4) fgNil))) L_Amounts___add___1)
    (fSeq (fIfS (fOr (fTest (fOp gGt (fCB gLenD (fCons (fVar 2) fNil)) (fC (.int 60)))) (fTest (fOp gGt (fMaxVD 0 (fVar 2)) (fC (.int 1000000))))) (fSeq fNever fNext) fNext)
    (fSeq (fRet (fCall F_sure_amounts (fCons (fCall F__pairs_of (fCons (fVar 2) fNil)) fNil))) fNext))))))
def F__law_covers_right : FD := fnF 4 3 (
    (fSeq (fAsg (fCMeth "Amounts" (fStar 1 F_Amounts_cover_of) (fC (.cls "Amounts")) (fCons (fVar 0) (fCons (fVar 1) fNil))) (fgName 3))
    (fSeq (fIfS (fOr (fNot (fTru (fMeth "Amounts" "covers" F_Amounts_covers (fVar 3) (fCons (fVar 0) fNil)))) (fOr (fNot (fTru (fMeth "Amounts" "covers" F_Amounts_covers (fVar 3) (fCons (fVar 1) fNil)))) (fTest (fOp (gOwnNe "Amounts" F_Amounts___eq__) (fVar 3) (fCMeth "Amounts" (fStar 1 F_Amounts_cover_of) (fC (.cls "Amounts")) (fCons (fVar 1) (fCons (fVar 0) (fCons (fVar 0) fNil)))))))) (fSeq (fRet (fC (.bl false))) fNext) fNext)
    (fSeq (fIfS (fTest (fOp (gOwnNe "Amounts" F_Amounts___eq__) (fCMeth "Amounts" (fStar 1 F_Amounts_cover_of) (fC (.cls "Amounts")) (fCons (fVar 3) (fCons (fVar 2) fNil))) (fCMeth "Amounts" (fStar 1 F_Amounts_cover_of) (fC (.cls "Amounts")) (fCons (fVar 0) (fCons (fVar 1) (fCons (fVar 2) fNil)))))) (fSeq (fRet (fC (.bl false))) fNext) fNext)
    (fSeq (fIfS (fTest (fOp gNe (fMeth "Amounts" "covers" F_Amounts_covers (fVar 2) (fCons (fVar 3) fNil)) (fAndV (fMeth "Amounts" "covers" F_Amounts_covers (fVar 2) (fCons (fVar 0) fNil)) (fMeth "Amounts" "covers" F_Amounts_covers (fVar 2) (fCons (fVar 1) fNil))))) (fSeq (fRet (fC (.bl false))) fNext) fNext)
    (fSeq (fIfS (fOr (fTest (fOp (gOwnNe "Amounts" F_Amounts___eq__) (fOp (gOwn "Amounts" F_Amounts___add__) (fVar 0) (fMeth "Amounts" "lacks" F_Amounts_lacks (fVar 0) (fCons (fVar 1) fNil))) (fVar 3))) (fTest (fOp (gOwnNe "Amounts" F_Amounts___eq__) (fOp (gOwn "Amounts" F_Amounts___add__) (fVar 1) (fMeth "Amounts" "lacks" F_Amounts_lacks (fVar 1) (fCons (fVar 0) fNil))) (fVar 3)))) (fSeq (fRet (fC (.bl false))) fNext) fNext)
    (fSeq (fIfS (fAnd (fTru (fMeth "Amounts" "covers" F_Amounts_covers (fVar 0) (fCons (fVar 1) fNil))) (fAnd (fTru (fMeth "Amounts" "covers" F_Amounts_covers (fVar 1) (fCons (fVar 2) fNil))) (fNot (fTru (fMeth "Amounts" "covers" F_Amounts_covers (fVar 0) (fCons (fVar 2) fNil)))))) (fSeq (fRet (fC (.bl false))) fNext) fNext)
    (fSeq (fRet (fAndV (fOp gEq (fAndV (fMeth "Amounts" "covers" F_Amounts_covers (fVar 0) (fCons (fVar 1) fNil)) (fMeth "Amounts" "covers" F_Amounts_covers (fVar 1) (fCons (fVar 0) fNil))) (fOp (gOwn "Amounts" F_Amounts___eq__) (fVar 0) (fVar 1))) (fMeth "Amounts" "covers" F_Amounts_covers (fVar 0) (fCons (fMk "Amounts" F_Amounts___init__ [.tup []] fNil) fNil)))) fNext))))))))
def F_is_whole : FD := fnF 1 1 (
    (fSeq (fRet (fAndV (fCB gIsi (fCons (fVar 0) (fCons (fC (.ty "int")) fNil))) (fAndV (fNotV (fCB gIsi (fCons (fVar 0) (fCons (fC (.ty "bool")) fNil)))) (fOp gLt (fCB gAbs (fCons (fVar 0) fNil)) (fC (.int 1000000000000000000000000000000000000000000000000000000000000)))))) fNext))
def F_Amounts___mul__ : FD := fnF 4 2 (
    (fSeq (fIfS (fNot (fTru (fCall F_is_whole (fCons (fVar 1) fNil)))) (fSeq fNever fNext) fNext)
    (fSeq (fIfS (fTest (fOp gLt (fVar 1) (fC (.int 0)))) (fSeq fNever fNext) fNext)
    (fSeq (fRet (fMk "Amounts" F_Amounts___init__ [] (fCons (fCB gTuple (fCons (fLc (fiTup (fFld "Amounts" "_pairs" (fVar 0))) (fgTup 2 (fgCons (fgName 2) (fgCons (fgName 3) fgNil))) (fTest (fOp gGt (fVar 1) (fC (.int 0)))) (fTup (fCons (fVar 2) (fCons (fOp gMul (fVar 3) (fVar 1)) fNil))) [2, 3]) fNil)) fNil))) fNext))))
def F_Amounts___sub__ : FD := fnF 6 2 (
    (fSeq (fIfS (fNot (fTru (fCB (gIsiX ["Amounts"]) (fCons (fVar 1) (fCons (fC (.cls "Amounts")) fNil))))) (fSeq fNever fNext) fNext)
    (fSeq (fAsg (fCall F__lacking (fCons (fVar 0) (fCons (fVar 1) fNil))) (fgName 2))
    (fSeq (fIfS (fTru (fVar 2)) (fSeq fNever fNext) fNext)
    (fSeq (fAsg (fLc (fiTup (fFld "Amounts" "_pairs" (fVar 0))) (fgTup 2 (fgCons (fgName 4) (fgCons (fgName 5) fgNil))) fYes (fTup (fCons (fVar 4) (fCons (fOp gSubI (fVar 5) (fDGet2 (fFld "Amounts" "_numbers" (fVar 1)) (fVar 4) (fC (.int 0)))) fNil))) [4, 5]) (fgName 3))
    (fSeq (fRet (fMk "Amounts" F_Amounts___init__ [] (fCons (fCB gTuple (fCons (fLc (fiList (fVar 3)) (fgTup 2 (fgCons (fgName 4) (fgCons (fgName 5) fgNil))) (fTest (fOp gGt (fVar 5) (fC (.int 0)))) (fTup (fCons (fVar 4) (fCons (fVar 5) fNil))) [4, 5]) fNil)) fNil))) fNext))))))
def F__law_sums_right : FD := fnF 4 3 (
    (fSeq (fIfS (fOr (fTest (fOp (gOwnNe "Amounts" F_Amounts___eq__) (fOp (gOwn "Amounts" F_Amounts___add__) (fVar 0) (fVar 1)) (fOp (gOwn "Amounts" F_Amounts___add__) (fVar 1) (fVar 0)))) (fTest (fOp (gOwnNe "Amounts" F_Amounts___eq__) (fOp (gOwn "Amounts" F_Amounts___add__) (fOp (gOwn "Amounts" F_Amounts___add__) (fVar 0) (fVar 1)) (fVar 2)) (fOp (gOwn "Amounts" F_Amounts___add__) (fVar 0) (fOp (gOwn "Amounts" F_Amounts___add__) (fVar 1) (fVar 2)))))) (fSeq (fRet (fC (.bl false))) fNext) fNext)
    (fSeq (fIfS (fOr (fTest (fOp (gOwnNe "Amounts" F_Amounts___eq__) (fOp (gOwn "Amounts" F_Amounts___add__) (fVar 0) (fMk "Amounts" F_Amounts___init__ [.tup []] fNil)) (fVar 0))) (fOr (fTest (fOp (gOwnNe "Amounts" F_Amounts___eq__) (fOp (gOwn "Amounts" F_Amounts___sub__) (fOp (gOwn "Amounts" F_Amounts___add__) (fVar 0) (fVar 1)) (fVar 1)) (fVar 0))) (fTest (fOp (gOwnNe "Amounts" F_Amounts___eq__) (fOp (gOwn "Amounts" F_Amounts___sub__) (fVar 0) (fVar 0)) (fMk "Amounts" F_Amounts___init__ [.tup []] fNil))))) (fSeq (fRet (fC (.bl false))) fNext) fNext)
    (fSeq (fAsg (fOp (gOwn "Amounts" F_Amounts___add__) (fOp (gOwnI "Amounts" F_Amounts___mul__) (fVar 0) (fC (.int 2))) (fOp (gOwnI "Amounts" F_Amounts___mul__) (fVar 1) (fC (.int 2)))) (fgName 3))
    (fSeq (fRet (fAndV (fOp (gOwn "Amounts" F_Amounts___eq__) (fOp (gOwnI "Amounts" F_Amounts___mul__) (fOp (gOwn "Amounts" F_Amounts___add__) (fVar 0) (fVar 1)) (fC (.int 2))) (fVar 3)) (fAndV (fOp (gOwn "Amounts" F_Amounts___eq__) (fOp (gOwnI "Amounts" F_Amounts___mul__) (fVar 0) (fC (.int 3))) (fOp (gOwn "Amounts" F_Amounts___add__) (fOp (gOwn "Amounts" F_Amounts___add__) (fVar 0) (fVar 0)) (fVar 0))) (fAndV (fOp (gOwn "Amounts" F_Amounts___eq__) (fOp (gOwnI "Amounts" F_Amounts___mul__) (fVar 0) (fC (.int 1))) (fVar 0)) (fOp (gOwn "Amounts" F_Amounts___eq__) (fOp (gOwnI "Amounts" F_Amounts___mul__) (fVar 0) (fC (.int 0))) (fMk "Amounts" F_Amounts___init__ [.tup []] fNil)))))) fNext)))))
def F_Amounts_times : FD := fnF 4 2 (
    (fSeq (fDrop (fCall F_check_amounts (fCons (fVar 1) fNil)))
    (fSeq (fIfS (fNot (fTru (fPropN "Amounts" F_Amounts_pairs (fVar 1)))) (fSeq fNever fNext) fNext)
    (fSeq (fRet (fCB gMinL (fCons (fLc (fiTup (fPropN "Amounts" F_Amounts_pairs (fVar 1))) (fgTup 2 (fgCons (fgName 2) (fgCons (fgName 3) fgNil))) fYes (fOp gDiv (fDGet2 (fFld "Amounts" "_numbers" (fVar 0)) (fVar 2) (fC (.int 0))) (fVar 3)) [2, 3]) fNil))) fNext))))
def F_Amounts___len__ : FD := fnF 1 1 (
    (fSeq (fRet (fCB gLen (fCons (fFld "Amounts" "_pairs" (fVar 0)) fNil))) fNext))
def F__law_often_right : FD := fnF 3 2 (
    (fSeq (fIfS (fTest (fOp gEq (fCB (gLenOwn "Amounts" F_Amounts___len__) (fCons (fVar 1) fNil)) (fC (.int 0)))) (fSeq (fRet (fMeth "Amounts" "covers" F_Amounts_covers (fVar 0) (fCons (fVar 1) fNil))) fNext) fNext)
    (fSeq (fAsg (fMeth "Amounts" "times" F_Amounts_times (fVar 0) (fCons (fVar 1) fNil)) (fgName 2))
    (fSeq (fIfS (fOr (fNot (fTru (fMeth "Amounts" "covers" F_Amounts_covers (fVar 0) (fCons (fOp (gOwnI "Amounts" F_Amounts___mul__) (fVar 1) (fVar 2)) fNil)))) (fTru (fMeth "Amounts" "covers" F_Amounts_covers (fVar 0) (fCons (fOp (gOwnI "Amounts" F_Amounts___mul__) (fVar 1) (fOp gAdd (fVar 2) (fC (.int 1)))) fNil)))) (fSeq (fRet (fC (.bl false))) fNext) fNext)
    (fSeq (fRet (fAndV (fOp gEq (fMeth "Amounts" "times" F_Amounts_times (fOp (gOwn "Amounts" F_Amounts___add__) (fVar 0) (fVar 1)) (fCons (fVar 1) fNil)) (fOp gAdd (fVar 2) (fC (.int 1)))) (fOp gEq (fMeth "Amounts" "times" F_Amounts_times (fOp (gOwnI "Amounts" F_Amounts___mul__) (fVar 1) (fC (.int 5))) (fCons (fVar 1) fNil)) (fC (.int 5))))) fNext)))))
def F__law_roll : FD := fnF 5 2 (
    (fSeq (fIfS (fTest (fOp gGt (fOp gIxS (fVar 0) (fC (.int 0))) (fC (.int 0)))) (fSeq (fAsg (fOp gMod (fCB gInt (fCons (fOp gIxS (fVar 0) (fC (.int 0))) fNil)) (fVar 1)) (fgName 2))
    (fSeq (fAsg (fOp gDiv (fOp gIxS (fVar 0) (fC (.int 0))) (fVar 1)) (fgSub (fVar 0) (fC (.int 0))))
    (fSeq (fRet (fVar 2)) fNext))) fNext)
    (fSeq (fAsg (fOp gAdd (fOp gIxS (fVar 0) (fC (.int 2))) (fC (.int 1))) (fgSub (fVar 0) (fC (.int 2))))
    (fSeq (fAsg (fOp gMod (fCB gInt (fCons (fOp gAdd (fOp gIxS (fVar 0) (fC (.int 1))) (fOp gMul (fC (.int 67867967)) (fOp gIxS (fVar 0) (fC (.int 2))))) fNil)) (fC (.int 2305843009213693561))) (fgName 3))
    (fSeq (fAsg (fOp gAdd (fOp gMul (fOp gMod (fCB gInt (fCons (fOp gAdd (fOp gMul (fVar 3) (fVar 3)) (fOp gMul (fC (.int 101)) (fOp gIxS (fVar 0) (fC (.int 2))))) fNil)) (fC (.int 2305843009213693907))) (fC (.int 7368847))) (fVar 3)) (fgName 4))
    (fSeq (fRet (fOp gMod (fCB gInt (fCons (fOp gDiv (fVar 4) (fC (.int 65536))) fNil)) (fVar 1))) fNext))))))
def F__law_pick : FD := fnF 2 2 (
    (fSeq (fRet (fOp gIxS (fVar 1) (fCall F__law_roll (fCons (fVar 0) (fCons (fCB gLen (fCons (fVar 1) fNil)) fNil))))) fNext))
def F__law_some : FD := fnF 3 2 (
    (fSeq (fRet (fLc (fiList (fVar 1)) (fgName 2) (fTest (fOp gEq (fCall F__law_roll (fCons (fVar 0) (fCons (fC (.int 2)) fNil))) (fC (.int 0)))) (fVar 2) [2])) fNext))
def F__law_drawn : FD := fnF 4 1 (
    (fSeq (fAsg (fCall F__law_some (fCons (fVar 0) (fCons (fLst (fCons (fC (.str (Str.ofString "a"))) (fCons (fC (.str (Str.ofString "b1"))) (fCons (fC (.str (Str.ofString "core"))) (fCons (fC (.str (Str.ofString "gpu"))) (fCons (fC (.str (Str.ofString "mem"))) (fCons (fC (.str (Str.ofString "x"))) fNil))))))) fNil))) (fgName 1))
    (fSeq (fAsg (fCall F__law_pick (fCons (fVar 0) (fCons (fLst (fCons (fC (.int 2)) (fCons (fC (.int 4)) (fCons (fC (.int 90000)) fNil)))) fNil))) (fgName 2))
    (fSeq (fRet (fMk "Amounts" F_Amounts___init__ [] (fCons (fCB gTuple (fCons (fLc (fiList (fVar 1)) (fgName 3) fYes (fTup (fCons (fVar 3) (fCons (fOp gAdd (fC (.int 1)) (fCall F__law_roll (fCons (fVar 0) (fCons (fVar 2) fNil)))) fNil))) [3]) fNil)) fNil))) fNext))))
def L__law_right_1 : FS := (fSeq (fIfS (fOr (fTest (fOp gNe (fOp (gOwn "Amounts" F_Amounts___eq__) (fVar 3) (fVar 4)) (fOp gEq (fPropN "Amounts" F_Amounts_pairs (fVar 3)) (fPropN "Amounts" F_Amounts_pairs (fVar 4))))) (fTest (fOp gNe (fMeth "Amounts" "covers" F_Amounts_covers (fVar 3) (fCons (fVar 4) fNil)) (fOp gEq (fCB (gLenOwn "Amounts" F_Amounts___len__) (fCons (fMeth "Amounts" "lacks" F_Amounts_lacks (fVar 3) (fCons (fVar 4) fNil)) fNil)) (fC (.int 0)))))) (fSeq (fRet (fC (.bl false))) fNext) fNext)
    (fSeq (fIfS (fOr (fAnd (fTru (fMeth "Amounts" "covers" F_Amounts_covers (fVar 3) (fCons (fVar 4) fNil))) (fTest (fOp (gOwnNe "Amounts" F_Amounts___eq__) (fOp (gOwn "Amounts" F_Amounts___add__) (fOp (gOwn "Amounts" F_Amounts___sub__) (fVar 3) (fVar 4)) (fVar 4)) (fVar 3)))) (fNot (fTru (fCall F__law_often_right (fCons (fVar 3) (fCons (fVar 4) fNil)))))) (fSeq (fRet (fC (.bl false))) fNext) fNext)
    (fSeq (fIfS (fOr (fNot (fTru (fCall F__law_sums_right (fCons (fVar 3) (fCons (fVar 4) (fCons (fOp gIxS (fVar 1) (fC (.int 3))) fNil)))))) (fNot (fTru (fCall F__law_covers_right (fCons (fVar 3) (fCons (fVar 4) (fCons (fOp gIxS (fVar 1) (fC (.int 3))) fNil))))))) (fSeq (fRet (fC (.bl false))) fNext) fNext) fNext)))
def L__law_right_2 : FS := (fSeq (fFor (fiList (fVar 1)) (fgName 4) L__law_right_1) fNext)
def F__law_right : FD := fnF 5 1 (
    (fSeq (fAsg (fLc (fiRng1 (fC (.int 4))) (fgName 2) fYes (fCall F__law_drawn (fCons (fVar 0) fNil)) [2]) (fgName 1))
    (fSeq (fDrop (fBM "list" mAppend (fVar 1) (fCons (fOp (gOwn "Amounts" F_Amounts___add__) (fOp gIxS (fVar 1) (fC (.int 0))) (fOp gIxS (fVar 1) (fC (.int 1)))) fNil)))
    (fSeq (fFor (fiList (fSl gSl (fVar 1) fNoPart (fPart (fC (.int 3))))) (fgName 3) L__law_right_2)
    (fSeq (fRet (fAndV (fMeth "Amounts" "covers" F_Amounts_covers (fOp gIxS (fVar 1) (fC (.int 4))) (fCons (fOp gIxS (fVar 1) (fC (.int 0))) fNil)) (fMeth "Amounts" "covers" F_Amounts_covers (fOp gIxS (fVar 1) (fC (.int 4))) (fCons (fOp gIxS (fVar 1) (fC (.int 1))) fNil)))) fNext)))))
def F__law_dice : FD := fnK 4 2 (
    (fSeq (fAsg (fIf (fTest (fOp gLt (fVar 1) (fCB gLen (fCons (fVar 0) fNil)))) (fCB gInt (fCons (fOp gIxS (fVar 0) (fVar 1)) fNil)) (fOp gAdd (fOp gMul (fC (.int 71)) (fVar 1)) (fC (.int 31)))) (fgName 2))
    (fSeq (fAsg (fOp gMod (fCB gMax (fCons (fC (.int 0)) (fCons (fOp gSubI (fCB gAbs (fCons (fVar 2) fNil)) (fOp gPow (fC (.int 10)) (fC (.int 16)))) fNil))) (fOp gMul (fOp gPow (fC (.int 10)) (fC (.int 60))) (fOp gPow (fC (.int 10)) (fC (.int 60))))) (fgName 3))
    (fSeq (fRet (fLst (fCons (fVar 3) (fCons (fOp gAdd (fOp gAdd (fOp gAdd (fOp gMul (fOp gMod (fCB gAbs (fCons (fVar 2) fNil)) (fC (.int 1152921504606846697))) (fC (.int 59))) (fOp gMul (fC (.int 821)) (fVar 1))) (fOp gMul (fC (.int 37)) (fCB gInt (fCons (fOp gLt (fVar 2) (fC (.int 0))) fNil)))) (fC (.int 5))) (fCons (fC (.int 0)) fNil))))) fNext))))
def L_law_1 : FS := (fSeq (fIfS (fNot (fTru (fCall F__law_right (fCons (fCall F__law_dice (fCons (fVar 0) (fCons (fVar 1) fNil))) fNil)))) (fSeq (fRet (fC (.bl false))) fNext) fNext) fNext)
def F_law : FD := fnF 2 1 (
    (fSeq (fFor (fiRng1 (fCB gMax (fCons (fC (.int 1)) (fCons (fCB gMin (fCons (fC (.int 3)) (fCons (fCB gLen (fCons (fVar 0) fNil)) fNil))) fNil)))) (fgName 1) L_law_1)
    (fSeq (fRet (fAndV (fOp (gOwn "Amounts" F_Amounts___eq__) (fCMeth "Amounts" (fStar 1 F_Amounts_cover_of) (fC (.cls "Amounts")) fNil) (fMk "Amounts" F_Amounts___init__ [.tup []] fNil)) (fAndV (fNotV (fCB (gBoolOwn "Amounts" F_Amounts___bool__) (fCons (fMk "Amounts" F_Amounts___init__ [.tup []] fNil) fNil))) (fMeth "Amounts" "covers" F_Amounts_covers (fMk "Amounts" F_Amounts___init__ [] (fCons (fTup (fCons (fTup (fCons (fC (.str (Str.ofString "core"))) (fCons (fC (.int 1000000)) fNil))) fNil)) fNil)) (fCons (fMk "Amounts" F_Amounts___init__ [.tup []] fNil) fNil))))) fNext)))

end K01
namespace K01
open PySem PySem.Spec PyProof.Rows L2 G
def topS (i : Nat) : Stmt := PySem.Challenge.pw_toldstarts_k01_amounts_as_a_lattice.main.body.getD i (.Pass ⟨0, 0, 0, 0⟩)
abbrev s_is_between : Stmt := topS 4
theorem sc_is_between : FnScope ["value", "low", "high"] ["value", "low", "high"] (defScope s_is_between) := ⟨rfl, rfl, rfl, by decide +kernel, rfl, by decide +kernel, by decide +kernel⟩
abbrev s_is_short_name : Stmt := topS 5
theorem sc_is_short_name : FnScope ["value", "most"] ["value", "most"] (defScope s_is_short_name) := ⟨rfl, rfl, rfl, by decide +kernel, rfl, by decide +kernel, by decide +kernel⟩
abbrev s_is_kind : Stmt := topS 18
theorem sc_is_kind : FnScope ["value"] ["value"] (defScope s_is_kind) := ⟨rfl, rfl, rfl, by decide +kernel, rfl, by decide +kernel, by decide +kernel⟩
abbrev s__are_pairs : Stmt := topS 21
theorem sc__are_pairs : FnScope ["value", "ahead", "pair", "kind", "number"] ["value"] (defScope s__are_pairs) := ⟨rfl, rfl, rfl, by decide +kernel, rfl, by decide +kernel, by decide +kernel⟩
abbrev s_Amounts___init__ : Stmt := inClass (topS 17) 0
theorem sc_Amounts___init__ : FnScope ["self", "pairs"] ["self", "pairs"] (defScope s_Amounts___init__) := ⟨rfl, rfl, rfl, by decide +kernel, rfl, by decide +kernel, by decide +kernel⟩
abbrev s__lacking : Stmt := topS 23
theorem sc__lacking : FnScope ["one", "other", "short", "kind", "number"] ["one", "other"] (defScope s__lacking) := ⟨rfl, rfl, rfl, by decide +kernel, rfl, by decide +kernel, by decide +kernel⟩
abbrev s_check_amounts : Stmt := topS 19
theorem sc_check_amounts : FnScope ["value"] ["value"] (defScope s_check_amounts) := ⟨rfl, rfl, rfl, by decide +kernel, rfl, by decide +kernel, by decide +kernel⟩
abbrev s_Amounts_covers : Stmt := inClass (topS 17) 5
theorem sc_Amounts_covers : FnScope ["self", "other"] ["self", "other"] (defScope s_Amounts_covers) := ⟨rfl, rfl, rfl, by decide +kernel, rfl, by decide +kernel, by decide +kernel⟩
abbrev s_Amounts___bool__ : Stmt := inClass (topS 17) 12
theorem sc_Amounts___bool__ : FnScope ["self"] ["self"] (defScope s_Amounts___bool__) := ⟨rfl, rfl, rfl, by decide +kernel, rfl, by decide +kernel, by decide +kernel⟩
abbrev s_Amounts___eq__ : Stmt := inClass (topS 17) 13
theorem sc_Amounts___eq__ : FnScope ["self", "other"] ["self", "other"] (defScope s_Amounts___eq__) := ⟨rfl, rfl, rfl, by decide +kernel, rfl, by decide +kernel, by decide +kernel⟩
abbrev s__pairs_of : Stmt := topS 22
theorem sc__pairs_of : FnScope ["numbers", "kind"] ["numbers"] (defScope s__pairs_of) := ⟨rfl, rfl, rfl, by decide +kernel, rfl, by decide +kernel, by decide +kernel⟩
abbrev s_Amounts_pairs : Stmt := inClass (topS 17) 3
theorem sc_Amounts_pairs : FnScope ["self"] ["self"] (defScope s_Amounts_pairs) := ⟨rfl, rfl, rfl, by decide +kernel, rfl, by decide +kernel, by decide +kernel⟩
abbrev s_Amounts_cover_of : Stmt := inClass (topS 17) 2
theorem sc_Amounts_cover_of : FnScope ["cls", "some", "greatest", "amounts", "kind", "number"] ["cls", "some"] (defScope s_Amounts_cover_of) := ⟨rfl, rfl, rfl, by decide +kernel, rfl, by decide +kernel, by decide +kernel⟩
abbrev s_Amounts_lacks : Stmt := inClass (topS 17) 6
theorem sc_Amounts_lacks : FnScope ["self", "other"] ["self", "other"] (defScope s_Amounts_lacks) := ⟨rfl, rfl, rfl, by decide +kernel, rfl, by decide +kernel, by decide +kernel⟩
abbrev s_sure_amounts : Stmt := topS 20
theorem sc_sure_amounts : FnScope ["pairs", "made"] ["pairs"] (defScope s_sure_amounts) := ⟨rfl, rfl, rfl, by decide +kernel, rfl, by decide +kernel, by decide +kernel⟩
abbrev s_Amounts___add__ : Stmt := inClass (topS 17) 15
theorem sc_Amounts___add__ : FnScope ["self", "other", "numbers", "kind", "number"] ["self", "other"] (defScope s_Amounts___add__) := ⟨rfl, rfl, rfl, by decide +kernel, rfl, by decide +kernel, by decide +kernel⟩
abbrev s__law_covers_right : Stmt := topS 31
theorem sc__law_covers_right : FnScope ["one", "other", "third", "least"] ["one", "other", "third"] (defScope s__law_covers_right) := ⟨rfl, rfl, rfl, by decide +kernel, rfl, by decide +kernel, by decide +kernel⟩
abbrev s_is_whole : Stmt := topS 3
theorem sc_is_whole : FnScope ["value"] ["value"] (defScope s_is_whole) := ⟨rfl, rfl, rfl, by decide +kernel, rfl, by decide +kernel, by decide +kernel⟩
abbrev s_Amounts___mul__ : Stmt := inClass (topS 17) 17
theorem sc_Amounts___mul__ : FnScope ["self", "other", "kind", "number"] ["self", "other"] (defScope s_Amounts___mul__) := ⟨rfl, rfl, rfl, by decide +kernel, rfl, by decide +kernel, by decide +kernel⟩
abbrev s_Amounts___sub__ : Stmt := inClass (topS 17) 16
theorem sc_Amounts___sub__ : FnScope ["self", "other", "lacking", "rest", "kind", "number"] ["self", "other"] (defScope s_Amounts___sub__) := ⟨rfl, rfl, rfl, by decide +kernel, rfl, by decide +kernel, by decide +kernel⟩
abbrev s__law_sums_right : Stmt := topS 30
theorem sc__law_sums_right : FnScope ["one", "other", "third", "whole"] ["one", "other", "third"] (defScope s__law_sums_right) := ⟨rfl, rfl, rfl, by decide +kernel, rfl, by decide +kernel, by decide +kernel⟩
abbrev s_Amounts_times : Stmt := inClass (topS 17) 7
theorem sc_Amounts_times : FnScope ["self", "want", "kind", "number"] ["self", "want"] (defScope s_Amounts_times) := ⟨rfl, rfl, rfl, by decide +kernel, rfl, by decide +kernel, by decide +kernel⟩
abbrev s_Amounts___len__ : Stmt := inClass (topS 17) 11
theorem sc_Amounts___len__ : FnScope ["self"] ["self"] (defScope s_Amounts___len__) := ⟨rfl, rfl, rfl, by decide +kernel, rfl, by decide +kernel, by decide +kernel⟩
abbrev s__law_often_right : Stmt := topS 32
theorem sc__law_often_right : FnScope ["one", "other", "often"] ["one", "other"] (defScope s__law_often_right) := ⟨rfl, rfl, rfl, by decide +kernel, rfl, by decide +kernel, by decide +kernel⟩
abbrev s__law_roll : Stmt := topS 26
theorem sc__law_roll : FnScope ["dice", "total", "found", "one", "two"] ["dice", "total"] (defScope s__law_roll) := ⟨rfl, rfl, rfl, by decide +kernel, rfl, by decide +kernel, by decide +kernel⟩
abbrev s__law_pick : Stmt := topS 27
theorem sc__law_pick : FnScope ["dice", "items"] ["dice", "items"] (defScope s__law_pick) := ⟨rfl, rfl, rfl, by decide +kernel, rfl, by decide +kernel, by decide +kernel⟩
abbrev s__law_some : Stmt := topS 28
theorem sc__law_some : FnScope ["dice", "items", "item"] ["dice", "items"] (defScope s__law_some) := ⟨rfl, rfl, rfl, by decide +kernel, rfl, by decide +kernel, by decide +kernel⟩
abbrev s__law_drawn : Stmt := topS 29
theorem sc__law_drawn : FnScope ["dice", "some", "most", "kind"] ["dice"] (defScope s__law_drawn) := ⟨rfl, rfl, rfl, by decide +kernel, rfl, by decide +kernel, by decide +kernel⟩
abbrev s__law_right : Stmt := topS 33
theorem sc__law_right : FnScope ["dice", "some", "turn", "one", "other"] ["dice"] (defScope s__law_right) := ⟨rfl, rfl, rfl, by decide +kernel, rfl, by decide +kernel, by decide +kernel⟩
abbrev s__law_dice : Stmt := topS 25
theorem sc__law_dice : FnScope ["script", "spot", "cell", "left"] ["script", "spot"] (defScope s__law_dice) := ⟨rfl, rfl, rfl, by decide +kernel, rfl, by decide +kernel, by decide +kernel⟩
abbrev s_law : Stmt := topS 34
theorem sc_law : FnScope ["script", "spot"] ["script"] (defScope s_law) := ⟨rfl, rfl, rfl, by decide +kernel, rfl, by decide +kernel, by decide +kernel⟩
structure Txt (K : PySem.W.Frag) (κ : Kap) (mg : Str → Option Value) : Prop where
  n_isinstance : mg "isinstance" = none
  n_bool : mg "bool" = none
  n_int : mg "int" = none
  n_len : mg "len" = none
  n_str : mg "str" = none
  g_NOTHING : ∃ t, mg "NOTHING" = some (.str (Str.ofString "nothing") t)
  g_MAX_KIND_SIGNS : ∃ t, mg "MAX_KIND_SIGNS" = some (.int 8 t)
  g_MAX_AMOUNT : ∃ t, mg "MAX_AMOUNT" = some (.int 1000000 t)
  n_tuple : mg "tuple" = none
  g_MAX_KINDS : ∃ t, mg "MAX_KINDS" = some (.int 60 t)
  n_dict : mg "dict" = none
  na_Amounts__numbers : NoAttr K (κ "Amounts") (Str.ofString "_numbers")
  na_Amounts__pairs : NoAttr K (κ "Amounts") (Str.ofString "_pairs")
  c_Amounts : mg "Amounts" = some (.ref (κ "Amounts"))
  n_sorted : mg "sorted" = none
  n_max : mg "max" = none
  n_abs : mg "abs" = none
  g_TOO_LONG : ∃ t, mg "TOO_LONG" = some (.int 1000000000000000000000000000000000000000000000000000000000000 t)
  n_min : mg "min" = none
  n_range : mg "range" = none
  l_Amounts : Cls K (κ "Amounts")
  sf_Amounts : PySem.W.selfFirst K (κ "Amounts") = true
  ne_Amounts : PySem.W.findIn K (.ref (κ "Amounts")) "__ne__" = some (some (.builtin "object.__ne__"))
  ob_Amounts : PySem.W.subIn K (.ref (κ "Amounts")) (.type "object") = some true
  r1_Amounts : PySem.W.findIn K (.ref (κ "Amounts")) "__rmul__" = some none
  r2_Amounts : PySem.W.findIn K (.type "int") "__mul__" = some (some (.builtin "int.__mul__"))
  r3_Amounts : PySem.W.findIn K (.type "int") "__rmul__" = some (some (.builtin "int.__rmul__"))
  r4_Amounts : PySem.W.subIn K (.type "int") (.ref (κ "Amounts")) = some false
  dfl_Amounts : ∀ ι F, RepL K κ ι F [.tup []] [V.ref (κ "()Amounts")]
  isok_Amounts : ∀ c ∈ ["Amounts"], IsOk K (κ c)
end K01
namespace K01
open PySem PySem.Spec PyProof.Rows L2 G
section
variable {P : Program} {w : World} {K : PySem.W.Frag} {mg : Str → Option Value} {base : Heap} {κ : Kap}
theorem b_is_between {f : Addr} (T : Txt K κ mg)   : BodyOk P κ.w K mg base κ 0 ["value", "low", "high"] "is_between" s_is_between f (
    (fSeq (fRet (fAndV (fCB gIsi (fCons (fVar 0) (fCons (fC (.ty "int")) fNil))) (fAndV (fNotV (fCB gIsi (fCons (fVar 0) (fCons (fC (.ty "bool")) fNil)))) (fChain gLe gLe (fVar 1) (fVar 0) (fVar 2))))) fNext)) :=
  fun cdv A outer s H E hr => ⟨_, (pss_one (ps_ret (pe_and (pe_callB (call_isiN K) (by rfl) T.n_isinstance (by decide +kernel) (pa_cons (pv 0) (pa_cons (pe_bltn (v := .ty "int") (by rfl) T.n_int (by decide +kernel) rfl) pa_nil))) (pe_and (pe_not (pe_callB (call_isiN K) (by rfl) T.n_isinstance (by decide +kernel) (pa_cons (pv 0) (pa_cons (pe_bltn (v := .ty "bool") (by rfl) T.n_bool (by decide +kernel) rfl) pa_nil)))) (pe_one (pe_chain op_leG op_leG (pv 1) (pv 0) (pv 2))))))),
    (ls_seq (ls_ret (le_andV (le_CB isiK (la_cons le_var (la_cons le_ty la_nil))) (le_andV (le_notV (le_CB isiK (la_cons le_var (la_cons le_ty la_nil)))) (le_chain rleK rleK le_var le_var le_var)))) ls_next)⟩

theorem b_is_short_name {f : Addr} (T : Txt K κ mg)   : BodyOk P κ.w K mg base κ 0 ["value", "most"] "is_short_name" s_is_short_name f (
    (fSeq (fIfS (fOr (fNot (fTru (fCB gIsi (fCons (fVar 0) (fCons (fC (.ty "str")) fNil))))) (fNot (fTest (fChain gLe gLe (fC (.int 1)) (fCB gLen (fCons (fVar 0) fNil)) (fVar 1))))) (fSeq (fRet (fC (.bl false))) fNext) fNext)
    (fSeq (fRet (fAndV (fM0 (mAsk Txt.isascii) (fVar 0)) (fAndV (fM0 (mAsk Txt.isalnum) (fVar 0)) (fAndV (fM0 (mAsk Txt.islower) (fVar 0)) (fM0 (mAsk Txt.isalpha) (fOp gIxS (fVar 0) (fC (.int 0)))))))) fNext))) :=
  fun cdv A outer s H E hr => ⟨_, (pss_cons (ps_if (PW.pt (pw_or (pt_not (pt_truX (pe_callB (call_isiN K) (by rfl) T.n_isinstance (by decide +kernel) (pa_cons (pv 0) (pa_cons (pe_bltn (v := .ty "str") (by rfl) T.n_str (by decide +kernel) rfl) pa_nil))))) (pw_or1 (pt_not (pt_chain op_leG op_leG pe_int (pe_callB call_lenG (by rfl) T.n_len (by decide +kernel) (pa_cons (pv 0) pa_nil)) (pv 1)))))) (pss_one (ps_ret pe_bl)) pss_nil)
      (pss_one (ps_ret (pe_and (pe_m0 PySem.F.slot_str_isascii PySem.F.type_str_isascii mt_isascii (pv 0)) (pe_and (pe_m0 PySem.F.slot_str_isalnum PySem.F.type_str_isalnum mt_isalnum (pv 0)) (pe_and (pe_m0 PySem.F.slot_str_islower PySem.F.type_str_islower mt_islower (pv 0)) (pe_one (pe_m0 PySem.F.slot_str_isalpha PySem.F.type_str_isalpha mt_isalpha (pe_ix ix_G (pv 0) pe_int (fun _ _ => rfl)))))))))),
    (ls_seq (ls_if (lt_or (lt_not (lt_tru (le_CB isiK (la_cons le_var (la_cons le_ty la_nil))))) (lt_not (lt_test (le_chain rleK rleK le_int (le_CB lenK (la_cons le_var la_nil)) le_var)))) (ls_seq (ls_ret le_bl) ls_next) ls_next)
      (ls_seq (ls_ret (le_andV (le_m0 (askK Txt.isascii) le_var) (le_andV (le_m0 (askK Txt.isalnum) le_var) (le_andV (le_m0 (askK Txt.islower) le_var) (le_m0 (askK Txt.isalpha) (le_op ixSK le_var le_int)))))) ls_next))⟩

theorem b_is_kind {f : Addr} (T : Txt K κ mg)  (C_is_short_name : CallOk P κ.w K mg base "is_short_name" 1 ["value", "most"] (conc K κ F_is_short_name)) : BodyOk P κ.w K mg base κ 1 ["value"] "is_kind" s_is_kind f (
    (fSeq (fRet (fAndV (fCall F_is_short_name (fCons (fVar 0) (fCons (fC (.int 8)) fNil))) (fOp gNe (fVar 0) (fC (.str (Str.ofString "nothing")))))) fNext)) :=
  fun cdv A outer s H E hr => ⟨_, (pss_one (ps_ret (pe_and (pe_cc C_is_short_name (passes_call (takes_of rfl rfl rfl rfl) (fun _ _ _ _ h => h)) (hr.mono (by decide)) (pa_cons (pv 0) (pa_cons (pe_gI T.g_MAX_KIND_SIGNS) pa_nil))) (pe_one (pe_cmpR (op_neG hr.units) (pv 0) (pe_gS T.g_NOTHING) (nomark _)))))),
    (ls_seq (ls_ret (le_andV (le_call (la_cons le_var (la_cons le_int la_nil))) (le_op rneK le_var le_str))) ls_next)⟩

theorem b__are_pairs {f : Addr} (T : Txt K κ mg)  (C_is_between : CallOk P κ.w K mg base "is_between" 1 ["value", "low", "high"] (conc K κ F_is_between)) (C_is_kind : CallOk P κ.w K mg base "is_kind" 2 ["value"] (conc K κ F_is_kind)) : BodyOk P κ.w K mg base κ 2 ["value", "ahead", "pair", "kind", "number"] "_are_pairs" s__are_pairs f (
    (fSeq (fIfS (fOr (fNot (fTru (fCB gIsi (fCons (fVar 0) (fCons (fC (.ty "tuple")) fNil))))) (fTest (fOp gGt (fCB gLen (fCons (fVar 0) fNil)) (fC (.int 60))))) (fSeq (fRet (fC (.bl false))) fNext) fNext)
    (fSeq (fAsg (fC (.str (Str.ofString ""))) (fgName 1))
    (fSeq (fFor (fiTup (fVar 0)) (fgName 2) L__are_pairs_1)
    (fSeq (fRet (fC (.bl true))) fNext))))) :=
  fun cdv A outer s H E hr => ⟨_, (pss_cons (ps_if (PW.pt (pw_or (pt_not (pt_truX (pe_callB (call_isiN K) (by rfl) T.n_isinstance (by decide +kernel) (pa_cons (pv 0) (pa_cons (pe_bltn (v := .ty "tuple") (by rfl) T.n_tuple (by decide +kernel) rfl) pa_nil))))) (pw_or1 (pt_cmpR op_gtG (pe_callB call_lenG (by rfl) T.n_len (by decide +kernel) (pa_cons (pv 0) pa_nil)) (pe_gI T.g_MAX_KINDS) (nomark _))))) (pss_one (ps_ret pe_bl)) pss_nil)
      (pss_cons (ps_set (i := 1) sc__are_pairs.nd rfl (Or.inl rfl) pe_str)
      (pss_cons (ps_for (passes_of rfl) rfl (pi_tup (pv 0)) (pg_name (i := 2) sc__are_pairs.nd rfl (Or.inl rfl)) (pss_cons (ps_if (PW.pt (pw_or (pt_not (pt_truX (pe_callB (call_isiN K) (by rfl) T.n_isinstance (by decide +kernel) (pa_cons (pv 2) (pa_cons (pe_bltn (v := .ty "tuple") (by rfl) T.n_tuple (by decide +kernel) rfl) pa_nil))))) (pw_or1 (pt_cmpR (op_neG hr.units) (pe_callB call_lenG (by rfl) T.n_len (by decide +kernel) (pa_cons (pv 2) pa_nil)) pe_int (nomark _))))) (pss_one (ps_ret pe_bl)) pss_nil)
      (pss_cons (ps_asg (pv 2) (pg_tup rfl (pgs_cons (pg_name (i := 3) sc__are_pairs.nd rfl (Or.inl rfl)) (pgs_cons (pg_name (i := 4) sc__are_pairs.nd rfl (Or.inl rfl)) pgs_nil))))
      (pss_cons (ps_if (PW.pt (pw_or (pt_not (pt_truX (pe_cc C_is_kind (passes_call (takes_of rfl rfl rfl rfl) (fun _ _ _ _ h => h)) (hr.mono (by decide)) (pa_cons (pv 3) pa_nil)))) (pw_or (pt_not (pt_cmpR op_ltG (pv 1) (pv 3) (nomark _))) (pw_or1 (pt_not (pt_truX (pe_cc C_is_between (passes_call (takes_of rfl rfl rfl rfl) (fun _ _ _ _ h => h)) (hr.mono (by decide)) (pa_cons (pv 4) (pa_cons pe_int (pa_cons (pe_gI T.g_MAX_AMOUNT) pa_nil)))))))))) (pss_one (ps_ret pe_bl)) pss_nil)
      (pss_one (ps_set (i := 1) sc__are_pairs.nd rfl (Or.inl rfl) (pv 3)))))))
      (pss_one (ps_ret pe_bl))))),
    (ls_seq (ls_if (lt_or (lt_not (lt_tru (le_CB isiK (la_cons le_var (la_cons le_ty la_nil))))) (lt_test (le_op rgtK (le_CB lenK (la_cons le_var la_nil)) le_int))) (ls_seq (ls_ret le_bl) ls_next) ls_next)
      (ls_seq (ls_asg le_str (lg_name free_of))
      (ls_seq (ls_for (li_tup le_var) (lg_name free_of) (ls_seq (ls_if (lt_or (lt_not (lt_tru (le_CB isiK (la_cons le_var (la_cons le_ty la_nil))))) (lt_test (le_op rneK (le_CB lenK (la_cons le_var la_nil)) le_int))) (ls_seq (ls_ret le_bl) ls_next) ls_next)
      (ls_seq (ls_asg le_var (lg_tup (lgs_cons (lg_name free_of) (lgs_cons (lg_name free_of) lgs_nil))))
      (ls_seq (ls_if (lt_or (lt_not (lt_tru (le_call (la_cons le_var la_nil)))) (lt_or (lt_not (lt_test (le_op rltK le_var le_var))) (lt_not (lt_tru (le_call (la_cons le_var (la_cons le_int (la_cons le_int la_nil)))))))) (ls_seq (ls_ret le_bl) ls_next) ls_next)
      (ls_seq (ls_asg le_var (lg_name free_of)) ls_next)))))
      (ls_seq (ls_ret le_bl) ls_next))))⟩

theorem b_Amounts___init__ {f : Addr} (T : Txt K κ mg)  (C__are_pairs : CallOk P κ.w K mg base "_are_pairs" 3 ["value"] (conc K κ F__are_pairs)) : BodyOk P κ.w K mg base κ 3 ["self", "pairs"] "Amounts.__init__" s_Amounts___init__ f (
    (fSeq (fIfS (fAnd (fTest (fOp gNe (fVar 1) (fTup fNil))) (fNot (fTru (fCall F__are_pairs (fCons (fVar 1) fNil))))) (fSeq fNever fNext) fNext)
    (fSeq (fsFld "Amounts" "_pairs" (fVar 0) (fVar 1))
    (fSeq (fsFld "Amounts" "_numbers" (fVar 0) (fCB gDict (fCons (fVar 1) fNil))) fNext)))) :=
  fun cdv A outer s H E hr => ⟨_, (pss_cons (ps_if (PW.pt (pw_and (pt_cmpR (op_neG hr.units) (pv 1) (pe_tupF pa_nil) (nomark _)) (pw_and1 (pt_not (pt_truX (pe_cc C__are_pairs (passes_call (takes_of rfl rfl rfl rfl) (fun _ _ _ _ h => h)) (hr.mono (by decide)) (pa_cons (pv 1) pa_nil))))))) (pss_one ps_never) pss_nil)
      (pss_cons (ps_fld (pv 0) (pv 1) (by rfl))
      (pss_one (ps_fld (pv 0) (pe_callTy (call_dictN K rfl) (by rfl) T.n_dict (by decide +kernel) (pa_cons (pv 1) pa_nil)) (by rfl))))),
    (ls_seq (ls_if (lt_and (lt_test (le_op rneK le_var (le_tup la_nil))) (lt_not (lt_tru (le_call (la_cons le_var la_nil))))) (ls_seq ls_never ls_next) ls_next)
      (ls_seq (ls_fld T.l_Amounts T.na_Amounts__pairs le_var le_var)
      (ls_seq (ls_fld T.l_Amounts T.na_Amounts__numbers le_var (le_CB dictK (la_cons le_var la_nil))) ls_next)))⟩

theorem b__lacking {f : Addr} (T : Txt K κ mg)   : BodyOk P κ.w K mg base κ 0 ["one", "other", "short", "kind", "number"] "_lacking" s__lacking f (
    (fSeq (fAsg (fLc (fiTup (fFld "Amounts" "_pairs" (fVar 1))) (fgTup 2 (fgCons (fgName 3) (fgCons (fgName 4) fgNil))) fYes (fTup (fCons (fVar 3) (fCons (fOp gSubI (fVar 4) (fDGet2 (fFld "Amounts" "_numbers" (fVar 0)) (fVar 3) (fC (.int 0)))) fNil))) [3, 4]) (fgName 2))
    (fSeq (fRet (fCB gTuple (fCons (fLc (fiList (fVar 2)) (fgTup 2 (fgCons (fgName 3) (fgCons (fgName 4) fgNil))) (fTest (fOp gGt (fVar 4) (fC (.int 0)))) (fTup (fCons (fVar 3) (fCons (fVar 4) fNil))) [3, 4]) fNil))) fNext))) :=
  fun cdv A outer s H E hr => ⟨_, (pss_cons (ps_setLc (i := 2) (own := [("kind", 3), ("number", 4)]) (g := (gTup K 2 (gCons (gName 3) (gCons (gName 4) gNil)))) rfl sc__lacking.nd rfl rfl (sw_true rfl rfl rfl (by decide +kernel)) (pi_tup (pe_fldK K (pv 1) (by rfl))) (blkOk_by (own := [("kind", 3), ("number", 4)]) (N := ["one", "other", "short", "kind", "number"]) (sc := defScope s__lacking) (by decide +kernel)) (fun _ _ _ _ _ => (pg_tup rfl (pgs_cons (pg_name (i := 3) sc__lacking.nd rfl (Or.inl rfl)) (pgs_cons (pg_name (i := 4) sc__lacking.nd rfl (Or.inl rfl)) pgs_nil)))) (fun _ _ _ _ _ => pts_nil) (fun _ _ _ _ _ => (pe_tupF (pa_cons (pv 3) (pa_cons (pe_op op_subG (pv 4) (pe_dget2 (hu_of hr) (pe_fldK K (pv 0) (by rfl)) (pv 3) pe_int ⟨rfl, rfl, rfl, rfl⟩)) pa_nil)))))
      (pss_one (ps_ret (pe_callTy (call_tupleN K) (by rfl) T.n_tuple (by decide +kernel) (pa_cons (pe_lc (own := [("kind", 3), ("number", 4)]) (g := (gTup K 2 (gCons (gName 3) (gCons (gName 4) gNil)))) rfl sc__lacking.nd (pi_list (pv 2)) (blkOk_by (own := [("kind", 3), ("number", 4)]) (N := ["one", "other", "short", "kind", "number"]) (sc := defScope s__lacking) (by decide +kernel)) (fun _ _ _ _ _ => (pg_tup rfl (pgs_cons (pg_name (i := 3) sc__lacking.nd rfl (Or.inl rfl)) (pgs_cons (pg_name (i := 4) sc__lacking.nd rfl (Or.inl rfl)) pgs_nil)))) (fun _ _ _ _ _ => (pts_one (pt_cmpR op_gtG (pv 4) pe_int (nomark _)))) (fun _ _ _ _ _ => (pe_tupF (pa_cons (pv 3) (pa_cons (pv 4) pa_nil))))) pa_nil))))),
    (ls_seq (ls_asg (le_lc (li_tup (le_fld T.l_Amounts T.na_Amounts__pairs le_var)) (lg_tup (lgs_cons (lg_name free_of) (lgs_cons (lg_name free_of) lgs_nil))) (gw_tup (gws_cons' (gw_name (by decide)) (gws_cons' (gw_name (by decide)) gws_nil gm_name gms_nil) gm_name (gms_cons gm_name gms_nil))) (gm_tup (gms_cons gm_name (gms_cons gm_name gms_nil))) lt_yes (le_tup (la_cons le_var (la_cons (le_op rsubK le_var (le_dget2 (le_fld T.l_Amounts T.na_Amounts__numbers le_var) le_var le_int)) la_nil)))) (lg_name free_of))
      (ls_seq (ls_ret (le_CB tupleK (la_cons (le_lc (li_list le_var) (lg_tup (lgs_cons (lg_name free_of) (lgs_cons (lg_name free_of) lgs_nil))) (gw_tup (gws_cons' (gw_name (by decide)) (gws_cons' (gw_name (by decide)) gws_nil gm_name gms_nil) gm_name (gms_cons gm_name gms_nil))) (gm_tup (gms_cons gm_name (gms_cons gm_name gms_nil))) (lt_test (le_op rgtK le_var le_int)) (le_tup (la_cons le_var (la_cons le_var la_nil)))) la_nil))) ls_next))⟩

theorem b_check_amounts {f : Addr} (T : Txt K κ mg)   : BodyOk P κ.w K mg base κ 0 ["value"] "check_amounts" s_check_amounts f (
    (fSeq (fIfS (fNot (fTru (fCB (gIsiX ["Amounts"]) (fCons (fVar 0) (fCons (fC (.cls "Amounts")) fNil))))) (fSeq fNever fNext) fNext) fNext)) :=
  fun cdv A outer s H E hr => ⟨_, (pss_one (ps_if (pt_not (pt_truX (pe_callB (call_isiN K) (by rfl) T.n_isinstance (by decide +kernel) (pa_cons (pv 0) (pa_cons (pe_gR T.c_Amounts) pa_nil))))) (pss_one ps_never) pss_nil)),
    (ls_seq (ls_if (lt_not (lt_tru (le_CB (isiXK T.isok_Amounts) (la_cons le_var (la_cons le_cls la_nil))))) (ls_seq ls_never ls_next) ls_next) ls_next)⟩

theorem b_Amounts_covers {f : Addr} (T : Txt K κ mg)  (C__lacking : CallOk P κ.w K mg base "_lacking" 1 ["one", "other"] (conc K κ F__lacking)) (C_check_amounts : CallOk P κ.w K mg base "check_amounts" 1 ["value"] (conc K κ F_check_amounts)) : BodyOk P κ.w K mg base κ 1 ["self", "other"] "Amounts.covers" s_Amounts_covers f (
    (fSeq (fDrop (fCall F_check_amounts (fCons (fVar 1) fNil)))
    (fSeq (fRet (fNotW (fCall F__lacking (fCons (fVar 0) (fCons (fVar 1) fNil))))) fNext))) :=
  fun cdv A outer s H E hr => ⟨_, (pss_cons (ps_expr (pe_cc C_check_amounts (passes_call (takes_of rfl rfl rfl rfl) (fun _ _ _ _ h => h)) (hr.mono (by decide)) (pa_cons (pv 1) pa_nil)))
      (pss_one (ps_ret (pe_notW K (pe_cc C__lacking (passes_call (takes_of rfl rfl rfl rfl) (fun _ _ _ _ h => h)) (hr.mono (by decide)) (pa_cons (pv 0) (pa_cons (pv 1) pa_nil))))))),
    (ls_seq (ls_drop (le_call (la_cons le_var la_nil)))
      (ls_seq (ls_ret (le_notW (le_call (la_cons le_var (la_cons le_var la_nil))))) ls_next))⟩

theorem b_Amounts___bool__ {f : Addr} (T : Txt K κ mg)   : BodyOk P κ.w K mg base κ 0 ["self"] "Amounts.__bool__" s_Amounts___bool__ f (
    (fSeq (fRet (fCB gBool (fCons (fFld "Amounts" "_pairs" (fVar 0)) fNil))) fNext)) :=
  fun cdv A outer s H E hr => ⟨_, (pss_one (ps_ret (pe_callTy (call_boolN K) (by rfl) T.n_bool (by decide +kernel) (pa_cons (pe_fldK K (pv 0) (by rfl)) pa_nil)))),
    (ls_seq (ls_ret (le_CB boolK (la_cons (le_fld T.l_Amounts T.na_Amounts__pairs le_var) la_nil))) ls_next)⟩

theorem b_Amounts___eq__ {f : Addr} (T : Txt K κ mg)   : BodyOk P κ.w K mg base κ 0 ["self", "other"] "Amounts.__eq__" s_Amounts___eq__ f (
    (fSeq (fRet (fAndV (fCB (gIsiX ["Amounts"]) (fCons (fVar 1) (fCons (fC (.cls "Amounts")) fNil))) (fOp gEq (fFld "Amounts" "_pairs" (fVar 0)) (fFld "Amounts" "_pairs" (fVar 1))))) fNext)) :=
  fun cdv A outer s H E hr => ⟨_, (pss_one (ps_ret (pe_and (pe_callB (call_isiN K) (by rfl) T.n_isinstance (by decide +kernel) (pa_cons (pv 1) (pa_cons (pe_gR T.c_Amounts) pa_nil))) (pe_one (pe_cmpR (op_eqG hr.units) (pe_fldK K (pv 0) (by rfl)) (pe_fldK K (pv 1) (by rfl)) (nomark _)))))),
    (ls_seq (ls_ret (le_andV (le_CB (isiXK T.isok_Amounts) (la_cons le_var (la_cons le_cls la_nil))) (le_op reqK (le_fld T.l_Amounts T.na_Amounts__pairs le_var) (le_fld T.l_Amounts T.na_Amounts__pairs le_var)))) ls_next)⟩

theorem b__pairs_of {f : Addr} (T : Txt K κ mg)   : BodyOk P κ.w K mg base κ 0 ["numbers", "kind"] "_pairs_of" s__pairs_of f (
    (fSeq (fRet (fCB gTuple (fCons (fLc (fiList (fCB gSortD (fCons (fVar 0) fNil))) (fgName 1) fYes (fTup (fCons (fVar 1) (fCons (fDGet (fVar 0) (fVar 1)) fNil))) [1]) fNil))) fNext)) :=
  fun cdv A outer s H E hr => ⟨_, (pss_one (ps_ret (pe_callTy (call_tupleN K) (by rfl) T.n_tuple (by decide +kernel) (pa_cons (pe_lc (own := [("kind", 1)]) (g := (gName 1)) rfl sc__pairs_of.nd (pi_list (pe_callB (call_sortedD rfl) (by rfl) T.n_sorted (by decide +kernel) (pa_cons (pv 0) pa_nil))) (blkOk_by (own := [("kind", 1)]) (N := ["numbers", "kind"]) (sc := defScope s__pairs_of) (by decide +kernel)) (fun _ _ _ _ _ => (pg_name (i := 1) sc__pairs_of.nd rfl (Or.inl rfl))) (fun _ _ _ _ _ => pts_nil) (fun _ _ _ _ _ => (pe_tupF (pa_cons (pv 1) (pa_cons (pe_dget (hu_of hr) (pv 0) (pv 1) (fun _ _ => rfl)) pa_nil))))) pa_nil)))),
    (ls_seq (ls_ret (le_CB tupleK (la_cons (le_lc (li_list (le_CB sortDK (la_cons le_var la_nil))) (lg_name free_of) (gw_name (by decide)) gm_name lt_yes (le_tup (la_cons le_var (la_cons (le_dget le_var le_var) la_nil)))) la_nil))) ls_next)⟩

theorem b_Amounts_pairs {f : Addr} (T : Txt K κ mg)   : BodyOk P κ.w K mg base κ 0 ["self"] "Amounts.pairs" s_Amounts_pairs f (
    (fSeq (fRet (fFld "Amounts" "_pairs" (fVar 0))) fNext)) :=
  fun cdv A outer s H E hr => ⟨_, (pss_one (ps_ret (pe_fldK K (pv 0) (by rfl)))),
    (ls_seq (ls_ret (le_fld T.l_Amounts T.na_Amounts__pairs le_var)) ls_next)⟩

theorem b_Amounts_cover_of {f : Addr} (T : Txt K κ mg)  (C__pairs_of : CallOk P κ.w K mg base "_pairs_of" 1 ["numbers"] (conc K κ F__pairs_of)) {K1_Amounts_d : List Value} (K1_Amounts : MkOk P κ.w K mg base "Amounts" (κ "Amounts") 4 ["self", "pairs"] K1_Amounts_d [] (conc K κ F_Amounts___init__)) (P_Amounts_pairs : PropOk P κ.w K mg base (κ "Amounts") "pairs" 1 ["self"] (conc K κ F_Amounts_pairs)) (C_check_amounts : CallOk P κ.w K mg base "check_amounts" 1 ["value"] (conc K κ F_check_amounts)) : BodyOk P κ.w K mg base κ 5 ["cls", "some", "greatest", "amounts", "kind", "number"] "Amounts.cover_of" s_Amounts_cover_of f (
    (fSeq (fAsg fDNew (fgName 2))
    (fSeq (fFor (fiTup (fVar 1)) (fgName 3) L_Amounts_cover_of_2)
    (fSeq (fRet (fMkV "Amounts" 0 F_Amounts___init__ [] (fCons (fCall F__pairs_of (fCons (fVar 2) fNil)) fNil))) fNext)))) :=
  fun cdv A outer s H E hr => ⟨_, (pss_cons (ps_set (i := 2) sc_Amounts_cover_of.nd rfl (Or.inl rfl) pe_dnewK)
      (pss_cons (ps_for (passes_of rfl) rfl (pi_tup (pv 1)) (pg_name (i := 3) sc_Amounts_cover_of.nd rfl (Or.inl rfl)) (pss_cons (ps_expr (pe_cc C_check_amounts (passes_call (takes_of rfl rfl rfl rfl) (fun _ _ _ _ h => h)) (hr.mono (by decide)) (pa_cons (pv 3) pa_nil)))
      (pss_one (ps_for (passes_of rfl) rfl (pi_tup (pe_propN T.l_Amounts P_Amounts_pairs (hr.mono (by decide)) (pv 3))) (pg_tup rfl (pgs_cons (pg_name (i := 4) sc_Amounts_cover_of.nd rfl (Or.inl rfl)) (pgs_cons (pg_name (i := 5) sc_Amounts_cover_of.nd rfl (Or.inl rfl)) pgs_nil))) (pss_one (ps_dput (hu_of hr) (pv 2) (pv 4) (pe_callB (call_maxG rfl) (by rfl) T.n_max (by decide +kernel) (pa_cons (pv 5) (pa_cons (pe_dget2 (hu_of hr) (pv 2) (pv 4) pe_int ⟨rfl, rfl, rfl, rfl⟩) pa_nil))) (by rfl)))))))
      (pss_one (ps_ret (pe_mkV (i := 0) K1_Amounts (hr.mono (by decide)) (passes_call (takes_of rfl rfl rfl rfl) (fun _ _ _ _ h => h)) (by rfl) (by first | exact .inl rfl | exact .inr (.inl rfl)) (pa_cons (pe_cc C__pairs_of (passes_call (takes_of rfl rfl rfl rfl) (fun _ _ _ _ h => h)) (hr.mono (by decide)) (pa_cons (pv 2) pa_nil)) pa_nil)))))),
    (ls_seq (ls_asg le_dnew (lg_name free_of))
      (ls_seq (ls_for (li_tup le_var) (lg_name free_of) (ls_seq (ls_drop (le_call (la_cons le_var la_nil)))
      (ls_seq (ls_for (li_tup (le_propN le_var)) (lg_tup (lgs_cons (lg_name free_of) (lgs_cons (lg_name free_of) lgs_nil))) (ls_seq (ls_dput le_var le_var (le_CB maxK (la_cons le_var (la_cons (le_dget2 le_var le_var le_int) la_nil)))) ls_next)) ls_next)))
      (ls_seq (ls_ret (le_mkV (fun _ _ => .nil) (la_cons (le_call (la_cons le_var la_nil)) la_nil))) ls_next)))⟩

theorem b_Amounts_lacks {f : Addr} (T : Txt K κ mg)  (C__lacking : CallOk P κ.w K mg base "_lacking" 1 ["one", "other"] (conc K κ F__lacking)) {K1_Amounts_d : List Value} (K1_Amounts : MkOk P κ.w K mg base "Amounts" (κ "Amounts") 4 ["self", "pairs"] K1_Amounts_d [] (conc K κ F_Amounts___init__)) (C_check_amounts : CallOk P κ.w K mg base "check_amounts" 1 ["value"] (conc K κ F_check_amounts)) : BodyOk P κ.w K mg base κ 5 ["self", "other"] "Amounts.lacks" s_Amounts_lacks f (
    (fSeq (fDrop (fCall F_check_amounts (fCons (fVar 1) fNil)))
    (fSeq (fRet (fMk "Amounts" F_Amounts___init__ [] (fCons (fCall F__lacking (fCons (fVar 0) (fCons (fVar 1) fNil))) fNil))) fNext))) :=
  fun cdv A outer s H E hr => ⟨_, (pss_cons (ps_expr (pe_cc C_check_amounts (passes_call (takes_of rfl rfl rfl rfl) (fun _ _ _ _ h => h)) (hr.mono (by decide)) (pa_cons (pv 1) pa_nil)))
      (pss_one (ps_ret (pe_mkC K1_Amounts (hr.mono (by decide)) (passes_call (takes_of rfl rfl rfl rfl) (fun _ _ _ _ h => h)) (pa_cons (pe_cc C__lacking (passes_call (takes_of rfl rfl rfl rfl) (fun _ _ _ _ h => h)) (hr.mono (by decide)) (pa_cons (pv 0) (pa_cons (pv 1) pa_nil))) pa_nil))))),
    (ls_seq (ls_drop (le_call (la_cons le_var la_nil)))
      (ls_seq (ls_ret (le_mk (fun _ _ => .nil) (la_cons (le_call (la_cons le_var (la_cons le_var la_nil))) la_nil))) ls_next))⟩

theorem b_sure_amounts {f : Addr} (T : Txt K κ mg)  {K0_Amounts_d : List Value} (K0_Amounts : MkOk P κ.w K mg base "Amounts" (κ "Amounts") 4 ["self", "pairs"] K0_Amounts_d [V.ref (κ "()Amounts")] (conc K κ F_Amounts___init__)) : BodyOk P κ.w K mg base κ 5 ["pairs", "made"] "sure_amounts" s_sure_amounts f (
    (fSeq (fAsg (fMkM "Amounts" F_Amounts___init__ [.tup []] fNil) (fgName 1))
    (fSeq (fsFld "Amounts" "_pairs" (fVar 1) (fVar 0))
    (fSeq (fsFld "Amounts" "_numbers" (fVar 1) (fCB gDict (fCons (fVar 0) fNil)))
    (fSeq (fRet (fVar 1)) fNext))))) :=
  fun cdv A outer s H E hr => ⟨_, (pss_cons (ps_set (i := 1) sc_sure_amounts.nd rfl (Or.inl rfl) (pe_mkC0 K0_Amounts (hr.mono (by decide)) (passes_call (takes_of rfl rfl rfl rfl) (fun _ _ _ _ h => h))))
      (pss_cons (ps_fld (pv 1) (pv 0) (by rfl))
      (pss_cons (ps_fld (pv 1) (pe_callTy (call_dictN K rfl) (by rfl) T.n_dict (by decide +kernel) (pa_cons (pv 0) pa_nil)) (by rfl))
      (pss_one (ps_ret (pv 1)))))),
    (ls_seq (ls_asg (le_mkM T.dfl_Amounts la_nil) (lg_name free_of))
      (ls_seq (ls_fld T.l_Amounts T.na_Amounts__pairs le_var le_var)
      (ls_seq (ls_fld T.l_Amounts T.na_Amounts__numbers le_var (le_CB dictK (la_cons le_var la_nil)))
      (ls_seq (ls_ret le_var) ls_next))))⟩

theorem b_Amounts___add__ {f : Addr} (T : Txt K κ mg)  (C_sure_amounts : CallOk P κ.w K mg base "sure_amounts" 6 ["pairs"] (conc K κ F_sure_amounts)) (C__pairs_of : CallOk P κ.w K mg base "_pairs_of" 1 ["numbers"] (conc K κ F__pairs_of)) : BodyOk P κ.w K mg base κ 6 ["self", "other", "numbers", "kind", "number"] "Amounts.__add__" s_Amounts___add__ f (
    (fSeq (fIfS (fNot (fTru (fCB (gIsiX ["Amounts"]) (fCons (fVar 1) (fCons (fC (.cls "Amounts")) fNil))))) (fSeq fNever fNext) fNext)
    (fSeq (fAsg (fCB gDict (fCons (fFld "Amounts" "_numbers" (fVar 0)) fNil)) (fgName 2))
    (fSeq (fFor (fiTup (fFld "Amounts" "_pairs" (fVar 1))) (fgTup 2 (fgCons (fgName 3) (fgCons (fgName 4) fgNil))) L_Amounts___add___1)
    (fSeq (fIfS (fOr (fTest (fOp gGt (fCB gLenD (fCons (fVar 2) fNil)) (fC (.int 60)))) (fTest (fOp gGt (fMaxVD 0 (fVar 2)) (fC (.int 1000000))))) (fSeq fNever fNext) fNext)
    (fSeq (fRet (fCall F_sure_amounts (fCons (fCall F__pairs_of (fCons (fVar 2) fNil)) fNil))) fNext)))))) :=
  fun cdv A outer s H E hr => ⟨_, (pss_cons (ps_if (pt_not (pt_truX (pe_callB (call_isiN K) (by rfl) T.n_isinstance (by decide +kernel) (pa_cons (pv 1) (pa_cons (pe_gR T.c_Amounts) pa_nil))))) (pss_one ps_never) pss_nil)
      (pss_cons (ps_set (i := 2) sc_Amounts___add__.nd rfl (Or.inl rfl) (pe_callTy (call_dictN K rfl) (by rfl) T.n_dict (by decide +kernel) (pa_cons (pe_fldK K (pv 0) (by rfl)) pa_nil)))
      (pss_cons (ps_for (passes_of rfl) rfl (pi_tup (pe_fldK K (pv 1) (by rfl))) (pg_tup rfl (pgs_cons (pg_name (i := 3) sc_Amounts___add__.nd rfl (Or.inl rfl)) (pgs_cons (pg_name (i := 4) sc_Amounts___add__.nd rfl (Or.inl rfl)) pgs_nil))) (pss_one (ps_dput (hu_of hr) (pv 2) (pv 3) (pe_op op_addG (pe_dget2 (hu_of hr) (pv 2) (pv 3) pe_int ⟨rfl, rfl, rfl, rfl⟩) (pv 4)) (by rfl))))
      (pss_cons (ps_if (PW.pt (pw_or (pt_cmpR op_gtG (pe_callB G.call_lenD (by rfl) T.n_len (by decide +kernel) (pa_cons (pv 2) pa_nil)) (pe_gI T.g_MAX_KINDS) (nomark _)) (pw_or1 (pt_cmpR op_gtG (pe_maxVD rfl (by rfl) T.n_max (pv 2)) (pe_gI T.g_MAX_AMOUNT) (nomark _))))) (pss_one ps_never) pss_nil)
      (pss_one (ps_ret (pe_cc C_sure_amounts (passes_call (takes_of rfl rfl rfl rfl) (fun _ _ _ _ h => h)) (hr.mono (by decide)) (pa_cons (pe_cc C__pairs_of (passes_call (takes_of rfl rfl rfl rfl) (fun _ _ _ _ h => h)) (hr.mono (by decide)) (pa_cons (pv 2) pa_nil)) pa_nil)))))))),
    (ls_seq (ls_if (lt_not (lt_tru (le_CB (isiXK T.isok_Amounts) (la_cons le_var (la_cons le_cls la_nil))))) (ls_seq ls_never ls_next) ls_next)
      (ls_seq (ls_asg (le_CB dictK (la_cons (le_fld T.l_Amounts T.na_Amounts__numbers le_var) la_nil)) (lg_name free_of))
      (ls_seq (ls_for (li_tup (le_fld T.l_Amounts T.na_Amounts__pairs le_var)) (lg_tup (lgs_cons (lg_name free_of) (lgs_cons (lg_name free_of) lgs_nil))) (ls_seq (ls_dput le_var le_var (le_op raddK (le_dget2 le_var le_var le_int) le_var)) ls_next))
      (ls_seq (ls_if (lt_or (lt_test (le_op rgtK (le_CB lenDK (la_cons le_var la_nil)) le_int)) (lt_test (le_op rgtK (le_maxVD le_var) le_int))) (ls_seq ls_never ls_next) ls_next)
      (ls_seq (ls_ret (le_call (la_cons (le_call (la_cons le_var la_nil)) la_nil))) ls_next)))))⟩

theorem b__law_covers_right {f : Addr} (T : Txt K κ mg)  (M_Amounts_covers : MetOk P κ.w K mg base (κ "Amounts") "covers" 2 ["self", "other"] (conc K κ F_Amounts_covers)) {K0_Amounts_d : List Value} (K0_Amounts : MkOk P κ.w K mg base "Amounts" (κ "Amounts") 4 ["self", "pairs"] K0_Amounts_d [V.ref (κ "()Amounts")] (conc K κ F_Amounts___init__)) (M_Amounts___eq__ : MetOk P κ.w K mg base (κ "Amounts") "__eq__" 1 ["self", "other"] (conc K κ F_Amounts___eq__)) (M_Amounts_lacks : MetOk P κ.w K mg base (κ "Amounts") "lacks" 6 ["self", "other"] (conc K κ F_Amounts_lacks)) (M_Amounts___add__ : MetOk P κ.w K mg base (κ "Amounts") "__add__" 7 ["self", "other"] (conc K κ F_Amounts___add__)) (X_Amounts_cover_of : ClmOk P κ.w K mg base (κ "Amounts") "cover_of" 6 (conc K κ (fStar 1 F_Amounts_cover_of))) : BodyOk P κ.w K mg base κ 8 ["one", "other", "third", "least"] "_law_covers_right" s__law_covers_right f (
    (fSeq (fAsg (fCMeth "Amounts" (fStar 1 F_Amounts_cover_of) (fC (.cls "Amounts")) (fCons (fVar 0) (fCons (fVar 1) fNil))) (fgName 3))
    (fSeq (fIfS (fOr (fNot (fTru (fMeth "Amounts" "covers" F_Amounts_covers (fVar 3) (fCons (fVar 0) fNil)))) (fOr (fNot (fTru (fMeth "Amounts" "covers" F_Amounts_covers (fVar 3) (fCons (fVar 1) fNil)))) (fTest (fOp (gOwnNe "Amounts" F_Amounts___eq__) (fVar 3) (fCMeth "Amounts" (fStar 1 F_Amounts_cover_of) (fC (.cls "Amounts")) (fCons (fVar 1) (fCons (fVar 0) (fCons (fVar 0) fNil)))))))) (fSeq (fRet (fC (.bl false))) fNext) fNext)
    (fSeq (fIfS (fTest (fOp (gOwnNe "Amounts" F_Amounts___eq__) (fCMeth "Amounts" (fStar 1 F_Amounts_cover_of) (fC (.cls "Amounts")) (fCons (fVar 3) (fCons (fVar 2) fNil))) (fCMeth "Amounts" (fStar 1 F_Amounts_cover_of) (fC (.cls "Amounts")) (fCons (fVar 0) (fCons (fVar 1) (fCons (fVar 2) fNil)))))) (fSeq (fRet (fC (.bl false))) fNext) fNext)
    (fSeq (fIfS (fTest (fOp gNe (fMeth "Amounts" "covers" F_Amounts_covers (fVar 2) (fCons (fVar 3) fNil)) (fAndV (fMeth "Amounts" "covers" F_Amounts_covers (fVar 2) (fCons (fVar 0) fNil)) (fMeth "Amounts" "covers" F_Amounts_covers (fVar 2) (fCons (fVar 1) fNil))))) (fSeq (fRet (fC (.bl false))) fNext) fNext)
    (fSeq (fIfS (fOr (fTest (fOp (gOwnNe "Amounts" F_Amounts___eq__) (fOp (gOwn "Amounts" F_Amounts___add__) (fVar 0) (fMeth "Amounts" "lacks" F_Amounts_lacks (fVar 0) (fCons (fVar 1) fNil))) (fVar 3))) (fTest (fOp (gOwnNe "Amounts" F_Amounts___eq__) (fOp (gOwn "Amounts" F_Amounts___add__) (fVar 1) (fMeth "Amounts" "lacks" F_Amounts_lacks (fVar 1) (fCons (fVar 0) fNil))) (fVar 3)))) (fSeq (fRet (fC (.bl false))) fNext) fNext)
    (fSeq (fIfS (fAnd (fTru (fMeth "Amounts" "covers" F_Amounts_covers (fVar 0) (fCons (fVar 1) fNil))) (fAnd (fTru (fMeth "Amounts" "covers" F_Amounts_covers (fVar 1) (fCons (fVar 2) fNil))) (fNot (fTru (fMeth "Amounts" "covers" F_Amounts_covers (fVar 0) (fCons (fVar 2) fNil)))))) (fSeq (fRet (fC (.bl false))) fNext) fNext)
    (fSeq (fRet (fAndV (fOp gEq (fAndV (fMeth "Amounts" "covers" F_Amounts_covers (fVar 0) (fCons (fVar 1) fNil)) (fMeth "Amounts" "covers" F_Amounts_covers (fVar 1) (fCons (fVar 0) fNil))) (fOp (gOwn "Amounts" F_Amounts___eq__) (fVar 0) (fVar 1))) (fMeth "Amounts" "covers" F_Amounts_covers (fVar 0) (fCons (fMk "Amounts" F_Amounts___init__ [.tup []] fNil) fNil)))) fNext)))))))) :=
  fun cdv A outer s H E hr => ⟨_, (pss_cons (ps_set (i := 3) sc__law_covers_right.nd rfl (Or.inl rfl) (pe_cmC X_Amounts_cover_of (hr.mono (by decide)) (passes_call (takes_of rfl rfl rfl rfl) (fun _ _ _ _ h => h)) (pe_gR T.c_Amounts) (pa_cons (pv 0) (pa_cons (pv 1) pa_nil))))
      (pss_cons (ps_if (PW.pt (pw_or (pt_not (pt_truX (pe_mC T.l_Amounts M_Amounts_covers (hr.mono (by decide)) (passes_call (takes_of rfl rfl rfl rfl) (fun _ _ _ _ h => h)) (pv 3) (pa_cons (pv 0) pa_nil)))) (pw_or (pt_not (pt_truX (pe_mC T.l_Amounts M_Amounts_covers (hr.mono (by decide)) (passes_call (takes_of rfl rfl rfl rfl) (fun _ _ _ _ h => h)) (pv 3) (pa_cons (pv 1) pa_nil)))) (pw_or1 (pt_cmpR (op_ownNe M_Amounts___eq__ T.ne_Amounts T.ob_Amounts (units1 hr) (Room.in1 (hr.mono (by decide))) (passes_call (takes_of rfl rfl rfl rfl) (fun _ _ _ _ h => h))) (pv 3) (pe_cmC X_Amounts_cover_of (hr.mono (by decide)) (passes_call (takes_of rfl rfl rfl rfl) (fun _ _ _ _ h => h)) (pe_gR T.c_Amounts) (pa_cons (pv 1) (pa_cons (pv 0) (pa_cons (pv 0) pa_nil)))) (nomark _)))))) (pss_one (ps_ret pe_bl)) pss_nil)
      (pss_cons (ps_if (pt_cmpR (op_ownNe M_Amounts___eq__ T.ne_Amounts T.ob_Amounts (units1 hr) (Room.in1 (hr.mono (by decide))) (passes_call (takes_of rfl rfl rfl rfl) (fun _ _ _ _ h => h))) (pe_cmC X_Amounts_cover_of (hr.mono (by decide)) (passes_call (takes_of rfl rfl rfl rfl) (fun _ _ _ _ h => h)) (pe_gR T.c_Amounts) (pa_cons (pv 3) (pa_cons (pv 2) pa_nil))) (pe_cmC X_Amounts_cover_of (hr.mono (by decide)) (passes_call (takes_of rfl rfl rfl rfl) (fun _ _ _ _ h => h)) (pe_gR T.c_Amounts) (pa_cons (pv 0) (pa_cons (pv 1) (pa_cons (pv 2) pa_nil)))) (nomark _)) (pss_one (ps_ret pe_bl)) pss_nil)
      (pss_cons (ps_if (pt_cmpR (op_neG hr.units) (pe_mC T.l_Amounts M_Amounts_covers (hr.mono (by decide)) (passes_call (takes_of rfl rfl rfl rfl) (fun _ _ _ _ h => h)) (pv 2) (pa_cons (pv 3) pa_nil)) (pe_and (pe_mC T.l_Amounts M_Amounts_covers (hr.mono (by decide)) (passes_call (takes_of rfl rfl rfl rfl) (fun _ _ _ _ h => h)) (pv 2) (pa_cons (pv 0) pa_nil)) (pe_one (pe_mC T.l_Amounts M_Amounts_covers (hr.mono (by decide)) (passes_call (takes_of rfl rfl rfl rfl) (fun _ _ _ _ h => h)) (pv 2) (pa_cons (pv 1) pa_nil)))) (nomark _)) (pss_one (ps_ret pe_bl)) pss_nil)
      (pss_cons (ps_if (PW.pt (pw_or (pt_cmpR (op_ownNe M_Amounts___eq__ T.ne_Amounts T.ob_Amounts (units1 hr) (Room.in1 (hr.mono (by decide))) (passes_call (takes_of rfl rfl rfl rfl) (fun _ _ _ _ h => h))) (pe_op (op_own M_Amounts___add__ rfl T.sf_Amounts (hr.mono (by decide)) (passes_call (takes_of rfl rfl rfl rfl) (fun _ _ _ _ h => h))) (pv 0) (pe_mC T.l_Amounts M_Amounts_lacks (hr.mono (by decide)) (passes_call (takes_of rfl rfl rfl rfl) (fun _ _ _ _ h => h)) (pv 0) (pa_cons (pv 1) pa_nil))) (pv 3) (nomark _)) (pw_or1 (pt_cmpR (op_ownNe M_Amounts___eq__ T.ne_Amounts T.ob_Amounts (units1 hr) (Room.in1 (hr.mono (by decide))) (passes_call (takes_of rfl rfl rfl rfl) (fun _ _ _ _ h => h))) (pe_op (op_own M_Amounts___add__ rfl T.sf_Amounts (hr.mono (by decide)) (passes_call (takes_of rfl rfl rfl rfl) (fun _ _ _ _ h => h))) (pv 1) (pe_mC T.l_Amounts M_Amounts_lacks (hr.mono (by decide)) (passes_call (takes_of rfl rfl rfl rfl) (fun _ _ _ _ h => h)) (pv 1) (pa_cons (pv 0) pa_nil))) (pv 3) (nomark _))))) (pss_one (ps_ret pe_bl)) pss_nil)
      (pss_cons (ps_if (PW.pt (pw_and (pt_truX (pe_mC T.l_Amounts M_Amounts_covers (hr.mono (by decide)) (passes_call (takes_of rfl rfl rfl rfl) (fun _ _ _ _ h => h)) (pv 0) (pa_cons (pv 1) pa_nil))) (pw_and (pt_truX (pe_mC T.l_Amounts M_Amounts_covers (hr.mono (by decide)) (passes_call (takes_of rfl rfl rfl rfl) (fun _ _ _ _ h => h)) (pv 1) (pa_cons (pv 2) pa_nil))) (pw_and1 (pt_not (pt_truX (pe_mC T.l_Amounts M_Amounts_covers (hr.mono (by decide)) (passes_call (takes_of rfl rfl rfl rfl) (fun _ _ _ _ h => h)) (pv 0) (pa_cons (pv 2) pa_nil)))))))) (pss_one (ps_ret pe_bl)) pss_nil)
      (pss_one (ps_ret (pe_and (pe_cmpR (op_eqG hr.units) (pe_and (pe_mC T.l_Amounts M_Amounts_covers (hr.mono (by decide)) (passes_call (takes_of rfl rfl rfl rfl) (fun _ _ _ _ h => h)) (pv 0) (pa_cons (pv 1) pa_nil)) (pe_one (pe_mC T.l_Amounts M_Amounts_covers (hr.mono (by decide)) (passes_call (takes_of rfl rfl rfl rfl) (fun _ _ _ _ h => h)) (pv 1) (pa_cons (pv 0) pa_nil)))) (pe_cmpR (op_ownEq M_Amounts___eq__ hr.units0 (hr.mono (by decide)) (passes_call (takes_of rfl rfl rfl rfl) (fun _ _ _ _ h => h))) (pv 0) (pv 1) (nomark _)) (nomark _)) (pe_one (pe_mC T.l_Amounts M_Amounts_covers (hr.mono (by decide)) (passes_call (takes_of rfl rfl rfl rfl) (fun _ _ _ _ h => h)) (pv 0) (pa_cons (pe_mkC0 K0_Amounts (hr.mono (by decide)) (passes_call (takes_of rfl rfl rfl rfl) (fun _ _ _ _ h => h))) pa_nil)))))))))))),
    (ls_seq (ls_asg (le_cmeth le_cls (la_cons le_var (la_cons le_var la_nil))) (lg_name free_of))
      (ls_seq (ls_if (lt_or (lt_not (lt_tru (le_meth le_var (la_cons le_var la_nil)))) (lt_or (lt_not (lt_tru (le_meth le_var (la_cons le_var la_nil)))) (lt_test (le_opX ownNeK le_var (le_cmeth le_cls (la_cons le_var (la_cons le_var (la_cons le_var la_nil)))))))) (ls_seq (ls_ret le_bl) ls_next) ls_next)
      (ls_seq (ls_if (lt_test (le_opX ownNeK (le_cmeth le_cls (la_cons le_var (la_cons le_var la_nil))) (le_cmeth le_cls (la_cons le_var (la_cons le_var (la_cons le_var la_nil)))))) (ls_seq (ls_ret le_bl) ls_next) ls_next)
      (ls_seq (ls_if (lt_test (le_op rneK (le_meth le_var (la_cons le_var la_nil)) (le_andV (le_meth le_var (la_cons le_var la_nil)) (le_meth le_var (la_cons le_var la_nil))))) (ls_seq (ls_ret le_bl) ls_next) ls_next)
      (ls_seq (ls_if (lt_or (lt_test (le_opX ownNeK (le_opX ownK le_var (le_meth le_var (la_cons le_var la_nil))) le_var)) (lt_test (le_opX ownNeK (le_opX ownK le_var (le_meth le_var (la_cons le_var la_nil))) le_var))) (ls_seq (ls_ret le_bl) ls_next) ls_next)
      (ls_seq (ls_if (lt_and (lt_tru (le_meth le_var (la_cons le_var la_nil))) (lt_and (lt_tru (le_meth le_var (la_cons le_var la_nil))) (lt_not (lt_tru (le_meth le_var (la_cons le_var la_nil)))))) (ls_seq (ls_ret le_bl) ls_next) ls_next)
      (ls_seq (ls_ret (le_andV (le_op reqK (le_andV (le_meth le_var (la_cons le_var la_nil)) (le_meth le_var (la_cons le_var la_nil))) (le_opX ownK le_var le_var)) (le_meth le_var (la_cons (le_mk T.dfl_Amounts la_nil) la_nil)))) ls_next)))))))⟩

theorem b_is_whole {f : Addr} (T : Txt K κ mg)   : BodyOk P κ.w K mg base κ 0 ["value"] "is_whole" s_is_whole f (
    (fSeq (fRet (fAndV (fCB gIsi (fCons (fVar 0) (fCons (fC (.ty "int")) fNil))) (fAndV (fNotV (fCB gIsi (fCons (fVar 0) (fCons (fC (.ty "bool")) fNil)))) (fOp gLt (fCB gAbs (fCons (fVar 0) fNil)) (fC (.int 1000000000000000000000000000000000000000000000000000000000000)))))) fNext)) :=
  fun cdv A outer s H E hr => ⟨_, (pss_one (ps_ret (pe_and (pe_callB (call_isiN K) (by rfl) T.n_isinstance (by decide +kernel) (pa_cons (pv 0) (pa_cons (pe_bltn (v := .ty "int") (by rfl) T.n_int (by decide +kernel) rfl) pa_nil))) (pe_and (pe_not (pe_callB (call_isiN K) (by rfl) T.n_isinstance (by decide +kernel) (pa_cons (pv 0) (pa_cons (pe_bltn (v := .ty "bool") (by rfl) T.n_bool (by decide +kernel) rfl) pa_nil)))) (pe_one (pe_cmpR op_ltG (pe_callB call_absG (by rfl) T.n_abs (by decide +kernel) (pa_cons (pv 0) pa_nil)) (pe_gI T.g_TOO_LONG) (nomark _))))))),
    (ls_seq (ls_ret (le_andV (le_CB isiK (la_cons le_var (la_cons le_ty la_nil))) (le_andV (le_notV (le_CB isiK (la_cons le_var (la_cons le_ty la_nil)))) (le_op rltK (le_CB absK (la_cons le_var la_nil)) le_int)))) ls_next)⟩

theorem b_Amounts___mul__ {f : Addr} (T : Txt K κ mg)  {K1_Amounts_d : List Value} (K1_Amounts : MkOk P κ.w K mg base "Amounts" (κ "Amounts") 4 ["self", "pairs"] K1_Amounts_d [] (conc K κ F_Amounts___init__)) (C_is_whole : CallOk P κ.w K mg base "is_whole" 1 ["value"] (conc K κ F_is_whole)) : BodyOk P κ.w K mg base κ 5 ["self", "other", "kind", "number"] "Amounts.__mul__" s_Amounts___mul__ f (
    (fSeq (fIfS (fNot (fTru (fCall F_is_whole (fCons (fVar 1) fNil)))) (fSeq fNever fNext) fNext)
    (fSeq (fIfS (fTest (fOp gLt (fVar 1) (fC (.int 0)))) (fSeq fNever fNext) fNext)
    (fSeq (fRet (fMk "Amounts" F_Amounts___init__ [] (fCons (fCB gTuple (fCons (fLc (fiTup (fFld "Amounts" "_pairs" (fVar 0))) (fgTup 2 (fgCons (fgName 2) (fgCons (fgName 3) fgNil))) (fTest (fOp gGt (fVar 1) (fC (.int 0)))) (fTup (fCons (fVar 2) (fCons (fOp gMul (fVar 3) (fVar 1)) fNil))) [2, 3]) fNil)) fNil))) fNext)))) :=
  fun cdv A outer s H E hr => ⟨_, (pss_cons (ps_if (pt_not (pt_truX (pe_cc C_is_whole (passes_call (takes_of rfl rfl rfl rfl) (fun _ _ _ _ h => h)) (hr.mono (by decide)) (pa_cons (pv 1) pa_nil)))) (pss_one ps_never) pss_nil)
      (pss_cons (ps_if (pt_cmpR op_ltG (pv 1) pe_int (nomark _)) (pss_one ps_never) pss_nil)
      (pss_one (ps_ret (pe_mkC K1_Amounts (hr.mono (by decide)) (passes_call (takes_of rfl rfl rfl rfl) (fun _ _ _ _ h => h)) (pa_cons (pe_callTy (call_tupleN K) (by rfl) T.n_tuple (by decide +kernel) (pa_cons (pe_lc (own := [("kind", 2), ("number", 3)]) (g := (gTup K 2 (gCons (gName 2) (gCons (gName 3) gNil)))) rfl sc_Amounts___mul__.nd (pi_tup (pe_fldK K (pv 0) (by rfl))) (blkOk_by (own := [("kind", 2), ("number", 3)]) (N := ["self", "other", "kind", "number"]) (sc := defScope s_Amounts___mul__) (by decide +kernel)) (fun _ _ _ _ _ => (pg_tup rfl (pgs_cons (pg_name (i := 2) sc_Amounts___mul__.nd rfl (Or.inl rfl)) (pgs_cons (pg_name (i := 3) sc_Amounts___mul__.nd rfl (Or.inl rfl)) pgs_nil)))) (fun _ _ _ _ _ => (pts_one (pt_cmpR op_gtG (pv 1) pe_int (nomark _)))) (fun _ _ _ _ _ => (pe_tupF (pa_cons (pv 2) (pa_cons (pe_op op_mulG (pv 3) (pv 1)) pa_nil))))) pa_nil)) pa_nil)))))),
    (ls_seq (ls_if (lt_not (lt_tru (le_call (la_cons le_var la_nil)))) (ls_seq ls_never ls_next) ls_next)
      (ls_seq (ls_if (lt_test (le_op rltK le_var le_int)) (ls_seq ls_never ls_next) ls_next)
      (ls_seq (ls_ret (le_mk (fun _ _ => .nil) (la_cons (le_CB tupleK (la_cons (le_lc (li_tup (le_fld T.l_Amounts T.na_Amounts__pairs le_var)) (lg_tup (lgs_cons (lg_name free_of) (lgs_cons (lg_name free_of) lgs_nil))) (gw_tup (gws_cons' (gw_name (by decide)) (gws_cons' (gw_name (by decide)) gws_nil gm_name gms_nil) gm_name (gms_cons gm_name gms_nil))) (gm_tup (gms_cons gm_name (gms_cons gm_name gms_nil))) (lt_test (le_op rgtK le_var le_int)) (le_tup (la_cons le_var (la_cons (le_op rmulK le_var le_var) la_nil)))) la_nil)) la_nil))) ls_next)))⟩

theorem b_Amounts___sub__ {f : Addr} (T : Txt K κ mg)  {K1_Amounts_d : List Value} (K1_Amounts : MkOk P κ.w K mg base "Amounts" (κ "Amounts") 4 ["self", "pairs"] K1_Amounts_d [] (conc K κ F_Amounts___init__)) (C__lacking : CallOk P κ.w K mg base "_lacking" 1 ["one", "other"] (conc K κ F__lacking)) : BodyOk P κ.w K mg base κ 5 ["self", "other", "lacking", "rest", "kind", "number"] "Amounts.__sub__" s_Amounts___sub__ f (
    (fSeq (fIfS (fNot (fTru (fCB (gIsiX ["Amounts"]) (fCons (fVar 1) (fCons (fC (.cls "Amounts")) fNil))))) (fSeq fNever fNext) fNext)
    (fSeq (fAsg (fCall F__lacking (fCons (fVar 0) (fCons (fVar 1) fNil))) (fgName 2))
    (fSeq (fIfS (fTru (fVar 2)) (fSeq fNever fNext) fNext)
    (fSeq (fAsg (fLc (fiTup (fFld "Amounts" "_pairs" (fVar 0))) (fgTup 2 (fgCons (fgName 4) (fgCons (fgName 5) fgNil))) fYes (fTup (fCons (fVar 4) (fCons (fOp gSubI (fVar 5) (fDGet2 (fFld "Amounts" "_numbers" (fVar 1)) (fVar 4) (fC (.int 0)))) fNil))) [4, 5]) (fgName 3))
    (fSeq (fRet (fMk "Amounts" F_Amounts___init__ [] (fCons (fCB gTuple (fCons (fLc (fiList (fVar 3)) (fgTup 2 (fgCons (fgName 4) (fgCons (fgName 5) fgNil))) (fTest (fOp gGt (fVar 5) (fC (.int 0)))) (fTup (fCons (fVar 4) (fCons (fVar 5) fNil))) [4, 5]) fNil)) fNil))) fNext)))))) :=
  fun cdv A outer s H E hr => ⟨_, (pss_cons (ps_if (pt_not (pt_truX (pe_callB (call_isiN K) (by rfl) T.n_isinstance (by decide +kernel) (pa_cons (pv 1) (pa_cons (pe_gR T.c_Amounts) pa_nil))))) (pss_one ps_never) pss_nil)
      (pss_cons (ps_set (i := 2) sc_Amounts___sub__.nd rfl (Or.inl rfl) (pe_cc C__lacking (passes_call (takes_of rfl rfl rfl rfl) (fun _ _ _ _ h => h)) (hr.mono (by decide)) (pa_cons (pv 0) (pa_cons (pv 1) pa_nil))))
      (pss_cons (ps_if (pt_truX (pv 2)) (pss_one ps_never) pss_nil)
      (pss_cons (ps_setLc (i := 3) (own := [("kind", 4), ("number", 5)]) (g := (gTup K 2 (gCons (gName 4) (gCons (gName 5) gNil)))) rfl sc_Amounts___sub__.nd rfl rfl (sw_true rfl rfl rfl (by decide +kernel)) (pi_tup (pe_fldK K (pv 0) (by rfl))) (blkOk_by (own := [("kind", 4), ("number", 5)]) (N := ["self", "other", "lacking", "rest", "kind", "number"]) (sc := defScope s_Amounts___sub__) (by decide +kernel)) (fun _ _ _ _ _ => (pg_tup rfl (pgs_cons (pg_name (i := 4) sc_Amounts___sub__.nd rfl (Or.inl rfl)) (pgs_cons (pg_name (i := 5) sc_Amounts___sub__.nd rfl (Or.inl rfl)) pgs_nil)))) (fun _ _ _ _ _ => pts_nil) (fun _ _ _ _ _ => (pe_tupF (pa_cons (pv 4) (pa_cons (pe_op op_subG (pv 5) (pe_dget2 (hu_of hr) (pe_fldK K (pv 1) (by rfl)) (pv 4) pe_int ⟨rfl, rfl, rfl, rfl⟩)) pa_nil)))))
      (pss_one (ps_ret (pe_mkC K1_Amounts (hr.mono (by decide)) (passes_call (takes_of rfl rfl rfl rfl) (fun _ _ _ _ h => h)) (pa_cons (pe_callTy (call_tupleN K) (by rfl) T.n_tuple (by decide +kernel) (pa_cons (pe_lc (own := [("kind", 4), ("number", 5)]) (g := (gTup K 2 (gCons (gName 4) (gCons (gName 5) gNil)))) rfl sc_Amounts___sub__.nd (pi_list (pv 3)) (blkOk_by (own := [("kind", 4), ("number", 5)]) (N := ["self", "other", "lacking", "rest", "kind", "number"]) (sc := defScope s_Amounts___sub__) (by decide +kernel)) (fun _ _ _ _ _ => (pg_tup rfl (pgs_cons (pg_name (i := 4) sc_Amounts___sub__.nd rfl (Or.inl rfl)) (pgs_cons (pg_name (i := 5) sc_Amounts___sub__.nd rfl (Or.inl rfl)) pgs_nil)))) (fun _ _ _ _ _ => (pts_one (pt_cmpR op_gtG (pv 5) pe_int (nomark _)))) (fun _ _ _ _ _ => (pe_tupF (pa_cons (pv 4) (pa_cons (pv 5) pa_nil))))) pa_nil)) pa_nil)))))))),
    (ls_seq (ls_if (lt_not (lt_tru (le_CB (isiXK T.isok_Amounts) (la_cons le_var (la_cons le_cls la_nil))))) (ls_seq ls_never ls_next) ls_next)
      (ls_seq (ls_asg (le_call (la_cons le_var (la_cons le_var la_nil))) (lg_name free_of))
      (ls_seq (ls_if (lt_tru le_var) (ls_seq ls_never ls_next) ls_next)
      (ls_seq (ls_asg (le_lc (li_tup (le_fld T.l_Amounts T.na_Amounts__pairs le_var)) (lg_tup (lgs_cons (lg_name free_of) (lgs_cons (lg_name free_of) lgs_nil))) (gw_tup (gws_cons' (gw_name (by decide)) (gws_cons' (gw_name (by decide)) gws_nil gm_name gms_nil) gm_name (gms_cons gm_name gms_nil))) (gm_tup (gms_cons gm_name (gms_cons gm_name gms_nil))) lt_yes (le_tup (la_cons le_var (la_cons (le_op rsubK le_var (le_dget2 (le_fld T.l_Amounts T.na_Amounts__numbers le_var) le_var le_int)) la_nil)))) (lg_name free_of))
      (ls_seq (ls_ret (le_mk (fun _ _ => .nil) (la_cons (le_CB tupleK (la_cons (le_lc (li_list le_var) (lg_tup (lgs_cons (lg_name free_of) (lgs_cons (lg_name free_of) lgs_nil))) (gw_tup (gws_cons' (gw_name (by decide)) (gws_cons' (gw_name (by decide)) gws_nil gm_name gms_nil) gm_name (gms_cons gm_name gms_nil))) (gm_tup (gms_cons gm_name (gms_cons gm_name gms_nil))) (lt_test (le_op rgtK le_var le_int)) (le_tup (la_cons le_var (la_cons le_var la_nil)))) la_nil)) la_nil))) ls_next)))))⟩

theorem b__law_sums_right {f : Addr} (T : Txt K κ mg)  (M_Amounts___eq__ : MetOk P κ.w K mg base (κ "Amounts") "__eq__" 1 ["self", "other"] (conc K κ F_Amounts___eq__)) (M_Amounts___mul__ : MetOk P κ.w K mg base (κ "Amounts") "__mul__" 6 ["self", "other"] (conc K κ F_Amounts___mul__)) {K0_Amounts_d : List Value} (K0_Amounts : MkOk P κ.w K mg base "Amounts" (κ "Amounts") 4 ["self", "pairs"] K0_Amounts_d [V.ref (κ "()Amounts")] (conc K κ F_Amounts___init__)) (M_Amounts___add__ : MetOk P κ.w K mg base (κ "Amounts") "__add__" 7 ["self", "other"] (conc K κ F_Amounts___add__)) (M_Amounts___sub__ : MetOk P κ.w K mg base (κ "Amounts") "__sub__" 6 ["self", "other"] (conc K κ F_Amounts___sub__)) : BodyOk P κ.w K mg base κ 8 ["one", "other", "third", "whole"] "_law_sums_right" s__law_sums_right f (
    (fSeq (fIfS (fOr (fTest (fOp (gOwnNe "Amounts" F_Amounts___eq__) (fOp (gOwn "Amounts" F_Amounts___add__) (fVar 0) (fVar 1)) (fOp (gOwn "Amounts" F_Amounts___add__) (fVar 1) (fVar 0)))) (fTest (fOp (gOwnNe "Amounts" F_Amounts___eq__) (fOp (gOwn "Amounts" F_Amounts___add__) (fOp (gOwn "Amounts" F_Amounts___add__) (fVar 0) (fVar 1)) (fVar 2)) (fOp (gOwn "Amounts" F_Amounts___add__) (fVar 0) (fOp (gOwn "Amounts" F_Amounts___add__) (fVar 1) (fVar 2)))))) (fSeq (fRet (fC (.bl false))) fNext) fNext)
    (fSeq (fIfS (fOr (fTest (fOp (gOwnNe "Amounts" F_Amounts___eq__) (fOp (gOwn "Amounts" F_Amounts___add__) (fVar 0) (fMk "Amounts" F_Amounts___init__ [.tup []] fNil)) (fVar 0))) (fOr (fTest (fOp (gOwnNe "Amounts" F_Amounts___eq__) (fOp (gOwn "Amounts" F_Amounts___sub__) (fOp (gOwn "Amounts" F_Amounts___add__) (fVar 0) (fVar 1)) (fVar 1)) (fVar 0))) (fTest (fOp (gOwnNe "Amounts" F_Amounts___eq__) (fOp (gOwn "Amounts" F_Amounts___sub__) (fVar 0) (fVar 0)) (fMk "Amounts" F_Amounts___init__ [.tup []] fNil))))) (fSeq (fRet (fC (.bl false))) fNext) fNext)
    (fSeq (fAsg (fOp (gOwn "Amounts" F_Amounts___add__) (fOp (gOwnI "Amounts" F_Amounts___mul__) (fVar 0) (fC (.int 2))) (fOp (gOwnI "Amounts" F_Amounts___mul__) (fVar 1) (fC (.int 2)))) (fgName 3))
    (fSeq (fRet (fAndV (fOp (gOwn "Amounts" F_Amounts___eq__) (fOp (gOwnI "Amounts" F_Amounts___mul__) (fOp (gOwn "Amounts" F_Amounts___add__) (fVar 0) (fVar 1)) (fC (.int 2))) (fVar 3)) (fAndV (fOp (gOwn "Amounts" F_Amounts___eq__) (fOp (gOwnI "Amounts" F_Amounts___mul__) (fVar 0) (fC (.int 3))) (fOp (gOwn "Amounts" F_Amounts___add__) (fOp (gOwn "Amounts" F_Amounts___add__) (fVar 0) (fVar 0)) (fVar 0))) (fAndV (fOp (gOwn "Amounts" F_Amounts___eq__) (fOp (gOwnI "Amounts" F_Amounts___mul__) (fVar 0) (fC (.int 1))) (fVar 0)) (fOp (gOwn "Amounts" F_Amounts___eq__) (fOp (gOwnI "Amounts" F_Amounts___mul__) (fVar 0) (fC (.int 0))) (fMk "Amounts" F_Amounts___init__ [.tup []] fNil)))))) fNext))))) :=
  fun cdv A outer s H E hr => ⟨_, (pss_cons (ps_if (PW.pt (pw_or (pt_cmpR (op_ownNe M_Amounts___eq__ T.ne_Amounts T.ob_Amounts (units1 hr) (Room.in1 (hr.mono (by decide))) (passes_call (takes_of rfl rfl rfl rfl) (fun _ _ _ _ h => h))) (pe_op (op_own M_Amounts___add__ rfl T.sf_Amounts (hr.mono (by decide)) (passes_call (takes_of rfl rfl rfl rfl) (fun _ _ _ _ h => h))) (pv 0) (pv 1)) (pe_op (op_own M_Amounts___add__ rfl T.sf_Amounts (hr.mono (by decide)) (passes_call (takes_of rfl rfl rfl rfl) (fun _ _ _ _ h => h))) (pv 1) (pv 0)) (nomark _)) (pw_or1 (pt_cmpR (op_ownNe M_Amounts___eq__ T.ne_Amounts T.ob_Amounts (units1 hr) (Room.in1 (hr.mono (by decide))) (passes_call (takes_of rfl rfl rfl rfl) (fun _ _ _ _ h => h))) (pe_op (op_own M_Amounts___add__ rfl T.sf_Amounts (hr.mono (by decide)) (passes_call (takes_of rfl rfl rfl rfl) (fun _ _ _ _ h => h))) (pe_op (op_own M_Amounts___add__ rfl T.sf_Amounts (hr.mono (by decide)) (passes_call (takes_of rfl rfl rfl rfl) (fun _ _ _ _ h => h))) (pv 0) (pv 1)) (pv 2)) (pe_op (op_own M_Amounts___add__ rfl T.sf_Amounts (hr.mono (by decide)) (passes_call (takes_of rfl rfl rfl rfl) (fun _ _ _ _ h => h))) (pv 0) (pe_op (op_own M_Amounts___add__ rfl T.sf_Amounts (hr.mono (by decide)) (passes_call (takes_of rfl rfl rfl rfl) (fun _ _ _ _ h => h))) (pv 1) (pv 2))) (nomark _))))) (pss_one (ps_ret pe_bl)) pss_nil)
      (pss_cons (ps_if (PW.pt (pw_or (pt_cmpR (op_ownNe M_Amounts___eq__ T.ne_Amounts T.ob_Amounts (units1 hr) (Room.in1 (hr.mono (by decide))) (passes_call (takes_of rfl rfl rfl rfl) (fun _ _ _ _ h => h))) (pe_op (op_own M_Amounts___add__ rfl T.sf_Amounts (hr.mono (by decide)) (passes_call (takes_of rfl rfl rfl rfl) (fun _ _ _ _ h => h))) (pv 0) (pe_mkC0 K0_Amounts (hr.mono (by decide)) (passes_call (takes_of rfl rfl rfl rfl) (fun _ _ _ _ h => h)))) (pv 0) (nomark _)) (pw_or (pt_cmpR (op_ownNe M_Amounts___eq__ T.ne_Amounts T.ob_Amounts (units1 hr) (Room.in1 (hr.mono (by decide))) (passes_call (takes_of rfl rfl rfl rfl) (fun _ _ _ _ h => h))) (pe_op (op_own M_Amounts___sub__ rfl T.sf_Amounts (hr.mono (by decide)) (passes_call (takes_of rfl rfl rfl rfl) (fun _ _ _ _ h => h))) (pe_op (op_own M_Amounts___add__ rfl T.sf_Amounts (hr.mono (by decide)) (passes_call (takes_of rfl rfl rfl rfl) (fun _ _ _ _ h => h))) (pv 0) (pv 1)) (pv 1)) (pv 0) (nomark _)) (pw_or1 (pt_cmpR (op_ownNe M_Amounts___eq__ T.ne_Amounts T.ob_Amounts (units1 hr) (Room.in1 (hr.mono (by decide))) (passes_call (takes_of rfl rfl rfl rfl) (fun _ _ _ _ h => h))) (pe_op (op_own M_Amounts___sub__ rfl T.sf_Amounts (hr.mono (by decide)) (passes_call (takes_of rfl rfl rfl rfl) (fun _ _ _ _ h => h))) (pv 0) (pv 0)) (pe_mkC0 K0_Amounts (hr.mono (by decide)) (passes_call (takes_of rfl rfl rfl rfl) (fun _ _ _ _ h => h))) (nomark _)))))) (pss_one (ps_ret pe_bl)) pss_nil)
      (pss_cons (ps_set (i := 3) sc__law_sums_right.nd rfl (Or.inl rfl) (pe_op (op_own M_Amounts___add__ rfl T.sf_Amounts (hr.mono (by decide)) (passes_call (takes_of rfl rfl rfl rfl) (fun _ _ _ _ h => h))) (pe_op (op_ownI M_Amounts___mul__ rfl T.sf_Amounts T.r1_Amounts (.inl rfl) T.r2_Amounts T.r3_Amounts T.r4_Amounts (hr.mono (by decide)) (passes_call (takes_of rfl rfl rfl rfl) (fun _ _ _ _ h => h))) (pv 0) pe_int) (pe_op (op_ownI M_Amounts___mul__ rfl T.sf_Amounts T.r1_Amounts (.inl rfl) T.r2_Amounts T.r3_Amounts T.r4_Amounts (hr.mono (by decide)) (passes_call (takes_of rfl rfl rfl rfl) (fun _ _ _ _ h => h))) (pv 1) pe_int)))
      (pss_one (ps_ret (pe_and (pe_cmpR (op_ownEq M_Amounts___eq__ hr.units0 (hr.mono (by decide)) (passes_call (takes_of rfl rfl rfl rfl) (fun _ _ _ _ h => h))) (pe_op (op_ownI M_Amounts___mul__ rfl T.sf_Amounts T.r1_Amounts (.inl rfl) T.r2_Amounts T.r3_Amounts T.r4_Amounts (hr.mono (by decide)) (passes_call (takes_of rfl rfl rfl rfl) (fun _ _ _ _ h => h))) (pe_op (op_own M_Amounts___add__ rfl T.sf_Amounts (hr.mono (by decide)) (passes_call (takes_of rfl rfl rfl rfl) (fun _ _ _ _ h => h))) (pv 0) (pv 1)) pe_int) (pv 3) (nomark _)) (pe_and (pe_cmpR (op_ownEq M_Amounts___eq__ hr.units0 (hr.mono (by decide)) (passes_call (takes_of rfl rfl rfl rfl) (fun _ _ _ _ h => h))) (pe_op (op_ownI M_Amounts___mul__ rfl T.sf_Amounts T.r1_Amounts (.inl rfl) T.r2_Amounts T.r3_Amounts T.r4_Amounts (hr.mono (by decide)) (passes_call (takes_of rfl rfl rfl rfl) (fun _ _ _ _ h => h))) (pv 0) pe_int) (pe_op (op_own M_Amounts___add__ rfl T.sf_Amounts (hr.mono (by decide)) (passes_call (takes_of rfl rfl rfl rfl) (fun _ _ _ _ h => h))) (pe_op (op_own M_Amounts___add__ rfl T.sf_Amounts (hr.mono (by decide)) (passes_call (takes_of rfl rfl rfl rfl) (fun _ _ _ _ h => h))) (pv 0) (pv 0)) (pv 0)) (nomark _)) (pe_and (pe_cmpR (op_ownEq M_Amounts___eq__ hr.units0 (hr.mono (by decide)) (passes_call (takes_of rfl rfl rfl rfl) (fun _ _ _ _ h => h))) (pe_op (op_ownI M_Amounts___mul__ rfl T.sf_Amounts T.r1_Amounts (.inl rfl) T.r2_Amounts T.r3_Amounts T.r4_Amounts (hr.mono (by decide)) (passes_call (takes_of rfl rfl rfl rfl) (fun _ _ _ _ h => h))) (pv 0) pe_int) (pv 0) (nomark _)) (pe_one (pe_cmpR (op_ownEq M_Amounts___eq__ hr.units0 (hr.mono (by decide)) (passes_call (takes_of rfl rfl rfl rfl) (fun _ _ _ _ h => h))) (pe_op (op_ownI M_Amounts___mul__ rfl T.sf_Amounts T.r1_Amounts (.inl rfl) T.r2_Amounts T.r3_Amounts T.r4_Amounts (hr.mono (by decide)) (passes_call (takes_of rfl rfl rfl rfl) (fun _ _ _ _ h => h))) (pv 0) pe_int) (pe_mkC0 K0_Amounts (hr.mono (by decide)) (passes_call (takes_of rfl rfl rfl rfl) (fun _ _ _ _ h => h))) (nomark _))))))))))),
    (ls_seq (ls_if (lt_or (lt_test (le_opX ownNeK (le_opX ownK le_var le_var) (le_opX ownK le_var le_var))) (lt_test (le_opX ownNeK (le_opX ownK (le_opX ownK le_var le_var) le_var) (le_opX ownK le_var (le_opX ownK le_var le_var))))) (ls_seq (ls_ret le_bl) ls_next) ls_next)
      (ls_seq (ls_if (lt_or (lt_test (le_opX ownNeK (le_opX ownK le_var (le_mk T.dfl_Amounts la_nil)) le_var)) (lt_or (lt_test (le_opX ownNeK (le_opX ownK (le_opX ownK le_var le_var) le_var) le_var)) (lt_test (le_opX ownNeK (le_opX ownK le_var le_var) (le_mk T.dfl_Amounts la_nil))))) (ls_seq (ls_ret le_bl) ls_next) ls_next)
      (ls_seq (ls_asg (le_opX ownK (le_opX ownIK le_var le_int) (le_opX ownIK le_var le_int)) (lg_name free_of))
      (ls_seq (ls_ret (le_andV (le_opX ownK (le_opX ownIK (le_opX ownK le_var le_var) le_int) le_var) (le_andV (le_opX ownK (le_opX ownIK le_var le_int) (le_opX ownK (le_opX ownK le_var le_var) le_var)) (le_andV (le_opX ownK (le_opX ownIK le_var le_int) le_var) (le_opX ownK (le_opX ownIK le_var le_int) (le_mk T.dfl_Amounts la_nil)))))) ls_next))))⟩

theorem b_Amounts_times {f : Addr} (T : Txt K κ mg)  (P_Amounts_pairs : PropOk P κ.w K mg base (κ "Amounts") "pairs" 1 ["self"] (conc K κ F_Amounts_pairs)) (C_check_amounts : CallOk P κ.w K mg base "check_amounts" 1 ["value"] (conc K κ F_check_amounts)) : BodyOk P κ.w K mg base κ 2 ["self", "want", "kind", "number"] "Amounts.times" s_Amounts_times f (
    (fSeq (fDrop (fCall F_check_amounts (fCons (fVar 1) fNil)))
    (fSeq (fIfS (fNot (fTru (fPropN "Amounts" F_Amounts_pairs (fVar 1)))) (fSeq fNever fNext) fNext)
    (fSeq (fRet (fCB gMinL (fCons (fLc (fiTup (fPropN "Amounts" F_Amounts_pairs (fVar 1))) (fgTup 2 (fgCons (fgName 2) (fgCons (fgName 3) fgNil))) fYes (fOp gDiv (fDGet2 (fFld "Amounts" "_numbers" (fVar 0)) (fVar 2) (fC (.int 0))) (fVar 3)) [2, 3]) fNil))) fNext)))) :=
  fun cdv A outer s H E hr => ⟨_, (pss_cons (ps_expr (pe_cc C_check_amounts (passes_call (takes_of rfl rfl rfl rfl) (fun _ _ _ _ h => h)) (hr.mono (by decide)) (pa_cons (pv 1) pa_nil)))
      (pss_cons (ps_if (pt_not (pt_truX (pe_propN T.l_Amounts P_Amounts_pairs (hr.mono (by decide)) (pv 1)))) (pss_one ps_never) pss_nil)
      (pss_one (ps_ret (pe_callB (cr_minN K rfl) (by rfl) T.n_min (by decide +kernel) (pa_cons (pe_lc (own := [("kind", 2), ("number", 3)]) (g := (gTup K 2 (gCons (gName 2) (gCons (gName 3) gNil)))) rfl sc_Amounts_times.nd (pi_tup (pe_propN T.l_Amounts P_Amounts_pairs (hr.mono (by decide)) (pv 1))) (blkOk_by (own := [("kind", 2), ("number", 3)]) (N := ["self", "want", "kind", "number"]) (sc := defScope s_Amounts_times) (by decide +kernel)) (fun _ _ _ _ _ => (pg_tup rfl (pgs_cons (pg_name (i := 2) sc_Amounts_times.nd rfl (Or.inl rfl)) (pgs_cons (pg_name (i := 3) sc_Amounts_times.nd rfl (Or.inl rfl)) pgs_nil)))) (fun _ _ _ _ _ => pts_nil) (fun _ _ _ _ _ => (pe_op op_divG (pe_dget2 (hu_of hr) (pe_fldK K (pv 0) (by rfl)) (pv 2) pe_int ⟨rfl, rfl, rfl, rfl⟩) (pv 3)))) pa_nil)))))),
    (ls_seq (ls_drop (le_call (la_cons le_var la_nil)))
      (ls_seq (ls_if (lt_not (lt_tru (le_propN le_var))) (ls_seq ls_never ls_next) ls_next)
      (ls_seq (ls_ret (le_CB minLK (la_cons (le_lc (li_tup (le_propN le_var)) (lg_tup (lgs_cons (lg_name free_of) (lgs_cons (lg_name free_of) lgs_nil))) (gw_tup (gws_cons' (gw_name (by decide)) (gws_cons' (gw_name (by decide)) gws_nil gm_name gms_nil) gm_name (gms_cons gm_name gms_nil))) (gm_tup (gms_cons gm_name (gms_cons gm_name gms_nil))) lt_yes (le_op rdivK (le_dget2 (le_fld T.l_Amounts T.na_Amounts__numbers le_var) le_var le_int) le_var)) la_nil))) ls_next)))⟩

theorem b_Amounts___len__ {f : Addr} (T : Txt K κ mg)   : BodyOk P κ.w K mg base κ 0 ["self"] "Amounts.__len__" s_Amounts___len__ f (
    (fSeq (fRet (fCB gLen (fCons (fFld "Amounts" "_pairs" (fVar 0)) fNil))) fNext)) :=
  fun cdv A outer s H E hr => ⟨_, (pss_one (ps_ret (pe_callB call_lenG (by rfl) T.n_len (by decide +kernel) (pa_cons (pe_fldK K (pv 0) (by rfl)) pa_nil)))),
    (ls_seq (ls_ret (le_CB lenK (la_cons (le_fld T.l_Amounts T.na_Amounts__pairs le_var) la_nil))) ls_next)⟩

theorem b__law_often_right {f : Addr} (T : Txt K κ mg)  (M_Amounts___mul__ : MetOk P κ.w K mg base (κ "Amounts") "__mul__" 6 ["self", "other"] (conc K κ F_Amounts___mul__)) (M_Amounts_times : MetOk P κ.w K mg base (κ "Amounts") "times" 3 ["self", "want"] (conc K κ F_Amounts_times)) (M_Amounts___add__ : MetOk P κ.w K mg base (κ "Amounts") "__add__" 7 ["self", "other"] (conc K κ F_Amounts___add__)) (M_Amounts_covers : MetOk P κ.w K mg base (κ "Amounts") "covers" 2 ["self", "other"] (conc K κ F_Amounts_covers)) (M_Amounts___len__ : MetOk P κ.w K mg base (κ "Amounts") "__len__" 1 ["self"] (conc K κ F_Amounts___len__)) : BodyOk P κ.w K mg base κ 8 ["one", "other", "often"] "_law_often_right" s__law_often_right f (
    (fSeq (fIfS (fTest (fOp gEq (fCB (gLenOwn "Amounts" F_Amounts___len__) (fCons (fVar 1) fNil)) (fC (.int 0)))) (fSeq (fRet (fMeth "Amounts" "covers" F_Amounts_covers (fVar 0) (fCons (fVar 1) fNil))) fNext) fNext)
    (fSeq (fAsg (fMeth "Amounts" "times" F_Amounts_times (fVar 0) (fCons (fVar 1) fNil)) (fgName 2))
    (fSeq (fIfS (fOr (fNot (fTru (fMeth "Amounts" "covers" F_Amounts_covers (fVar 0) (fCons (fOp (gOwnI "Amounts" F_Amounts___mul__) (fVar 1) (fVar 2)) fNil)))) (fTru (fMeth "Amounts" "covers" F_Amounts_covers (fVar 0) (fCons (fOp (gOwnI "Amounts" F_Amounts___mul__) (fVar 1) (fOp gAdd (fVar 2) (fC (.int 1)))) fNil)))) (fSeq (fRet (fC (.bl false))) fNext) fNext)
    (fSeq (fRet (fAndV (fOp gEq (fMeth "Amounts" "times" F_Amounts_times (fOp (gOwn "Amounts" F_Amounts___add__) (fVar 0) (fVar 1)) (fCons (fVar 1) fNil)) (fOp gAdd (fVar 2) (fC (.int 1)))) (fOp gEq (fMeth "Amounts" "times" F_Amounts_times (fOp (gOwnI "Amounts" F_Amounts___mul__) (fVar 1) (fC (.int 5))) (fCons (fVar 1) fNil)) (fC (.int 5))))) fNext))))) :=
  fun cdv A outer s H E hr => ⟨_, (pss_cons (ps_if (pt_cmpR (op_eqG hr.units) (pe_callB (call_lenOwn M_Amounts___len__ (Room.in1 (hr.mono (by decide))) (passes_call (takes_of rfl rfl rfl rfl) (fun _ _ _ _ h => h))) (by rfl) T.n_len (by decide +kernel) (pa_cons (pv 1) pa_nil)) pe_int (nomark _)) (pss_one (ps_ret (pe_mC T.l_Amounts M_Amounts_covers (hr.mono (by decide)) (passes_call (takes_of rfl rfl rfl rfl) (fun _ _ _ _ h => h)) (pv 0) (pa_cons (pv 1) pa_nil)))) pss_nil)
      (pss_cons (ps_set (i := 2) sc__law_often_right.nd rfl (Or.inl rfl) (pe_mC T.l_Amounts M_Amounts_times (hr.mono (by decide)) (passes_call (takes_of rfl rfl rfl rfl) (fun _ _ _ _ h => h)) (pv 0) (pa_cons (pv 1) pa_nil)))
      (pss_cons (ps_if (PW.pt (pw_or (pt_not (pt_truX (pe_mC T.l_Amounts M_Amounts_covers (hr.mono (by decide)) (passes_call (takes_of rfl rfl rfl rfl) (fun _ _ _ _ h => h)) (pv 0) (pa_cons (pe_op (op_ownI M_Amounts___mul__ rfl T.sf_Amounts T.r1_Amounts (.inl rfl) T.r2_Amounts T.r3_Amounts T.r4_Amounts (hr.mono (by decide)) (passes_call (takes_of rfl rfl rfl rfl) (fun _ _ _ _ h => h))) (pv 1) (pv 2)) pa_nil)))) (pw_or1 (pt_truX (pe_mC T.l_Amounts M_Amounts_covers (hr.mono (by decide)) (passes_call (takes_of rfl rfl rfl rfl) (fun _ _ _ _ h => h)) (pv 0) (pa_cons (pe_op (op_ownI M_Amounts___mul__ rfl T.sf_Amounts T.r1_Amounts (.inl rfl) T.r2_Amounts T.r3_Amounts T.r4_Amounts (hr.mono (by decide)) (passes_call (takes_of rfl rfl rfl rfl) (fun _ _ _ _ h => h))) (pv 1) (pe_op op_addG (pv 2) pe_int)) pa_nil)))))) (pss_one (ps_ret pe_bl)) pss_nil)
      (pss_one (ps_ret (pe_and (pe_cmpR (op_eqG hr.units) (pe_mC T.l_Amounts M_Amounts_times (hr.mono (by decide)) (passes_call (takes_of rfl rfl rfl rfl) (fun _ _ _ _ h => h)) (pe_op (op_own M_Amounts___add__ rfl T.sf_Amounts (hr.mono (by decide)) (passes_call (takes_of rfl rfl rfl rfl) (fun _ _ _ _ h => h))) (pv 0) (pv 1)) (pa_cons (pv 1) pa_nil)) (pe_op op_addG (pv 2) pe_int) (nomark _)) (pe_one (pe_cmpR (op_eqG hr.units) (pe_mC T.l_Amounts M_Amounts_times (hr.mono (by decide)) (passes_call (takes_of rfl rfl rfl rfl) (fun _ _ _ _ h => h)) (pe_op (op_ownI M_Amounts___mul__ rfl T.sf_Amounts T.r1_Amounts (.inl rfl) T.r2_Amounts T.r3_Amounts T.r4_Amounts (hr.mono (by decide)) (passes_call (takes_of rfl rfl rfl rfl) (fun _ _ _ _ h => h))) (pv 1) pe_int) (pa_cons (pv 1) pa_nil)) pe_int (nomark _))))))))),
    (ls_seq (ls_if (lt_test (le_op reqK (le_CBX lenOwnK (la_cons le_var la_nil)) le_int)) (ls_seq (ls_ret (le_meth le_var (la_cons le_var la_nil))) ls_next) ls_next)
      (ls_seq (ls_asg (le_meth le_var (la_cons le_var la_nil)) (lg_name free_of))
      (ls_seq (ls_if (lt_or (lt_not (lt_tru (le_meth le_var (la_cons (le_opX ownIK le_var le_var) la_nil)))) (lt_tru (le_meth le_var (la_cons (le_opX ownIK le_var (le_op raddK le_var le_int)) la_nil)))) (ls_seq (ls_ret le_bl) ls_next) ls_next)
      (ls_seq (ls_ret (le_andV (le_op reqK (le_meth (le_opX ownK le_var le_var) (la_cons le_var la_nil)) (le_op raddK le_var le_int)) (le_op reqK (le_meth (le_opX ownIK le_var le_int) (la_cons le_var la_nil)) le_int))) ls_next))))⟩

theorem b__law_roll {f : Addr} (T : Txt K κ mg)   : BodyOk P κ.w K mg base κ 0 ["dice", "total", "found", "one", "two"] "_law_roll" s__law_roll f (
    (fSeq (fIfS (fTest (fOp gGt (fOp gIxS (fVar 0) (fC (.int 0))) (fC (.int 0)))) (fSeq (fAsg (fOp gMod (fCB gInt (fCons (fOp gIxS (fVar 0) (fC (.int 0))) fNil)) (fVar 1)) (fgName 2))
    (fSeq (fAsg (fOp gDiv (fOp gIxS (fVar 0) (fC (.int 0))) (fVar 1)) (fgSub (fVar 0) (fC (.int 0))))
    (fSeq (fRet (fVar 2)) fNext))) fNext)
    (fSeq (fAsg (fOp gAdd (fOp gIxS (fVar 0) (fC (.int 2))) (fC (.int 1))) (fgSub (fVar 0) (fC (.int 2))))
    (fSeq (fAsg (fOp gMod (fCB gInt (fCons (fOp gAdd (fOp gIxS (fVar 0) (fC (.int 1))) (fOp gMul (fC (.int 67867967)) (fOp gIxS (fVar 0) (fC (.int 2))))) fNil)) (fC (.int 2305843009213693561))) (fgName 3))
    (fSeq (fAsg (fOp gAdd (fOp gMul (fOp gMod (fCB gInt (fCons (fOp gAdd (fOp gMul (fVar 3) (fVar 3)) (fOp gMul (fC (.int 101)) (fOp gIxS (fVar 0) (fC (.int 2))))) fNil)) (fC (.int 2305843009213693907))) (fC (.int 7368847))) (fVar 3)) (fgName 4))
    (fSeq (fRet (fOp gMod (fCB gInt (fCons (fOp gDiv (fVar 4) (fC (.int 65536))) fNil)) (fVar 1))) fNext)))))) :=
  fun cdv A outer s H E hr => ⟨_, (pss_cons (ps_if (pt_cmpR op_gtG (pe_ix ix_G (pv 0) pe_int (fun _ _ => rfl)) pe_int (nomark _)) (pss_cons (ps_set (i := 2) sc__law_roll.nd rfl (Or.inl rfl) (pe_op op_modG (pe_callTy call_intG (by rfl) T.n_int (by decide +kernel) (pa_cons (pe_ix ix_G (pv 0) pe_int (fun _ _ => rfl)) pa_nil)) (pv 1)))
      (pss_cons (ps_asg (pe_op op_divG (pe_ix ix_G (pv 0) pe_int (fun _ _ => rfl)) (pv 1)) (pg_sub (pv 0) pe_int set_list))
      (pss_one (ps_ret (pv 2))))) pss_nil)
      (pss_cons (ps_asg (pe_op op_addG (pe_ix ix_G (pv 0) pe_int (fun _ _ => rfl)) pe_int) (pg_sub (pv 0) pe_int set_list))
      (pss_cons (ps_set (i := 3) sc__law_roll.nd rfl (Or.inl rfl) (pe_op op_modG (pe_callTy call_intG (by rfl) T.n_int (by decide +kernel) (pa_cons (pe_op op_addG (pe_ix ix_G (pv 0) pe_int (fun _ _ => rfl)) (pe_op op_mulG pe_int (pe_ix ix_G (pv 0) pe_int (fun _ _ => rfl)))) pa_nil)) pe_int))
      (pss_cons (ps_set (i := 4) sc__law_roll.nd rfl (Or.inl rfl) (pe_op op_addG (pe_op op_mulG (pe_op op_modG (pe_callTy call_intG (by rfl) T.n_int (by decide +kernel) (pa_cons (pe_op op_addG (pe_op op_mulG (pv 3) (pv 3)) (pe_op op_mulG pe_int (pe_ix ix_G (pv 0) pe_int (fun _ _ => rfl)))) pa_nil)) pe_int) pe_int) (pv 3)))
      (pss_one (ps_ret (pe_op op_modG (pe_callTy call_intG (by rfl) T.n_int (by decide +kernel) (pa_cons (pe_op op_divG (pv 4) pe_int) pa_nil)) (pv 1)))))))),
    (ls_seq (ls_if (lt_test (le_op rgtK (le_op ixSK le_var le_int) le_int)) (ls_seq (ls_asg (le_op rmodK (le_CB intK (la_cons (le_op ixSK le_var le_int) la_nil)) le_var) (lg_name free_of))
      (ls_seq (ls_asg (le_op rdivK (le_op ixSK le_var le_int) le_var) (lg_sub le_var le_int))
      (ls_seq (ls_ret le_var) ls_next))) ls_next)
      (ls_seq (ls_asg (le_op raddK (le_op ixSK le_var le_int) le_int) (lg_sub le_var le_int))
      (ls_seq (ls_asg (le_op rmodK (le_CB intK (la_cons (le_op raddK (le_op ixSK le_var le_int) (le_op rmulK le_int (le_op ixSK le_var le_int))) la_nil)) le_int) (lg_name free_of))
      (ls_seq (ls_asg (le_op raddK (le_op rmulK (le_op rmodK (le_CB intK (la_cons (le_op raddK (le_op rmulK le_var le_var) (le_op rmulK le_int (le_op ixSK le_var le_int))) la_nil)) le_int) le_int) le_var) (lg_name free_of))
      (ls_seq (ls_ret (le_op rmodK (le_CB intK (la_cons (le_op rdivK le_var le_int) la_nil)) le_var)) ls_next)))))⟩

theorem b__law_pick {f : Addr} (T : Txt K κ mg)  (C__law_roll : CallOk P κ.w K mg base "_law_roll" 1 ["dice", "total"] (conc K κ F__law_roll)) : BodyOk P κ.w K mg base κ 1 ["dice", "items"] "_law_pick" s__law_pick f (
    (fSeq (fRet (fOp gIxS (fVar 1) (fCall F__law_roll (fCons (fVar 0) (fCons (fCB gLen (fCons (fVar 1) fNil)) fNil))))) fNext)) :=
  fun cdv A outer s H E hr => ⟨_, (pss_one (ps_ret (pe_ix ix_G (pv 1) (pe_cc C__law_roll (passes_call (takes_of rfl rfl rfl rfl) (fun _ _ _ _ h => h)) (hr.mono (by decide)) (pa_cons (pv 0) (pa_cons (pe_callB call_lenG (by rfl) T.n_len (by decide +kernel) (pa_cons (pv 1) pa_nil)) pa_nil))) (fun _ _ => rfl)))),
    (ls_seq (ls_ret (le_op ixSK le_var (le_call (la_cons le_var (la_cons (le_CB lenK (la_cons le_var la_nil)) la_nil))))) ls_next)⟩

theorem b__law_some {f : Addr} (T : Txt K κ mg)  (C__law_roll : CallOk P κ.w K mg base "_law_roll" 1 ["dice", "total"] (conc K κ F__law_roll)) : BodyOk P κ.w K mg base κ 1 ["dice", "items", "item"] "_law_some" s__law_some f (
    (fSeq (fRet (fLc (fiList (fVar 1)) (fgName 2) (fTest (fOp gEq (fCall F__law_roll (fCons (fVar 0) (fCons (fC (.int 2)) fNil))) (fC (.int 0)))) (fVar 2) [2])) fNext)) :=
  fun cdv A outer s H E hr => ⟨_, (pss_one (ps_ret (pe_lc (own := [("item", 2)]) (g := (gName 2)) rfl sc__law_some.nd (pi_list (pv 1)) (blkOk_by (own := [("item", 2)]) (N := ["dice", "items", "item"]) (sc := defScope s__law_some) (by decide +kernel)) (fun _ _ _ _ _ => (pg_name (i := 2) sc__law_some.nd rfl (Or.inl rfl))) (fun _ _ _ _ _ => (pts_one (pt_cmpR (op_eqK K hr.units) (pe_cc C__law_roll passL (hr.mono (by decide)) (pa_cons (pv 0) (pa_cons pe_int pa_nil))) pe_int (nomark _)))) (fun _ _ _ _ _ => (pv 2))))),
    (ls_seq (ls_ret (le_lc (li_list le_var) (lg_name free_of) (gw_name (by decide)) gm_name (lt_test (le_op reqK (le_call (la_cons le_var (la_cons le_int la_nil))) le_int)) le_var)) ls_next)⟩

theorem b__law_drawn {f : Addr} (T : Txt K κ mg)  (C__law_roll : CallOk P κ.w K mg base "_law_roll" 1 ["dice", "total"] (conc K κ F__law_roll)) {K1_Amounts_d : List Value} (K1_Amounts : MkOk P κ.w K mg base "Amounts" (κ "Amounts") 4 ["self", "pairs"] K1_Amounts_d [] (conc K κ F_Amounts___init__)) (C__law_pick : CallOk P κ.w K mg base "_law_pick" 2 ["dice", "items"] (conc K κ F__law_pick)) (C__law_some : CallOk P κ.w K mg base "_law_some" 2 ["dice", "items"] (conc K κ F__law_some)) : BodyOk P κ.w K mg base κ 5 ["dice", "some", "most", "kind"] "_law_drawn" s__law_drawn f (
    (fSeq (fAsg (fCall F__law_some (fCons (fVar 0) (fCons (fLst (fCons (fC (.str (Str.ofString "a"))) (fCons (fC (.str (Str.ofString "b1"))) (fCons (fC (.str (Str.ofString "core"))) (fCons (fC (.str (Str.ofString "gpu"))) (fCons (fC (.str (Str.ofString "mem"))) (fCons (fC (.str (Str.ofString "x"))) fNil))))))) fNil))) (fgName 1))
    (fSeq (fAsg (fCall F__law_pick (fCons (fVar 0) (fCons (fLst (fCons (fC (.int 2)) (fCons (fC (.int 4)) (fCons (fC (.int 90000)) fNil)))) fNil))) (fgName 2))
    (fSeq (fRet (fMk "Amounts" F_Amounts___init__ [] (fCons (fCB gTuple (fCons (fLc (fiList (fVar 1)) (fgName 3) fYes (fTup (fCons (fVar 3) (fCons (fOp gAdd (fC (.int 1)) (fCall F__law_roll (fCons (fVar 0) (fCons (fVar 2) fNil)))) fNil))) [3]) fNil)) fNil))) fNext)))) :=
  fun cdv A outer s H E hr => ⟨_, (pss_cons (ps_set (i := 1) sc__law_drawn.nd rfl (Or.inl rfl) (pe_cc C__law_some (passes_call (takes_of rfl rfl rfl rfl) (fun _ _ _ _ h => h)) (hr.mono (by decide)) (pa_cons (pv 0) (pa_cons (pe_lst (pa_cons pe_str (pa_cons pe_str (pa_cons pe_str (pa_cons pe_str (pa_cons pe_str (pa_cons pe_str pa_nil))))))) pa_nil))))
      (pss_cons (ps_set (i := 2) sc__law_drawn.nd rfl (Or.inr rfl) (pe_cc C__law_pick (passes_call (takes_of rfl rfl rfl rfl) (fun _ _ _ _ h => h)) (hr.mono (by decide)) (pa_cons (pv 0) (pa_cons (pe_lst (pa_cons pe_int (pa_cons pe_int (pa_cons pe_int pa_nil)))) pa_nil))))
      (pss_one (ps_ret (pe_mkC K1_Amounts (hr.mono (by decide)) (passes_call (takes_of rfl rfl rfl rfl) (fun _ _ _ _ h => h)) (pa_cons (pe_callTy (call_tupleN K) (by rfl) T.n_tuple (by decide +kernel) (pa_cons (pe_lc (own := [("kind", 3)]) (g := (gName 3)) rfl sc__law_drawn.nd (pi_list (pv 1)) (blkOk_by (own := [("kind", 3)]) (N := ["dice", "some", "most", "kind"]) (sc := defScope s__law_drawn) (by decide +kernel)) (fun _ _ _ _ _ => (pg_name (i := 3) sc__law_drawn.nd rfl (Or.inl rfl))) (fun _ _ _ _ _ => pts_nil) (fun _ _ _ _ _ => (pe_tupF (pa_cons (pv 3) (pa_cons (pe_op (op_addK K) pe_int (pe_cc C__law_roll passL (hr.mono (by decide)) (pa_cons (pv 0) (pa_cons (pv 2) pa_nil)))) pa_nil))))) pa_nil)) pa_nil)))))),
    (ls_seq (ls_asg (le_call (la_cons le_var (la_cons (le_lst (la_cons le_str (la_cons le_str (la_cons le_str (la_cons le_str (la_cons le_str (la_cons le_str la_nil))))))) la_nil))) (lg_name free_of))
      (ls_seq (ls_asg (le_call (la_cons le_var (la_cons (le_lst (la_cons le_int (la_cons le_int (la_cons le_int la_nil)))) la_nil))) (lg_name free_of))
      (ls_seq (ls_ret (le_mk (fun _ _ => .nil) (la_cons (le_CB tupleK (la_cons (le_lc (li_list le_var) (lg_name free_of) (gw_name (by decide)) gm_name lt_yes (le_tup (la_cons le_var (la_cons (le_op raddK le_int (le_call (la_cons le_var (la_cons le_var la_nil)))) la_nil)))) la_nil)) la_nil))) ls_next)))⟩

theorem b__law_right {f : Addr} (T : Txt K κ mg)  (M_Amounts_covers : MetOk P κ.w K mg base (κ "Amounts") "covers" 2 ["self", "other"] (conc K κ F_Amounts_covers)) (C__law_covers_right : CallOk P κ.w K mg base "_law_covers_right" 9 ["one", "other", "third"] (conc K κ F__law_covers_right)) (C__law_sums_right : CallOk P κ.w K mg base "_law_sums_right" 9 ["one", "other", "third"] (conc K κ F__law_sums_right)) (C__law_often_right : CallOk P κ.w K mg base "_law_often_right" 9 ["one", "other"] (conc K κ F__law_often_right)) (M_Amounts___eq__ : MetOk P κ.w K mg base (κ "Amounts") "__eq__" 1 ["self", "other"] (conc K κ F_Amounts___eq__)) (M_Amounts___sub__ : MetOk P κ.w K mg base (κ "Amounts") "__sub__" 6 ["self", "other"] (conc K κ F_Amounts___sub__)) (M_Amounts___add__ : MetOk P κ.w K mg base (κ "Amounts") "__add__" 7 ["self", "other"] (conc K κ F_Amounts___add__)) (M_Amounts___len__ : MetOk P κ.w K mg base (κ "Amounts") "__len__" 1 ["self"] (conc K κ F_Amounts___len__)) (M_Amounts_lacks : MetOk P κ.w K mg base (κ "Amounts") "lacks" 6 ["self", "other"] (conc K κ F_Amounts_lacks)) (P_Amounts_pairs : PropOk P κ.w K mg base (κ "Amounts") "pairs" 1 ["self"] (conc K κ F_Amounts_pairs)) (C__law_drawn : CallOk P κ.w K mg base "_law_drawn" 6 ["dice"] (conc K κ F__law_drawn)) : BodyOk P κ.w K mg base κ 9 ["dice", "some", "turn", "one", "other"] "_law_right" s__law_right f (
    (fSeq (fAsg (fLc (fiRng1 (fC (.int 4))) (fgName 2) fYes (fCall F__law_drawn (fCons (fVar 0) fNil)) [2]) (fgName 1))
    (fSeq (fDrop (fBM "list" mAppend (fVar 1) (fCons (fOp (gOwn "Amounts" F_Amounts___add__) (fOp gIxS (fVar 1) (fC (.int 0))) (fOp gIxS (fVar 1) (fC (.int 1)))) fNil)))
    (fSeq (fFor (fiList (fSl gSl (fVar 1) fNoPart (fPart (fC (.int 3))))) (fgName 3) L__law_right_2)
    (fSeq (fRet (fAndV (fMeth "Amounts" "covers" F_Amounts_covers (fOp gIxS (fVar 1) (fC (.int 4))) (fCons (fOp gIxS (fVar 1) (fC (.int 0))) fNil)) (fMeth "Amounts" "covers" F_Amounts_covers (fOp gIxS (fVar 1) (fC (.int 4))) (fCons (fOp gIxS (fVar 1) (fC (.int 1))) fNil)))) fNext))))) :=
  fun cdv A outer s H E hr => ⟨_, (pss_cons (ps_setLc (i := 1) (own := [("turn", 2)]) (g := (gName 2)) rfl sc__law_right.nd rfl rfl (sw_true rfl rfl rfl (by decide +kernel)) (pi_range1 (by rfl) T.n_range (pa_cons pe_int pa_nil)) (blkOk_by (own := [("turn", 2)]) (N := ["dice", "some", "turn", "one", "other"]) (sc := defScope s__law_right) (by decide +kernel)) (fun _ _ _ _ _ => (pg_name (i := 2) sc__law_right.nd rfl (Or.inl rfl))) (fun _ _ _ _ _ => pts_nil) (fun _ _ _ _ _ => (pe_cc C__law_drawn passL (hr.mono (by decide)) (pa_cons (pv 0) pa_nil))))
      (pss_cons (ps_expr (pe_bm PySem.F.plainAttrs_list PySem.F.slot_list_append PySem.F.type_list_append mt_append (pv 1) (pa_cons (pe_op (op_own M_Amounts___add__ rfl T.sf_Amounts (hr.mono (by decide)) (passes_call (takes_of rfl rfl rfl rfl) (fun _ _ _ _ h => h))) (pe_ix ix_G (pv 1) pe_int (fun _ _ => rfl)) (pe_ix ix_G (pv 1) pe_int (fun _ _ => rfl))) pa_nil)))
      (pss_cons (ps_for (passes_of rfl) rfl (pi_list (pe_slice sl_G (pv 1) po_none (po_some pe_int))) (pg_name (i := 3) sc__law_right.nd rfl (Or.inl rfl)) (pss_one (ps_for (passes_of rfl) rfl (pi_list (pv 1)) (pg_name (i := 4) sc__law_right.nd rfl (Or.inl rfl)) (pss_cons (ps_if (PW.pt (pw_or (pt_cmpR (op_neG hr.units) (pe_cmpR (op_ownEq M_Amounts___eq__ hr.units0 (hr.mono (by decide)) (passes_call (takes_of rfl rfl rfl rfl) (fun _ _ _ _ h => h))) (pv 3) (pv 4) (nomark _)) (pe_cmpR (op_eqG hr.units) (pe_propN T.l_Amounts P_Amounts_pairs (hr.mono (by decide)) (pv 3)) (pe_propN T.l_Amounts P_Amounts_pairs (hr.mono (by decide)) (pv 4)) (nomark _)) (nomark _)) (pw_or1 (pt_cmpR (op_neG hr.units) (pe_mC T.l_Amounts M_Amounts_covers (hr.mono (by decide)) (passes_call (takes_of rfl rfl rfl rfl) (fun _ _ _ _ h => h)) (pv 3) (pa_cons (pv 4) pa_nil)) (pe_cmpR (op_eqG hr.units) (pe_callB (call_lenOwn M_Amounts___len__ (Room.in1 (hr.mono (by decide))) (passes_call (takes_of rfl rfl rfl rfl) (fun _ _ _ _ h => h))) (by rfl) T.n_len (by decide +kernel) (pa_cons (pe_mC T.l_Amounts M_Amounts_lacks (hr.mono (by decide)) (passes_call (takes_of rfl rfl rfl rfl) (fun _ _ _ _ h => h)) (pv 3) (pa_cons (pv 4) pa_nil)) pa_nil)) pe_int (nomark _)) (nomark _))))) (pss_one (ps_ret pe_bl)) pss_nil)
      (pss_cons (ps_if (PW.pt (pw_or (PW.pt (pw_and (pt_truX (pe_mC T.l_Amounts M_Amounts_covers (hr.mono (by decide)) (passes_call (takes_of rfl rfl rfl rfl) (fun _ _ _ _ h => h)) (pv 3) (pa_cons (pv 4) pa_nil))) (pw_and1 (pt_cmpR (op_ownNe M_Amounts___eq__ T.ne_Amounts T.ob_Amounts (units1 hr) (Room.in1 (hr.mono (by decide))) (passes_call (takes_of rfl rfl rfl rfl) (fun _ _ _ _ h => h))) (pe_op (op_own M_Amounts___add__ rfl T.sf_Amounts (hr.mono (by decide)) (passes_call (takes_of rfl rfl rfl rfl) (fun _ _ _ _ h => h))) (pe_op (op_own M_Amounts___sub__ rfl T.sf_Amounts (hr.mono (by decide)) (passes_call (takes_of rfl rfl rfl rfl) (fun _ _ _ _ h => h))) (pv 3) (pv 4)) (pv 4)) (pv 3) (nomark _))))) (pw_or1 (pt_not (pt_truX (pe_cc C__law_often_right (passes_call (takes_of rfl rfl rfl rfl) (fun _ _ _ _ h => h)) (hr.mono (by decide)) (pa_cons (pv 3) (pa_cons (pv 4) pa_nil)))))))) (pss_one (ps_ret pe_bl)) pss_nil)
      (pss_one (ps_if (PW.pt (pw_or (pt_not (pt_truX (pe_cc C__law_sums_right (passes_call (takes_of rfl rfl rfl rfl) (fun _ _ _ _ h => h)) (hr.mono (by decide)) (pa_cons (pv 3) (pa_cons (pv 4) (pa_cons (pe_ix ix_G (pv 1) pe_int (fun _ _ => rfl)) pa_nil)))))) (pw_or1 (pt_not (pt_truX (pe_cc C__law_covers_right (passes_call (takes_of rfl rfl rfl rfl) (fun _ _ _ _ h => h)) (hr.mono (by decide)) (pa_cons (pv 3) (pa_cons (pv 4) (pa_cons (pe_ix ix_G (pv 1) pe_int (fun _ _ => rfl)) pa_nil))))))))) (pss_one (ps_ret pe_bl)) pss_nil)))))))
      (pss_one (ps_ret (pe_and (pe_mC T.l_Amounts M_Amounts_covers (hr.mono (by decide)) (passes_call (takes_of rfl rfl rfl rfl) (fun _ _ _ _ h => h)) (pe_ix ix_G (pv 1) pe_int (fun _ _ => rfl)) (pa_cons (pe_ix ix_G (pv 1) pe_int (fun _ _ => rfl)) pa_nil)) (pe_one (pe_mC T.l_Amounts M_Amounts_covers (hr.mono (by decide)) (passes_call (takes_of rfl rfl rfl rfl) (fun _ _ _ _ h => h)) (pe_ix ix_G (pv 1) pe_int (fun _ _ => rfl)) (pa_cons (pe_ix ix_G (pv 1) pe_int (fun _ _ => rfl)) pa_nil))))))))),
    (ls_seq (ls_asg (le_lc (li_rng1 le_int) (lg_name free_of) (gw_name (by decide)) gm_name lt_yes (le_call (la_cons le_var la_nil))) (lg_name free_of))
      (ls_seq (ls_drop (le_bm appendK le_var (la_cons (le_opX ownK (le_op ixSK le_var le_int) (le_op ixSK le_var le_int)) la_nil)))
      (ls_seq (ls_for (li_list (le_sl slK le_var lo_none (lo_some le_int))) (lg_name free_of) (ls_seq (ls_for (li_list le_var) (lg_name free_of) (ls_seq (ls_if (lt_or (lt_test (le_op rneK (le_opX ownK le_var le_var) (le_op reqK (le_propN le_var) (le_propN le_var)))) (lt_test (le_op rneK (le_meth le_var (la_cons le_var la_nil)) (le_op reqK (le_CBX lenOwnK (la_cons (le_meth le_var (la_cons le_var la_nil)) la_nil)) le_int)))) (ls_seq (ls_ret le_bl) ls_next) ls_next)
      (ls_seq (ls_if (lt_or (lt_and (lt_tru (le_meth le_var (la_cons le_var la_nil))) (lt_test (le_opX ownNeK (le_opX ownK (le_opX ownK le_var le_var) le_var) le_var))) (lt_not (lt_tru (le_call (la_cons le_var (la_cons le_var la_nil)))))) (ls_seq (ls_ret le_bl) ls_next) ls_next)
      (ls_seq (ls_if (lt_or (lt_not (lt_tru (le_call (la_cons le_var (la_cons le_var (la_cons (le_op ixSK le_var le_int) la_nil)))))) (lt_not (lt_tru (le_call (la_cons le_var (la_cons le_var (la_cons (le_op ixSK le_var le_int) la_nil))))))) (ls_seq (ls_ret le_bl) ls_next) ls_next) ls_next)))) ls_next))
      (ls_seq (ls_ret (le_andV (le_meth (le_op ixSK le_var le_int) (la_cons (le_op ixSK le_var le_int) la_nil)) (le_meth (le_op ixSK le_var le_int) (la_cons (le_op ixSK le_var le_int) la_nil)))) ls_next))))⟩

theorem b__law_dice {f : Addr} (T : Txt K κ mg)   : BodyOk P κ.w K mg base κ 0 ["script", "spot", "cell", "left"] "_law_dice" s__law_dice f (
    (fSeq (fAsg (fIf (fTest (fOp gLt (fVar 1) (fCB gLen (fCons (fVar 0) fNil)))) (fCB gInt (fCons (fOp gIxS (fVar 0) (fVar 1)) fNil)) (fOp gAdd (fOp gMul (fC (.int 71)) (fVar 1)) (fC (.int 31)))) (fgName 2))
    (fSeq (fAsg (fOp gMod (fCB gMax (fCons (fC (.int 0)) (fCons (fOp gSubI (fCB gAbs (fCons (fVar 2) fNil)) (fOp gPow (fC (.int 10)) (fC (.int 16)))) fNil))) (fOp gMul (fOp gPow (fC (.int 10)) (fC (.int 60))) (fOp gPow (fC (.int 10)) (fC (.int 60))))) (fgName 3))
    (fSeq (fRet (fLst (fCons (fVar 3) (fCons (fOp gAdd (fOp gAdd (fOp gAdd (fOp gMul (fOp gMod (fCB gAbs (fCons (fVar 2) fNil)) (fC (.int 1152921504606846697))) (fC (.int 59))) (fOp gMul (fC (.int 821)) (fVar 1))) (fOp gMul (fC (.int 37)) (fCB gInt (fCons (fOp gLt (fVar 2) (fC (.int 0))) fNil)))) (fC (.int 5))) (fCons (fC (.int 0)) fNil))))) fNext)))) :=
  fun cdv A outer s H E hr => ⟨_, (pss_cons (ps_set (i := 2) sc__law_dice.nd rfl (Or.inl rfl) (pe_ifExp (pt_cmpR op_ltG (pv 1) (pe_callB call_lenG (by rfl) T.n_len (by decide +kernel) (pa_cons (pv 0) pa_nil)) (nomark _)) (pe_callTy call_intG (by rfl) T.n_int (by decide +kernel) (pa_cons (pe_ix ix_G (pv 0) (pv 1) (fun _ _ => rfl)) pa_nil)) (pe_op op_addG (pe_op op_mulG pe_int (pv 1)) pe_int)))
      (pss_cons (ps_set (i := 3) sc__law_dice.nd rfl (Or.inl rfl) (pe_op op_modG (pe_callB (call_maxG rfl) (by rfl) T.n_max (by decide +kernel) (pa_cons pe_int (pa_cons (pe_op op_subG (pe_callB call_absG (by rfl) T.n_abs (by decide +kernel) (pa_cons (pv 2) pa_nil)) (pe_op op_powG pe_int pe_int)) pa_nil))) (pe_op op_mulG (pe_op op_powG pe_int pe_int) (pe_op op_powG pe_int pe_int))))
      (pss_one (ps_ret (pe_lst (pa_cons (pv 3) (pa_cons (pe_op op_addG (pe_op op_addG (pe_op op_addG (pe_op op_mulG (pe_op op_modG (pe_callB call_absG (by rfl) T.n_abs (by decide +kernel) (pa_cons (pv 2) pa_nil)) pe_int) pe_int) (pe_op op_mulG pe_int (pv 1))) (pe_op op_mulG pe_int (pe_callTy call_intG (by rfl) T.n_int (by decide +kernel) (pa_cons (pe_cmpR op_ltG (pv 2) pe_int (nomark _)) pa_nil)))) pe_int) (pa_cons pe_int pa_nil)))))))),
    (ls_seq (ls_asg (le_if (lt_test (le_op rltK le_var (le_CB lenK (la_cons le_var la_nil)))) (le_CB intK (la_cons (le_op ixSK le_var le_var) la_nil)) (le_op raddK (le_op rmulK le_int le_var) le_int)) (lg_name free_of))
      (ls_seq (ls_asg (le_op rmodK (le_CB maxK (la_cons le_int (la_cons (le_op rsubK (le_CB absK (la_cons le_var la_nil)) (le_op rpowK le_int le_int)) la_nil))) (le_op rmulK (le_op rpowK le_int le_int) (le_op rpowK le_int le_int))) (lg_name free_of))
      (ls_seq (ls_ret (le_lst (la_cons le_var (la_cons (le_op raddK (le_op raddK (le_op raddK (le_op rmulK (le_op rmodK (le_CB absK (la_cons le_var la_nil)) le_int) le_int) (le_op rmulK le_int le_var)) (le_op rmulK le_int (le_CB intK (la_cons (le_op rltK le_var le_int) la_nil)))) le_int) (la_cons le_int la_nil))))) ls_next)))⟩

theorem b_law {f : Addr} (T : Txt K κ mg)  {K1_Amounts_d : List Value} (K1_Amounts : MkOk P κ.w K mg base "Amounts" (κ "Amounts") 4 ["self", "pairs"] K1_Amounts_d [] (conc K κ F_Amounts___init__)) (M_Amounts_covers : MetOk P κ.w K mg base (κ "Amounts") "covers" 2 ["self", "other"] (conc K κ F_Amounts_covers)) {K0_Amounts_d : List Value} (K0_Amounts : MkOk P κ.w K mg base "Amounts" (κ "Amounts") 4 ["self", "pairs"] K0_Amounts_d [V.ref (κ "()Amounts")] (conc K κ F_Amounts___init__)) (M_Amounts___bool__ : MetOk P κ.w K mg base (κ "Amounts") "__bool__" 1 ["self"] (conc K κ F_Amounts___bool__)) (M_Amounts___eq__ : MetOk P κ.w K mg base (κ "Amounts") "__eq__" 1 ["self", "other"] (conc K κ F_Amounts___eq__)) (X_Amounts_cover_of : ClmOk P κ.w K mg base (κ "Amounts") "cover_of" 6 (conc K κ (fStar 1 F_Amounts_cover_of))) (C__law_right : CallOk P κ.w K mg base "_law_right" 10 ["dice"] (conc K κ F__law_right)) (C__law_dice : CallOk P κ.w K mg base "_law_dice" 1 ["script", "spot"] (conc K κ F__law_dice)) : BodyOk P κ.w K mg base κ 10 ["script", "spot"] "law" s_law f (
    (fSeq (fFor (fiRng1 (fCB gMax (fCons (fC (.int 1)) (fCons (fCB gMin (fCons (fC (.int 3)) (fCons (fCB gLen (fCons (fVar 0) fNil)) fNil))) fNil)))) (fgName 1) L_law_1)
    (fSeq (fRet (fAndV (fOp (gOwn "Amounts" F_Amounts___eq__) (fCMeth "Amounts" (fStar 1 F_Amounts_cover_of) (fC (.cls "Amounts")) fNil) (fMk "Amounts" F_Amounts___init__ [.tup []] fNil)) (fAndV (fNotV (fCB (gBoolOwn "Amounts" F_Amounts___bool__) (fCons (fMk "Amounts" F_Amounts___init__ [.tup []] fNil) fNil))) (fMeth "Amounts" "covers" F_Amounts_covers (fMk "Amounts" F_Amounts___init__ [] (fCons (fTup (fCons (fTup (fCons (fC (.str (Str.ofString "core"))) (fCons (fC (.int 1000000)) fNil))) fNil)) fNil)) (fCons (fMk "Amounts" F_Amounts___init__ [.tup []] fNil) fNil))))) fNext))) :=
  fun cdv A outer s H E hr => ⟨_, (pss_cons (ps_for (passes_of rfl) rfl (pi_range1 (by rfl) T.n_range (pa_cons (pe_callB (call_maxG rfl) (by rfl) T.n_max (by decide +kernel) (pa_cons pe_int (pa_cons (pe_callB (call_minG rfl) (by rfl) T.n_min (by decide +kernel) (pa_cons pe_int (pa_cons (pe_callB call_lenG (by rfl) T.n_len (by decide +kernel) (pa_cons (pv 0) pa_nil)) pa_nil))) pa_nil))) pa_nil)) (pg_name (i := 1) sc_law.nd rfl (Or.inl rfl)) (pss_one (ps_if (pt_not (pt_truX (pe_cc C__law_right (passes_call (takes_of rfl rfl rfl rfl) (fun _ _ _ _ h => h)) (hr.mono (by decide)) (pa_cons (pe_cc C__law_dice (passes_call (takes_of rfl rfl rfl rfl) (fun _ _ _ _ h => h)) (hr.mono (by decide)) (pa_cons (pv 0) (pa_cons (pv 1) pa_nil))) pa_nil)))) (pss_one (ps_ret pe_bl)) pss_nil)))
      (pss_one (ps_ret (pe_and (pe_cmpR (op_ownEq M_Amounts___eq__ hr.units0 (hr.mono (by decide)) (passes_call (takes_of rfl rfl rfl rfl) (fun _ _ _ _ h => h))) (pe_cmC0 X_Amounts_cover_of (hr.mono (by decide)) (passes_call (takes_of rfl rfl rfl rfl) (fun _ _ _ _ h => h)) (pe_gR T.c_Amounts)) (pe_mkC0 K0_Amounts (hr.mono (by decide)) (passes_call (takes_of rfl rfl rfl rfl) (fun _ _ _ _ h => h))) (nomark _)) (pe_and (pe_not (pe_callTy (call_boolOwn M_Amounts___bool__ (hr.mono (by decide)) (passes_call (takes_of rfl rfl rfl rfl) (fun _ _ _ _ h => h))) (by rfl) T.n_bool (by decide +kernel) (pa_cons (pe_mkC0 K0_Amounts (hr.mono (by decide)) (passes_call (takes_of rfl rfl rfl rfl) (fun _ _ _ _ h => h))) pa_nil))) (pe_one (pe_mC T.l_Amounts M_Amounts_covers (hr.mono (by decide)) (passes_call (takes_of rfl rfl rfl rfl) (fun _ _ _ _ h => h)) (pe_mkC K1_Amounts (hr.mono (by decide)) (passes_call (takes_of rfl rfl rfl rfl) (fun _ _ _ _ h => h)) (pa_cons (pe_tupF (pa_cons (pe_tupF (pa_cons pe_str (pa_cons pe_int pa_nil))) pa_nil)) pa_nil)) (pa_cons (pe_mkC0 K0_Amounts (hr.mono (by decide)) (passes_call (takes_of rfl rfl rfl rfl) (fun _ _ _ _ h => h))) pa_nil)))))))),
    (ls_seq (ls_for (li_rng1 (le_CB maxK (la_cons le_int (la_cons (le_CB minK (la_cons le_int (la_cons (le_CB lenK (la_cons le_var la_nil)) la_nil))) la_nil)))) (lg_name free_of) (ls_seq (ls_if (lt_not (lt_tru (le_call (la_cons (le_call (la_cons le_var (la_cons le_var la_nil))) la_nil)))) (ls_seq (ls_ret le_bl) ls_next) ls_next) ls_next))
      (ls_seq (ls_ret (le_andV (le_opX ownK (le_cmeth le_cls la_nil) (le_mk T.dfl_Amounts la_nil)) (le_andV (le_notV (le_CBX boolOwnK (la_cons (le_mk T.dfl_Amounts la_nil) la_nil))) (le_meth (le_mk (fun _ _ => .nil) (la_cons (le_tup (la_cons (le_tup (la_cons le_str (la_cons le_int la_nil))) la_nil)) la_nil)) (la_cons (le_mk T.dfl_Amounts la_nil) la_nil))))) ls_next))⟩
end
end K01
namespace K01
open PySem L2 G
/-! ### amounts as rows -/
abbrev Row := Str × Int
def pr (p : Row) : D := .tup [.str p.1, .int p.2]
def ksOf (m : List Row) : List Key := m.map fun p => .inr p.1
def nsOf (m : List Row) : List D := m.map fun p => .int p.2
def amt (m : List Row) : D := .obj "Amounts" ["_pairs", "_numbers"] [.tup (m.map pr), .dct (ksOf m) (nsOf m)]
def get : List Row → Str → Int
  | [], _ => 0
  | p :: r, k => if p.1 = k then p.2 else get r k
def kindB (z : Str) : Bool := decide (1 ≤ z.length) && (decide (z.length ≤ 8) && (Txt.isalnum z && ((match tl z with | c :: _ => Txt.isalpha (S [c]) | [] => false) && (Txt.isascii z && (Txt.islower z && (!decide (tl z = tl (Str.ofString "nothing")) && PyData.strOk z))))))
def rowsOk : Str → List Row → Bool
  | _, [] => true
  | a, p :: r => kindB p.1 && (decide (tl a < tl p.1) && (decide (1 ≤ p.2 ∧ p.2 ≤ 1000000) && rowsOk p.1 r))
def Ok (m : List Row) : Prop := rowsOk (Str.ofString "") m = true ∧ m.length ≤ 60
theorem clo_pr {n : Nat} {p : Row} : D.clo n (pr p) = true := by simp [pr]
theorem clo_prs {n : Nat} {m : List Row} : D.cloL n (m.map pr) = true := cloL_all fun d hd => by
  obtain ⟨p, _, rfl⟩ := List.mem_map.mp hd
  exact clo_pr
theorem clo_ns {n : Nat} {m : List Row} : D.cloL n (nsOf m) = true := cloL_all fun d hd => by
  obtain ⟨p, _, rfl⟩ := List.mem_map.mp hd
  simp
theorem clo_amt {n : Nat} {m : List Row} : D.clo n (amt m) = true := by simp [amt, clo_prs, clo_ns]
theorem obj_amt {m : List Row} {M : AH} : objOf "Amounts" (amt m) M = some (["_pairs", "_numbers"], [.tup (m.map pr), .dct (ksOf m) (nsOf m)]) := by simp [objOf, amt]
theorem look_p {a b : D} : look "_pairs" ["_pairs", "_numbers"] [a, b] = some a := by simp [look]
theorem look_n {a b : D} : look "_numbers" ["_pairs", "_numbers"] [a, b] = some b := by simp [look]
theorem isi_amt {m : List Row} {M : AH} : gIsiX ["Amounts"] [amt m, .cls "Amounts"] M = .ok (.bl true) M := by simp [gIsiX, obj_amt]
theorem val_get (k : Str) : ∀ m : List Row, (valD (ksOf m) (nsOf m) (.inr k)).getD (.int 0) = .int (get m k)
  | [] => rfl
  | p :: r => by
    have ih := val_get k r
    unfold valD ksOf nsOf at ih ⊢
    by_cases h : p.1 = k
    · simp [get, h]
    · simp only [List.map_cons, List.zip_cons_cons, List.find?_cons]
      have : decide ((Sum.inr p.1 : Key) = .inr k) = false := by simp [h]
      rw [this]
      simp only [get, if_neg h]
      exact ih
/-! ### the small defs -/
theorem e_between (i lo hi : Int) (M : AH) : F_is_between [.int i, .int lo, .int hi] M = .ok (.bl (decide (lo ≤ i ∧ i ≤ hi))) M := by
  by_cases h : lo ≤ i <;> simp [F_is_between, fnF, fnK, fSeq, fRet, fRetN, fAsg, fgName, fDrop, fNext, fNever, fIfS, fPar, fFor, fAndV, fOrV, fNotV, fNotW, fAnd, fOr, fNot, fTest, fTru, fIf, fChain, fOp, fUn, fCB, fCons, fNil, fTup, fLst, fCall, fVar, fC, fSl, fPart, fNoPart, fBM, fM0, fM1, mAsk, fFld, fMeth, fPropN, fCMeth, fDNew, fDGet2, fDGet, fDPut, fLc, fYes, fiList, fiTup, bind_ok, thenS_ok, asB_bl, j_ii, j_ib, j_ss, j_tt, gLt, gLe, gGt, gGe, gCmp, gAdd, gSubI, gMul, gMod, gDiv, gEq, gNe, gEqB, refD, scalEq, gLen, gAbs, gMax, gMin, gTuple, gIxS, tupOf, outS, fin_same, thenG, loopS, truD_bl, truD_tup, fgTup, fgCons, fgNil, h]
theorem e_whole (i : Int) (M : AH) (h : (if i < 0 then -i else i) < 10 ^ 60) : F_is_whole [.int i] M = .ok (.bl true) M := by
  simp [F_is_whole, fnF, fnK, fSeq, fRet, fRetN, fAsg, fgName, fDrop, fNext, fNever, fIfS, fPar, fFor, fAndV, fOrV, fNotV, fNotW, fAnd, fOr, fNot, fTest, fTru, fIf, fChain, fOp, fUn, fCB, fCons, fNil, fTup, fLst, fCall, fVar, fC, fSl, fPart, fNoPart, fBM, fM0, fM1, mAsk, fFld, fMeth, fPropN, fCMeth, fDNew, fDGet2, fDGet, fDPut, fLc, fYes, fiList, fiTup, bind_ok, thenS_ok, asB_bl, j_ii, j_ib, j_ss, j_tt, gLt, gLe, gGt, gGe, gCmp, gAdd, gSubI, gMul, gMod, gDiv, gEq, gNe, gEqB, refD, scalEq, gLen, gAbs, gMax, gMin, gTuple, gIxS, tupOf, outS, fin_same, thenG, loopS, truD_bl, truD_tup, fgTup, fgCons, fgNil]
  simpa using h
theorem e_short (z : Str) (M : AH) (c : Nat) (r : List Nat) (hc : tl z = c :: r) (h1 : 1 ≤ z.length) (h2 : z.length ≤ 8) (h3 : Txt.isalnum z = true) (h4 : Txt.isalpha (S [c]) = true) (h5 : Txt.isascii z = true) (h6 : Txt.islower z = true) :
    F_is_short_name [.str z, .int 8] M = .ok (.bl true) M := by
  have hs : z.length ≤ sizeLine := size600 (by omega)
  have hat : atI (tl z) 0 = some c := by rw [hc]; simp [atI, ixN]
  have h1' : (1 : Int) ≤ z.length := by omega
  have h2' : (z.length : Int) ≤ 8 := by omega
  simp [F_is_short_name, fnF, fnK, fSeq, fRet, fRetN, fAsg, fgName, fDrop, fNext, fNever, fIfS, fPar, fFor, fAndV, fOrV, fNotV, fNotW, fAnd, fOr, fNot, fTest, fTru, fIf, fChain, fOp, fUn, fCB, fCons, fNil, fTup, fLst, fCall, fVar, fC, fSl, fPart, fNoPart, fBM, fM0, fM1, mAsk, fFld, fMeth, fPropN, fCMeth, fDNew, fDGet2, fDGet, fDPut, fLc, fYes, fiList, fiTup, bind_ok, thenS_ok, asB_bl, j_ii, j_ib, j_ss, j_tt, gLt, gLe, gGt, gGe, gCmp, gAdd, gSubI, gMul, gMod, gDiv, gEq, gNe, gEqB, refD, scalEq, gLen, gAbs, gMax, gMin, gTuple, gIxS, tupOf, outS, fin_same, thenG, loopS, truD_bl, truD_tup, fgTup, fgCons, fgNil, h1', h2', h3, h4, h5, h6, hs, hat]
theorem e_kind (z : Str) (M : AH) (h : kindB z = true) : F_is_kind [.str z] M = .ok (.bl true) M := by
  unfold kindB at h
  simp only [Bool.and_eq_true, decide_eq_true_eq, Bool.not_eq_true', decide_eq_false_iff_not] at h
  obtain ⟨h1, h2, h3, h4, h5, h6, h7, h8⟩ := h
  cases hc : tl z with
  | nil => rw [hc] at h4; cases h4
  | cons c r =>
    rw [hc] at h4
    have h7' : ¬ z.cps = (Str.ofString "nothing").cps := fun e => h7 (congrArg Array.toList e)
    simp [F_is_kind, fnF, fnK, fSeq, fRet, fRetN, fAsg, fgName, fDrop, fNext, fNever, fIfS, fPar, fFor, fAndV, fOrV, fNotV, fNotW, fAnd, fOr, fNot, fTest, fTru, fIf, fChain, fOp, fUn, fCB, fCons, fNil, fTup, fLst, fCall, fVar, fC, fSl, fPart, fNoPart, fBM, fM0, fM1, mAsk, fFld, fMeth, fPropN, fCMeth, fDNew, fDGet2, fDGet, fDPut, fLc, fYes, fiList, fiTup, bind_ok, thenS_ok, asB_bl, j_ii, j_ib, j_ss, j_tt, gLt, gLe, gGt, gGe, gCmp, gAdd, gSubI, gMul, gMod, gDiv, gEq, gNe, gEqB, refD, scalEq, gLen, gAbs, gMax, gMin, gTuple, gIxS, tupOf, outS, fin_same, thenG, loopS, truD_bl, truD_tup, fgTup, fgCons, fgNil, e_short z M c r hc h1 h2 h3 h4 h5 h6, h7']
theorem rows_cons {a : Str} {p : Row} {r : List Row} (h : rowsOk a (p :: r) = true) : kindB p.1 = true ∧ tl a < tl p.1 ∧ 1 ≤ p.2 ∧ p.2 ≤ 1000000 ∧ rowsOk p.1 r = true := by
  simp only [rowsOk, Bool.and_eq_true, decide_eq_true_eq] at h
  exact ⟨h.1, h.2.1, h.2.2.1.1, h.2.2.1.2, h.2.2.2⟩
theorem e_pairs (m : List Row) (M : AH) (h : Ok m) : F__are_pairs [.tup (m.map pr)] M = .ok (.bl true) M := by
  obtain ⟨h1, h2⟩ := h
  obtain ⟨δ', M', e, ⟨a, s2, s3, s4, rfl, rfl, _⟩⟩ := for_ex (chk := fun _ => true) (g := fgName 2) (b := L__are_pairs_1) pr
    (fun r δ M1 => ∃ (a : Str) (s2 s3 s4 : Option D), δ = [some (.tup (m.map pr)), some (.str a), s2, s3, s4] ∧ M1 = M ∧ rowsOk a r = true) (fun _ _ _ _ => rfl)
    (fun p r δ M1 hI => by
      obtain ⟨a, s2, s3, s4, rfl, rfl, hr⟩ := hI
      obtain ⟨k1, k2, k3, k4, k5⟩ := rows_cons hr
      have k2' : ¬ p.1.cps ≤ a.cps := by simpa using k2
      refine ⟨_, _, [some (.tup (m.map pr)), some (.str p.1), some (pr p), some (.str p.1), some (.int p.2)], M1, rfl, .inl ?_, p.1, _, _, _, rfl, rfl, k5⟩
      simp [L__are_pairs_1, pr, fnF, fnK, fSeq, fRet, fRetN, fAsg, fgName, fDrop, fNext, fNever, fIfS, fPar, fFor, fAndV, fOrV, fNotV, fNotW, fAnd, fOr, fNot, fTest, fTru, fIf, fChain, fOp, fUn, fCB, fCons, fNil, fTup, fLst, fCall, fVar, fC, fSl, fPart, fNoPart, fBM, fM0, fM1, mAsk, fFld, fMeth, fPropN, fCMeth, fDNew, fDGet2, fDGet, fDPut, fLc, fYes, fiList, fiTup, bind_ok, thenS_ok, asB_bl, j_ii, j_ib, j_ss, j_tt, gLt, gLe, gGt, gGe, gCmp, gAdd, gSubI, gMul, gMod, gDiv, gEq, gNe, gEqB, refD, scalEq, gLen, gAbs, gMax, gMin, gTuple, gIxS, tupOf, outS, fin_same, thenG, loopS, truD_bl, truD_tup, fgTup, fgCons, fgNil, e_kind _ _ k1, e_between, k2', k3, k4])
    m [some (.tup (m.map pr)), some (.str (Str.ofString "")), none, none, none] M ⟨_, _, _, _, rfl, rfl, h1⟩
  have hl : ¬ (60 : Int) < (m.length : Int) := by omega
  simp [F__are_pairs, fnF, fnK, fSeq, fRet, fRetN, fAsg, fgName, fDrop, fNext, fNever, fIfS, fPar, fFor, fAndV, fOrV, fNotV, fNotW, fAnd, fOr, fNot, fTest, fTru, fIf, fChain, fOp, fUn, fCB, fCons, fNil, fTup, fLst, fCall, fVar, fC, fSl, fPart, fNoPart, fBM, fM0, fM1, mAsk, fFld, fMeth, fPropN, fCMeth, fDNew, fDGet2, fDGet, fDPut, fLc, fYes, fiList, fiTup, bind_ok, thenS_ok, asB_bl, j_ii, j_ib, j_ss, j_tt, gLt, gLe, gGt, gGe, gCmp, gAdd, gSubI, gMul, gMod, gDiv, gEq, gNe, gEqB, refD, scalEq, gLen, gAbs, gMax, gMin, gTuple, gIxS, tupOf, outS, fin_same, thenG, loopS, truD_bl, truD_tup, fgTup, fgCons, fgNil, hl, e]
/-! ### dicts of rows -/
theorem pairs_of_rows : ∀ m : List Row, pairsD (m.map pr) = some (m.map fun p => ((.inr p.1 : Key), D.int p.2))
  | [] => rfl
  | p :: r => by simp [pairsD, pr, tupOf, keyD, pairs_of_rows r]
theorem rows_lt : ∀ (m : List Row) (a : Str), rowsOk a m = true → ∀ p ∈ m, tl a < tl p.1
  | [], _, _, p, hp => by cases hp
  | q :: r, a, h, p, hp => by
    obtain ⟨_, k2, _, _, k5⟩ := rows_cons h
    rcases List.mem_cons.mp hp with e | hp
    · rw [e]; exact k2
    · exact List.lt_trans k2 (rows_lt r q.1 k5 p hp)
def keysNd : List Row → Prop
  | [] => True
  | p :: r => (∀ q ∈ r, q.1 ≠ p.1) ∧ keysNd r
theorem ok_nd : ∀ (m : List Row) (a : Str), rowsOk a m = true → keysNd m
  | [], _, _ => trivial
  | p :: r, a, h => by
    obtain ⟨_, _, _, _, k5⟩ := rows_cons h
    exact ⟨fun q hq e => by
      have := rows_lt r p.1 k5 q hq
      rw [e] at this
      exact List.lt_irrefl _ this, ok_nd r p.1 k5⟩
theorem hasK_rows {m : List Row} {k : Str} (h : ∀ p ∈ m, p.1 ≠ k) : hasK (ksOf m) (.inr k) = false := by
  unfold hasK ksOf
  rw [List.any_eq_false]
  intro x hx
  obtain ⟨p, hp, rfl⟩ := List.mem_map.mp hx
  have := h p hp
  simp [this]
theorem merge_rows : ∀ (m acc : List Row), keysNd m → (∀ p ∈ m, ∀ q ∈ acc, q.1 ≠ p.1) → mergeD (ksOf acc, nsOf acc) (m.map fun p => ((.inr p.1 : Key), D.int p.2)) = (ksOf (acc ++ m), nsOf (acc ++ m))
  | [], acc, _, _ => by simp [mergeD]
  | p :: r, acc, h, hd => by
    have hk : hasK (ksOf acc) (.inr p.1) = false := hasK_rows fun q hq => hd p (List.mem_cons_self ..) q hq
    have hp : putD (ksOf acc) (nsOf acc) (.inr p.1) (.int p.2) = (ksOf (acc ++ [p]), nsOf (acc ++ [p])) := by
      unfold putD
      rw [hk]
      simp [ksOf, nsOf]
    simp only [List.map_cons, mergeD, hp]
    rw [merge_rows r (acc ++ [p]) h.2 fun q hq s hs => by
      rcases List.mem_append.mp hs with hs | hs
      · exact hd q (List.mem_cons_of_mem _ hq) s hs
      · have : s = p := by simpa using hs
        subst this
        exact (h.1 q hq).symm]
    rw [List.append_assoc]
    rfl
theorem dict_rows {m : List Row} (h : keysNd m) : mergeD ([], []) (m.map fun p => ((.inr p.1 : Key), D.int p.2)) = (ksOf m, nsOf m) := merge_rows m [] h fun _ _ _ hq => by cases hq
/-! ### amounts are made -/
theorem py_prs : ∀ m : List Row, pyL (m.map pr) = some (m.map fun p => PyData.tuple [.str p.1, .int p.2])
  | [] => rfl
  | p :: r => by simp [pyL, pr, pyD, py_prs r]
theorem eqv_prs : ∀ a b : List Row, PyData.eqvAll (a.map fun p => PyData.tuple [.str p.1, .int p.2]) (b.map fun p => PyData.tuple [.str p.1, .int p.2]) = decide (a = b)
  | [], [] => by simp [PyData.eqvAll]
  | [], _ :: _ => by simp [PyData.eqvAll]
  | _ :: _, [] => by simp [PyData.eqvAll]
  | p :: r, q :: s => by
    simp only [List.map_cons, PyData.eqvAll, PyData.eqv, eqv_prs r s]
    by_cases h1 : p.1 = q.1 <;> by_cases h2 : p.2 = q.2 <;> by_cases h3 : r = s <;> simp [h1, h2, h3, Prod.ext_iff]
theorem ok_str : ∀ (m : List Row) (a : Str), rowsOk a m = true → ∀ p ∈ m, PyData.strOk p.1 = true
  | [], _, _, p, hp => by cases hp
  | q :: r, a, h, p, hp => by
    obtain ⟨k1, _, _, _, k5⟩ := rows_cons h
    rcases List.mem_cons.mp hp with e | hp
    · rw [e]
      unfold kindB at k1
      simp only [Bool.and_eq_true] at k1
      exact k1.2.2.2.2.2.2.2
    · exact ok_str r q.1 k5 p hp
theorem lay_prs : ∀ m : List Row, (∀ p ∈ m, PyData.strOk p.1 = true) → PyData.canLayAll0 (m.map fun p => PyData.tuple [.str p.1, .int p.2]) = true ∧ PyData.depthAll (m.map fun p => PyData.tuple [.str p.1, .int p.2]) ≤ 1
  | [], _ => by simp [PyData.canLayAll0, PyData.depthAll]
  | p :: r, h => by
    have ih := lay_prs r fun q hq => h q (List.mem_cons_of_mem _ hq)
    have h1 := h p (List.mem_cons_self ..)
    simp only [List.map_cons, PyData.canLayAll0, PyData.canLay0, PyData.depthAll, PyData.depth, h1, ih.1]
    refine ⟨by simp, ?_⟩
    have := ih.2
    omega
theorem shaped_prs {m : List Row} (h : Ok m) : SeqAt.shaped (.tuple (m.map fun p => PyData.tuple [.str p.1, .int p.2])) = true := by
  have := lay_prs m (ok_str m _ h.1)
  unfold SeqAt.shaped
  rw [Bool.and_eq_true]
  refine ⟨?_, decide_eq_true ?_⟩
  · rw [PyData.canLay0]; exact this.1
  · rw [PyData.depth]; omega
theorem eq_tups {a b : List Row} {M : AH} (ha : Ok a) (hb : Ok b) (n : Bool) : gEqB n (.tup (a.map pr)) (.tup (b.map pr)) M = .ok (.bl (n != decide (a = b))) M := by
  simp only [gEqB, refD, pyOf, pyD, py_prs, Option.map_some, shaped_prs ha, shaped_prs hb, PyData.eqv, eqv_prs, Bool.and_self, Bool.or_self, if_true]
theorem e_ini (m : List Row) (M : AH) (h : Ok m) : F_Amounts___init__ [.ref M.length, .tup (m.map pr)] (M ++ [.obj "Amounts" [] []]) = .ok .non (M ++ [.obj "Amounts" ["_pairs", "_numbers"] [.tup (m.map pr), .ref (M.length + 1)], .dct (ksOf m) (nsOf m)]) := by
  have ok0 : Ok [] := ⟨rfl, by decide⟩
  have hq : ∀ M, gNe (.tup (m.map pr)) (.tup []) M = .ok (.bl (true != decide (m = []))) M := fun M => eq_tups (M := M) h ok0 true
  generalize hg : (gNe : D → D → AH → Res D) = g at hq
  by_cases hm : m = []
  · simp only [hm, decide_true, List.map_nil] at hq
    simp only [hm] at *
    simp [F_Amounts___init__, hg, fnF, fnK, fSeq, fRet, fRetN, fAsg, fgName, fDrop, fNext, fNever, fIfS, fPar, fFor, fAndV, fOrV, fNotV, fNotW, fAnd, fOr, fNot, fTest, fTru, fIf, fChain, fOp, fUn, fCB, fCons, fNil, fTup, fLst, fCall, fVar, fC, fSl, fPart, fNoPart, fBM, fM0, fM1, mAsk, fFld, fMeth, fPropN, fCMeth, fDNew, fDGet2, fDGet, fDPut, fLc, fYes, fiList, fiTup, bind_ok, thenS_ok, asB_bl, j_ii, j_ib, j_ss, j_tt, gLt, gLe, gGt, gGe, gCmp, gAdd, gSubI, gMul, gMod, gDiv, gLen, gAbs, gMax, gMin, gTuple, gIxS, tupOf, outS, fin_same, thenG, loopS, truD_bl, truD_tup, fgTup, fgCons, fgNil, hq, fsFld, putN, gDict, pairsD, mergeD, ksOf, nsOf]
  · simp only [hm, decide_false] at hq
    simp [F_Amounts___init__, hg, fnF, fnK, fSeq, fRet, fRetN, fAsg, fgName, fDrop, fNext, fNever, fIfS, fPar, fFor, fAndV, fOrV, fNotV, fNotW, fAnd, fOr, fNot, fTest, fTru, fIf, fChain, fOp, fUn, fCB, fCons, fNil, fTup, fLst, fCall, fVar, fC, fSl, fPart, fNoPart, fBM, fM0, fM1, mAsk, fFld, fMeth, fPropN, fCMeth, fDNew, fDGet2, fDGet, fDPut, fLc, fYes, fiList, fiTup, bind_ok, thenS_ok, asB_bl, j_ii, j_ib, j_ss, j_tt, gLt, gLe, gGt, gGe, gCmp, gAdd, gSubI, gMul, gMod, gDiv, gLen, gAbs, gMax, gMin, gTuple, gIxS, tupOf, outS, fin_same, thenG, loopS, truD_bl, truD_tup, fgTup, fgCons, fgNil, hq, e_pairs m _ h, fsFld, putN, gDict, pairs_of_rows, dict_rows (ok_nd m _ h.1)]
theorem e_mk (m : List Row) (M : AH) (h : Ok m) : mkFin M.length M (F_Amounts___init__ [.ref M.length, .tup (m.map pr)] (M ++ [.obj "Amounts" [] []])) = .ok (amt m) M := by
  have hi := e_ini m M h
  rw [hi]
  have hf : frz (M ++ [.obj "Amounts" ["_pairs", "_numbers"] [.tup (m.map pr), .ref (M.length + 1)], .dct (ksOf m) (nsOf m)]) M.length frzN (.ref M.length) = some (amt m) := by
    unfold frzN frz
    rw [if_neg (by simp [D.clo])]
    have h2 : frz (M ++ [.obj "Amounts" ["_pairs", "_numbers"] [.tup (m.map pr), .ref (M.length + 1)], .dct (ksOf m) (nsOf m)]) M.length 11 (.ref (M.length + 1)) = some (.dct (ksOf m) (nsOf m)) := by
      unfold frz
      rw [if_neg (by simp [D.clo])]
      simp [frzL_clo clo_ns]
    simp [frzL, h2, frz_clo, clo_prs, amt]
  simp only [mkFin, fin, okOld_app, if_true, hf, List.take_left]
theorem e_sure (m : List Row) (M : AH) (h : Ok m) : F_sure_amounts [.tup (m.map pr)] M = .ok (amt m) M := by
  have h0 := e_ini [] M ⟨rfl, by decide⟩
  simp only [List.map_nil, ksOf, nsOf] at h0
  have hf : fin M (.ok (.ref M.length) (M ++ [.obj "Amounts" ["_pairs", "_numbers"] [.tup (m.map pr), .ref (M.length + 2)], .dct [] [], .dct (ksOf m) (nsOf m)])) = .ok (amt m) M := by
    have q : frz (M ++ [.obj "Amounts" ["_pairs", "_numbers"] [.tup (m.map pr), .ref (M.length + 2)], .dct [] [], .dct (ksOf m) (nsOf m)]) M.length frzN (.ref M.length) = some (amt m) := by
      unfold frzN frz
      rw [if_neg (by simp [D.clo])]
      have h2 : frz (M ++ [.obj "Amounts" ["_pairs", "_numbers"] [.tup (m.map pr), .ref (M.length + 2)], .dct [] [], .dct (ksOf m) (nsOf m)]) M.length 11 (.ref (M.length + 2)) = some (.dct (ksOf m) (nsOf m)) := by
        unfold frz
        rw [if_neg (by simp [D.clo])]
        simp [frzL_clo clo_ns]
      simp [frzL, h2, frz_clo, clo_prs, amt]
    simp only [fin, okOld_app, if_true, q, List.take_left]
  simp [F_sure_amounts, fnF, fnK, fSeq, fRet, fRetN, fAsg, fgName, fDrop, fNext, fNever, fIfS, fPar, fFor, fAndV, fOrV, fNotV, fNotW, fAnd, fOr, fNot, fTest, fTru, fIf, fChain, fOp, fUn, fCB, fCons, fNil, fTup, fLst, fCall, fVar, fC, fSl, fPart, fNoPart, fBM, fM0, fM1, mAsk, fFld, fMeth, fPropN, fCMeth, fDNew, fDGet2, fDGet, fDPut, fLc, fYes, fiList, fiTup, bind_ok, thenS_ok, asB_bl, j_ii, j_ib, j_ss, j_tt, gLt, gLe, gGt, gGe, gCmp, gAdd, gSubI, gMul, gMod, gDiv, gEq, gNe, gEqB, refD, scalEq, gLen, gAbs, gMax, gMin, gTuple, gIxS, tupOf, outS, fin_same, thenG, loopS, truD_bl, truD_tup, fgTup, fgCons, fgNil, fMkM, h0, fsFld, putN, gDict, pairs_of_rows, dict_rows (ok_nd m _ h.1), hf]
end K01
namespace K01
open PySem L2 G
/-! ### what lacks, covers, equality -/
def lack (a b : List Row) : List Row := (b.map fun p => (p.1, p.2 - get a p.1)).filter fun p => decide (0 < p.2)
theorem fm_pr (q : Row → Bool) : ∀ m : List Row, (m.map pr).filterMap (fun d => match d with | .tup [.str k, .int n] => if q (k, n) then some (pr (k, n)) else none | _ => none) = (m.filter q).map pr
  | [] => rfl
  | p :: r => by
    have ih := fm_pr q r
    simp only [List.map_cons, List.filterMap_cons, pr] at ih ⊢
    by_cases h : q p = true
    · have h' : q (p.1, p.2) = true := h
      simp only [h', if_true, List.filter_cons, h, List.map_cons, pr]
      rw [ih]
    · have h' : q (p.1, p.2) = false := by simpa using h
      simp only [h', Bool.false_eq_true, if_false, List.filter_cons, h]
      exact ih
theorem e_lacking (a b : List Row) (M : AH) (hb : b.length ≤ 60) : F__lacking [amt a, amt b] M = .ok (.tup ((lack a b).map pr)) M := by
  have c1 : fLcL (fun _ => true) (fgTup 2 (fgCons (fgName 3) (fgCons (fgName 4) fgNil))) fYes (fTup (fCons (fVar 3) (fCons (fOp gSubI (fVar 4) (fDGet2 (fFld "Amounts" "_numbers" (fVar 0)) (fVar 3) (fC (.int 0)))) fNil)))
      [some (amt a), some (amt b), none, none, none] (b.map pr) [] M = .ok ((b.map pr).map fun d => match d with | .tup [.str k, .int n] => pr (k, n - get a k) | _ => .non) M := by
    refine lc_map _ rfl _ (size600 (by simp; omega)) fun d hd => ?_
    obtain ⟨p, _, rfl⟩ := List.mem_map.mp hd
    refine ⟨[some (amt a), some (amt b), none, some (.str p.1), some (.int p.2)], rfl, rfl, ?_⟩
    simp [fnF, fnK, fSeq, fRet, fRetN, fAsg, fgName, fDrop, fNext, fNever, fIfS, fPar, fFor, fAndV, fOrV, fNotV, fNotW, fAnd, fOr, fNot, fTest, fTru, fIf, fChain, fOp, fUn, fCB, fCons, fNil, fTup, fLst, fCall, fVar, fC, fSl, fPart, fNoPart, fBM, fM0, fM1, mAsk, fFld, fMeth, fPropN, fCMeth, fDNew, fDGet2, fDGet, fDPut, fLc, fYes, fiList, fiTup, bind_ok, thenS_ok, asB_bl, j_ii, j_ib, j_ss, j_tt, gLt, gLe, gGt, gGe, gCmp, gAdd, gSubI, gMul, gMod, gDiv, gEq, gNe, gEqB, refD, scalEq, gLen, gAbs, gMax, gMin, gTuple, gIxS, tupOf, outS, fin_same, thenG, loopS, truD_bl, truD_tup, fgTup, fgCons, fgNil, obj_amt, look_n, dctOf, keyD, val_get, pr]
    exact size600 (by omega)
  have e1 : ((b.map pr).map fun d => match d with | .tup [.str k, .int n] => pr (k, n - get a k) | _ => D.non) = (b.map fun p => ((p.1, p.2 - get a p.1) : Row)).map pr := by
    rw [List.map_map, List.map_map]
    rfl
  rw [e1] at c1
  have c2 : fLcL (stands M.length ((b.map fun p => ((p.1, p.2 - get a p.1) : Row)).map pr)) (fgTup 2 (fgCons (fgName 3) (fgCons (fgName 4) fgNil))) (fTest (fOp gGt (fVar 4) (fC (.int 0)))) (fTup (fCons (fVar 3) (fCons (fVar 4) fNil)))
      [some (amt a), some (amt b), some (.ref M.length), none, none] ((b.map fun p => ((p.1, p.2 - get a p.1) : Row)).map pr) [] (M ++ [.lst ((b.map fun p => ((p.1, p.2 - get a p.1) : Row)).map pr)])
      = .ok ((lack a b).map pr) (M ++ [.lst ((b.map fun p => ((p.1, p.2 - get a p.1) : Row)).map pr)]) := by
    rw [lc_fm (fun d => match d with | .tup [.str k, .int n] => if decide (0 < n) then some (pr (k, n)) else none | _ => none) (by simp [stands, D.beqL_refl]) _ [] (size600 (by simp; omega)) fun d hd => ?_]
    · have := fm_pr (fun p => decide (0 < p.2)) (b.map fun p => ((p.1, p.2 - get a p.1) : Row))
      simp only at this
      rw [this]
      rfl
    · obtain ⟨p, _, rfl⟩ := List.mem_map.mp hd
      refine ⟨[some (amt a), some (amt b), some (.ref M.length), some (.str p.1), some (.int p.2)], rfl, ?_⟩
      by_cases h : 0 < p.2
      · simp [fnF, fnK, fSeq, fRet, fRetN, fAsg, fgName, fDrop, fNext, fNever, fIfS, fPar, fFor, fAndV, fOrV, fNotV, fNotW, fAnd, fOr, fNot, fTest, fTru, fIf, fChain, fOp, fUn, fCB, fCons, fNil, fTup, fLst, fCall, fVar, fC, fSl, fPart, fNoPart, fBM, fM0, fM1, mAsk, fFld, fMeth, fPropN, fCMeth, fDNew, fDGet2, fDGet, fDPut, fLc, fYes, fiList, fiTup, bind_ok, thenS_ok, asB_bl, j_ii, j_ib, j_ss, j_tt, gLt, gLe, gGt, gGe, gCmp, gAdd, gSubI, gMul, gMod, gDiv, gEq, gNe, gEqB, refD, scalEq, gLen, gAbs, gMax, gMin, gTuple, gIxS, tupOf, outS, fin_same, thenG, loopS, truD_bl, truD_tup, fgTup, fgCons, fgNil, pr, h]
        exact size600 (by omega)
      · simp [fnF, fnK, fSeq, fRet, fRetN, fAsg, fgName, fDrop, fNext, fNever, fIfS, fPar, fFor, fAndV, fOrV, fNotV, fNotW, fAnd, fOr, fNot, fTest, fTru, fIf, fChain, fOp, fUn, fCB, fCons, fNil, fTup, fLst, fCall, fVar, fC, fSl, fPart, fNoPart, fBM, fM0, fM1, mAsk, fFld, fMeth, fPropN, fCMeth, fDNew, fDGet2, fDGet, fDPut, fLc, fYes, fiList, fiTup, bind_ok, thenS_ok, asB_bl, j_ii, j_ib, j_ss, j_tt, gLt, gLe, gGt, gGe, gCmp, gAdd, gSubI, gMul, gMod, gDiv, gEq, gNe, gEqB, refD, scalEq, gLen, gAbs, gMax, gMin, gTuple, gIxS, tupOf, outS, fin_same, thenG, loopS, truD_bl, truD_tup, fgTup, fgCons, fgNil, pr, h]
  generalize (b.map fun p => ((p.1, p.2 - get a p.1) : Row)) = B at c1 c2
  simp only [gGt] at c2
  have := fin_app (M := M) (xs := [.lst (B.map pr), .lst ((lack a b).map pr)]) (d := .tup ((lack a b).map pr)) (by simp [clo_prs])
  simp [F__lacking, fnF, fnK, fSeq, fRet, fRetN, fAsg, fgName, fDrop, fNext, fNever, fIfS, fPar, fFor, fAndV, fOrV, fNotV, fNotW, fAnd, fOr, fNot, fTest, fTru, fIf, fChain, fOp, fUn, fCB, fCons, fNil, fTup, fLst, fCall, fVar, fC, fSl, fPart, fNoPart, fBM, fM0, fM1, mAsk, fFld, fMeth, fPropN, fCMeth, fDNew, fDGet2, fDGet, fDPut, fLc, fYes, fiList, fiTup, bind_ok, thenS_ok, asB_bl, j_ii, j_ib, j_ss, j_tt, gLt, gLe, gGt, gGe, gCmp, gAdd, gSubI, gMul, gMod, gDiv, gEq, gNe, gEqB, refD, scalEq, gLen, gAbs, gMax, gMin, gTuple, gIxS, tupOf, outS, fin_same, thenG, loopS, truD_bl, truD_tup, fgTup, fgCons, fgNil, obj_amt, look_p, wipeD, c1, itmOf, c2, G.listOf, this]
theorem e_check (m : List Row) (M : AH) : F_check_amounts [amt m] M = .ok .non M := by simp [F_check_amounts, fnF, fnK, fSeq, fRet, fRetN, fAsg, fgName, fDrop, fNext, fNever, fIfS, fPar, fFor, fAndV, fOrV, fNotV, fNotW, fAnd, fOr, fNot, fTest, fTru, fIf, fChain, fOp, fUn, fCB, fCons, fNil, fTup, fLst, fCall, fVar, fC, fSl, fPart, fNoPart, fBM, fM0, fM1, mAsk, fFld, fMeth, fPropN, fCMeth, fDNew, fDGet2, fDGet, fDPut, fLc, fYes, fiList, fiTup, bind_ok, thenS_ok, asB_bl, j_ii, j_ib, j_ss, j_tt, gLt, gLe, gGt, gGe, gCmp, gAdd, gSubI, gMul, gMod, gDiv, gEq, gNe, gEqB, refD, scalEq, gLen, gAbs, gMax, gMin, gTuple, gIxS, tupOf, outS, fin_same, thenG, loopS, truD_bl, truD_tup, fgTup, fgCons, fgNil, isi_amt]
theorem e_covers (a b : List Row) (M : AH) (hb : b.length ≤ 60) : F_Amounts_covers [amt a, amt b] M = .ok (.bl (lack a b).isEmpty) M := by
  simp [F_Amounts_covers, fnF, fnK, fSeq, fRet, fRetN, fAsg, fgName, fDrop, fNext, fNever, fIfS, fPar, fFor, fAndV, fOrV, fNotV, fNotW, fAnd, fOr, fNot, fTest, fTru, fIf, fChain, fOp, fUn, fCB, fCons, fNil, fTup, fLst, fCall, fVar, fC, fSl, fPart, fNoPart, fBM, fM0, fM1, mAsk, fFld, fMeth, fPropN, fCMeth, fDNew, fDGet2, fDGet, fDPut, fLc, fYes, fiList, fiTup, bind_ok, thenS_ok, asB_bl, j_ii, j_ib, j_ss, j_tt, gLt, gLe, gGt, gGe, gCmp, gAdd, gSubI, gMul, gMod, gDiv, gEq, gNe, gEqB, refD, scalEq, gLen, gAbs, gMax, gMin, gTuple, gIxS, tupOf, outS, fin_same, thenG, loopS, truD_bl, truD_tup, fgTup, fgCons, fgNil, e_check, e_lacking a b M hb]
theorem e_lacks (a b : List Row) (M : AH) (hb : b.length ≤ 60) (h : Ok (lack a b)) : F_Amounts_lacks [amt a, amt b] M = .ok (amt (lack a b)) M := by
  simp [F_Amounts_lacks, fnF, fnK, fSeq, fRet, fRetN, fAsg, fgName, fDrop, fNext, fNever, fIfS, fPar, fFor, fAndV, fOrV, fNotV, fNotW, fAnd, fOr, fNot, fTest, fTru, fIf, fChain, fOp, fUn, fCB, fCons, fNil, fTup, fLst, fCall, fVar, fC, fSl, fPart, fNoPart, fBM, fM0, fM1, mAsk, fFld, fMeth, fPropN, fCMeth, fDNew, fDGet2, fDGet, fDPut, fLc, fYes, fiList, fiTup, bind_ok, thenS_ok, asB_bl, j_ii, j_ib, j_ss, j_tt, gLt, gLe, gGt, gGe, gCmp, gAdd, gSubI, gMul, gMod, gDiv, gEq, gNe, gEqB, refD, scalEq, gLen, gAbs, gMax, gMin, gTuple, gIxS, tupOf, outS, fin_same, thenG, loopS, truD_bl, truD_tup, fgTup, fgCons, fgNil, e_check, e_lacking a b M hb, fMk, e_mk _ M h, clo_amt]
theorem e_prop (m : List Row) (M : AH) : F_Amounts_pairs [amt m] M = .ok (.tup (m.map pr)) M := by simp [F_Amounts_pairs, fnF, fnK, fSeq, fRet, fRetN, fAsg, fgName, fDrop, fNext, fNever, fIfS, fPar, fFor, fAndV, fOrV, fNotV, fNotW, fAnd, fOr, fNot, fTest, fTru, fIf, fChain, fOp, fUn, fCB, fCons, fNil, fTup, fLst, fCall, fVar, fC, fSl, fPart, fNoPart, fBM, fM0, fM1, mAsk, fFld, fMeth, fPropN, fCMeth, fDNew, fDGet2, fDGet, fDPut, fLc, fYes, fiList, fiTup, bind_ok, thenS_ok, asB_bl, j_ii, j_ib, j_ss, j_tt, gLt, gLe, gGt, gGe, gCmp, gAdd, gSubI, gMul, gMod, gDiv, gEq, gNe, gEqB, refD, scalEq, gLen, gAbs, gMax, gMin, gTuple, gIxS, tupOf, outS, fin_same, thenG, loopS, truD_bl, truD_tup, fgTup, fgCons, fgNil, obj_amt, look_p, clo_prs]
theorem e_len (m : List Row) (M : AH) : F_Amounts___len__ [amt m] M = .ok (.int m.length) M := by simp [F_Amounts___len__, fnF, fnK, fSeq, fRet, fRetN, fAsg, fgName, fDrop, fNext, fNever, fIfS, fPar, fFor, fAndV, fOrV, fNotV, fNotW, fAnd, fOr, fNot, fTest, fTru, fIf, fChain, fOp, fUn, fCB, fCons, fNil, fTup, fLst, fCall, fVar, fC, fSl, fPart, fNoPart, fBM, fM0, fM1, mAsk, fFld, fMeth, fPropN, fCMeth, fDNew, fDGet2, fDGet, fDPut, fLc, fYes, fiList, fiTup, bind_ok, thenS_ok, asB_bl, j_ii, j_ib, j_ss, j_tt, gLt, gLe, gGt, gGe, gCmp, gAdd, gSubI, gMul, gMod, gDiv, gEq, gNe, gEqB, refD, scalEq, gLen, gAbs, gMax, gMin, gTuple, gIxS, tupOf, outS, fin_same, thenG, loopS, truD_bl, truD_tup, fgTup, fgCons, fgNil, obj_amt, look_p]
theorem e_bool (m : List Row) (M : AH) : F_Amounts___bool__ [amt m] M = .ok (.bl (!m.isEmpty)) M := by
  simp [F_Amounts___bool__, fnF, fnK, fSeq, fRet, fRetN, fAsg, fgName, fDrop, fNext, fNever, fIfS, fPar, fFor, fAndV, fOrV, fNotV, fNotW, fAnd, fOr, fNot, fTest, fTru, fIf, fChain, fOp, fUn, fCB, fCons, fNil, fTup, fLst, fCall, fVar, fC, fSl, fPart, fNoPart, fBM, fM0, fM1, mAsk, fFld, fMeth, fPropN, fCMeth, fDNew, fDGet2, fDGet, fDPut, fLc, fYes, fiList, fiTup, bind_ok, thenS_ok, asB_bl, j_ii, j_ib, j_ss, j_tt, gLt, gLe, gGt, gGe, gCmp, gAdd, gSubI, gMul, gMod, gDiv, gEq, gNe, gEqB, refD, scalEq, gLen, gAbs, gMax, gMin, gTuple, gIxS, tupOf, outS, fin_same, thenG, loopS, truD_bl, truD_tup, fgTup, fgCons, fgNil, obj_amt, look_p, gBool]
theorem e_eq (a b : List Row) (M : AH) (ha : Ok a) (hb : Ok b) : F_Amounts___eq__ [amt a, amt b] M = .ok (.bl (decide (a = b))) M := by
  have h := eq_tups (M := M) ha hb false
  simp only [Bool.false_bne] at h
  simp [F_Amounts___eq__, fnF, fSeq, fRet, fAndV, fCB, fCons, fNil, fVar, fC, fOp, fFld, bind_ok, thenS_ok, isi_amt, asB_bl, obj_amt, look_p, gEq, h, outS, fin_same]
theorem o_eq {a b : List Row} {M : AH} (ha : Ok a) (hb : Ok b) : gOwn "Amounts" F_Amounts___eq__ (amt a) (amt b) M = .ok (.bl (decide (a = b))) M := by
  simp [gOwn, obj_amt, e_eq a b M ha hb]
theorem o_ne {a b : List Row} {M : AH} (ha : Ok a) (hb : Ok b) : gOwnNe "Amounts" F_Amounts___eq__ (amt a) (amt b) M = .ok (.bl (!decide (a = b))) M := by
  simp [gOwnNe, obj_amt, e_eq a b M ha hb, bind_ok]
end K01
namespace K01
open PySem L2 G
/-! ### rows by their keys -/
def Srt : Str → List Row → Prop
  | _, [] => True
  | a, p :: r => kindB p.1 = true ∧ tl a < tl p.1 ∧ 1 ≤ p.2 ∧ Srt p.1 r
structure A (n : Nat) (B : Int) (m : List Row) : Prop where
  srt : Srt (Str.ofString "") m
  len : m.length ≤ n
  top : ∀ p ∈ m, p.2 ≤ B
theorem srt_ok : ∀ {m : List Row} {a : Str}, Srt a m → (∀ p ∈ m, p.2 ≤ 1000000) → rowsOk a m = true
  | [], _, _, _ => rfl
  | p :: r, a, h, t => by
    simp only [rowsOk, Bool.and_eq_true, decide_eq_true_eq]
    exact ⟨h.1, h.2.1, ⟨h.2.2.1, t p (List.mem_cons_self ..)⟩, srt_ok h.2.2.2 fun q hq => t q (List.mem_cons_of_mem _ hq)⟩
theorem A.ok {n : Nat} {B : Int} {m : List Row} (h : A n B m) (hn : n ≤ 60) (hB : B ≤ 1000000) : Ok m := ⟨srt_ok h.srt fun p hp => Int.le_trans (h.top p hp) hB, Nat.le_trans h.len hn⟩
theorem A.mono {n n' : Nat} {B B' : Int} {m : List Row} (h : A n B m) (hn : n ≤ n') (hB : B ≤ B') : A n' B' m := ⟨h.srt, Nat.le_trans h.len hn, fun p hp => Int.le_trans (h.top p hp) hB⟩
theorem srt_lt : ∀ {m : List Row} {a : Str}, Srt a m → ∀ p ∈ m, tl a < tl p.1
  | [], _, _, p, hp => by cases hp
  | q :: r, a, h, p, hp => by
    rcases List.mem_cons.mp hp with e | hp
    · rw [e]; exact h.2.1
    · exact List.lt_trans h.2.1 (srt_lt h.2.2.2 p hp)
theorem srt_nd : ∀ {m : List Row} {a : Str}, Srt a m → keysNd m
  | [], _, _ => trivial
  | p :: r, a, h => ⟨fun q hq e => by
      have := srt_lt h.2.2.2 q hq
      rw [e] at this
      exact List.lt_irrefl _ this, srt_nd h.2.2.2⟩
theorem srt_mem : ∀ {m : List Row} {a : Str}, Srt a m → ∀ p ∈ m, kindB p.1 = true ∧ 1 ≤ p.2
  | [], _, _, p, hp => by cases hp
  | q :: r, a, h, p, hp => by
    rcases List.mem_cons.mp hp with e | hp
    · rw [e]; exact ⟨h.1, h.2.2.1⟩
    · exact srt_mem h.2.2.2 p hp
theorem get_none {m : List Row} {k : Str} (h : ∀ p ∈ m, p.1 ≠ k) : get m k = 0 := by
  induction m with
  | nil => rfl
  | cons p r ih => simp only [get, if_neg (h p (List.mem_cons_self ..)), ih fun q hq => h q (List.mem_cons_of_mem _ hq)]
theorem get_mem {m : List Row} (h : keysNd m) {p : Row} (hp : p ∈ m) : get m p.1 = p.2 := by
  induction m with
  | nil => cases hp
  | cons q r ih =>
    rcases List.mem_cons.mp hp with e | hp
    · subst e; simp [get]
    · simp only [get, if_neg (h.1 p hp).symm, ih h.2 hp]
theorem get_cases (m : List Row) (k : Str) : (∃ p ∈ m, p.1 = k) ∨ ∀ p ∈ m, p.1 ≠ k := by
  by_cases h : ∃ p ∈ m, p.1 = k
  · exact .inl h
  · exact .inr fun p hp e => h ⟨p, hp, e⟩
theorem get_nonneg {m : List Row} (h : ∀ p ∈ m, 1 ≤ p.2) (k : Str) : 0 ≤ get m k := by
  induction m with
  | nil => exact Int.le_refl _
  | cons p r ih =>
    have := h p (List.mem_cons_self ..)
    have ih := ih fun q hq => h q (List.mem_cons_of_mem _ hq)
    simp only [get]
    split <;> omega
theorem A.nn {n : Nat} {B : Int} {m : List Row} (h : A n B m) (k : Str) : 0 ≤ get m k := get_nonneg (fun p hp => (srt_mem h.srt p hp).2) k
theorem A.nd {n : Nat} {B : Int} {m : List Row} (h : A n B m) : keysNd m := srt_nd h.srt
theorem A.le {n : Nat} {B : Int} {m : List Row} (h : A n B m) (hB : 0 ≤ B) (k : Str) : get m k ≤ B := by
  rcases get_cases m k with ⟨p, hp, rfl⟩ | h2
  · rw [get_mem h.nd hp]; exact h.top p hp
  · rw [get_none h2]; exact hB
/-- rows are the same if their numbers are -/
theorem srt_ext : ∀ {a b : List Row} {x : Str}, Srt x a → Srt x b → (∀ k, get a k = get b k) → a = b
  | [], [], _, _, _, _ => rfl
  | [], q :: s, x, _, h, e => by
    have := e q.1
    simp [get] at this
    have := h.2.2.1
    omega
  | p :: r, [], x, h, _, e => by
    have := e p.1
    simp [get] at this
    have := h.2.2.1
    omega
  | p :: r, q :: s, x, h1, h2, e => by
    have hk : p.1 = q.1 := by
      have e1 := e p.1
      have e2 := e q.1
      have p1 := h1.2.2.1
      have p2 := h2.2.2.1
      have nr := get_nonneg (m := r) (fun z hz => (srt_mem h1.2.2.2 z hz).2)
      simp only [get, if_true] at e1 e2
      refine Classical.byContradiction fun hne => ?_
      rw [if_neg (Ne.symm hne)] at e1
      rw [if_neg hne] at e2
      -- p.1 is a key of s, q.1 one of r
      have m1 : ∃ z ∈ s, z.1 = p.1 := (get_cases s p.1).resolve_right fun z => by rw [get_none z] at e1; omega
      have m2 : ∃ z ∈ r, z.1 = q.1 := (get_cases r q.1).resolve_right fun z => by rw [get_none z] at e2; omega
      obtain ⟨z, hz, ez⟩ := m1
      obtain ⟨y, hy, ey⟩ := m2
      have l1 := srt_lt h2.2.2.2 z hz
      have l2 := srt_lt h1.2.2.2 y hy
      rw [ez] at l1
      rw [ey] at l2
      exact List.lt_irrefl _ (List.lt_trans l1 l2)
    have hv : p.2 = q.2 := by
      have := e p.1
      simp only [get, if_true, hk] at this
      exact this
    have hp : p = q := Prod.ext hk hv
    subst hp
    congr 1
    refine srt_ext h1.2.2.2 h2.2.2.2 fun k => ?_
    by_cases h : p.1 = k
    · subst h
      rw [get_none fun z hz ez => (srt_nd h1).1 z hz ez, get_none fun z hz ez => (srt_nd h2).1 z hz ez]
    · have := e k
      simp only [get, if_neg h] at this
      exact this
theorem A.ext {n n' : Nat} {B B' : Int} {a b : List Row} (h1 : A n B a) (h2 : A n' B' b) (e : ∀ k, get a k = get b k) : a = b := srt_ext h1.srt h2.srt e
/-! ### what lacks -/
theorem mem_lack {a b : List Row} {p : Row} (h : p ∈ lack a b) : ∃ q ∈ b, p = (q.1, q.2 - get a q.1) ∧ 0 < q.2 - get a q.1 := by
  unfold lack at h
  rw [List.mem_filter, List.mem_map] at h
  obtain ⟨⟨q, hq, rfl⟩, h2⟩ := h
  exact ⟨q, hq, rfl, by simpa using h2⟩
theorem srt_lack {a : List Row} : ∀ {b : List Row} {x : Str}, Srt x b → Srt x (lack a b)
  | [], _, _ => trivial
  | q :: r, x, h => by
    have ih := srt_lack (a := a) h.2.2.2
    have weak : ∀ {m : List Row} {y : Str}, Srt y m → ∀ z : Str, tl z < tl y → Srt z m := by
      intro m y hm z hz
      cases m with
      | nil => trivial
      | cons p s => exact ⟨hm.1, List.lt_trans hz hm.2.1, hm.2.2.1, hm.2.2.2⟩
    unfold lack at ih ⊢
    simp only [List.map_cons, List.filter_cons]
    split
    · rename_i hp
      simp only [decide_eq_true_eq] at hp
      exact ⟨h.1, h.2.1, by show 1 ≤ q.2 - get a q.1; omega, ih⟩
    · exact weak ih _ h.2.1
theorem A.lack {n n' : Nat} {B B' : Int} {a b : List Row} (ha : A n B a) (hb : A n' B' b) : A n' B' (K01.lack a b) := by
  refine ⟨srt_lack hb.srt, ?_, fun p hp => ?_⟩
  · unfold K01.lack
    refine Nat.le_trans (List.length_filter_le ..) ?_
    rw [List.length_map]
    exact hb.len
  · obtain ⟨q, hq, rfl, _⟩ := mem_lack hp
    have := hb.top q hq
    have := ha.nn q.1
    show q.2 - get a q.1 ≤ B'
    omega
theorem get_lack {n n' : Nat} {B B' : Int} {a b : List Row} (ha : A n B a) (hb : A n' B' b) (k : Str) : get (lack a b) k = if get a k < get b k then get b k - get a k else 0 := by
  rcases get_cases (lack a b) k with ⟨p, hp, rfl⟩ | h
  · rw [get_mem (ha.lack hb).nd hp]
    obtain ⟨q, hq, rfl, h2⟩ := mem_lack hp
    show q.2 - get a q.1 = _
    have := get_mem hb.nd hq
    rw [if_pos (by show get a q.1 < get b q.1; omega)]
    show _ = get b q.1 - get a q.1
    omega
  · rw [get_none h]
    split
    · rename_i hlt
      have hnn := ha.nn k
      rcases get_cases b k with ⟨q, hq, rfl⟩ | h3
      · have e := get_mem hb.nd hq
        exfalso
        refine h (q.1, q.2 - get a q.1) ?_ rfl
        unfold lack
        rw [List.mem_filter]
        exact ⟨List.mem_map.mpr ⟨q, hq, rfl⟩, by simp; omega⟩
      · rw [get_none h3] at hlt
        omega
    · rfl
theorem lack_nil {n n' : Nat} {B B' : Int} {a b : List Row} (ha : A n B a) (hb : A n' B' b) : lack a b = [] ↔ ∀ k, get b k ≤ get a k := by
  refine ⟨fun h k => ?_, fun h => (ha.lack hb).ext (B' := B') (n' := n') ⟨trivial, Nat.zero_le _, fun p hp => by cases hp⟩ fun k => ?_⟩
  · have := get_lack ha hb k
    rw [h] at this
    simp only [get] at this
    split at this <;> omega
  · rw [get_lack ha hb k, if_neg (by have := h k; omega)]
    rfl
/-! ### rows of a dict, by sorted keys -/
def putR (r : List Row) (k : Str) (v : Int) : List Row := if hasK (ksOf r) (.inr k) then r.map (fun p => if p.1 = k then (p.1, v) else p) else r ++ [(k, v)]
def rowsS (r : List Row) : List Row := (sortS (r.map (·.1))).map fun k => (k, get r k)
theorem hasK_iff {r : List Row} {k : Str} : hasK (ksOf r) (.inr k) = true ↔ ∃ p ∈ r, p.1 = k := by
  unfold hasK ksOf
  simp [List.any_eq_true]
theorem put_rows (r : List Row) (k : Str) (v : Int) : putD (ksOf r) (nsOf r) (.inr k) (.int v) = (ksOf (putR r k v), nsOf (putR r k v)) := by
  unfold putD putR
  split
  · have e1 : (r.map fun p => if p.1 = k then (p.1, v) else p).map (fun p => (Sum.inr p.1 : Key)) = r.map fun p => .inr p.1 := by
      rw [List.map_map]
      refine List.map_congr_left fun p _ => ?_
      simp only [Function.comp]
      split <;> rfl
    have e2 : List.zipWith (fun j x => if j = (Sum.inr k : Key) then D.int v else x) (r.map fun p => .inr p.1) (r.map fun p => .int p.2) = (r.map fun p => if p.1 = k then (p.1, v) else p).map fun p => .int p.2 := by
      clear e1
      rename_i h0
      clear h0
      induction r with
      | nil => rfl
      | cons p r ih =>
        simp only [List.map_cons, List.zipWith_cons_cons]
        rw [ih]
        by_cases h : p.1 = k
        · simp [h]
        · simp [h]
    unfold ksOf nsOf
    rw [e1, e2]
  · simp [ksOf, nsOf]
theorem mem_putR {r : List Row} {k : Str} {v : Int} {p : Row} (h : p ∈ putR r k v) : p = (k, v) ∨ (p ∈ r ∧ p.1 ≠ k) := by
  unfold putR at h
  split at h
  · obtain ⟨q, hq, e⟩ := List.mem_map.mp h
    split at e
    · rename_i hk
      subst hk
      exact .inl e.symm
    · rename_i hk
      subst e
      exact .inr ⟨hq, hk⟩
  · rename_i hk
    rcases List.mem_append.mp h with h | h
    · exact .inr ⟨h, fun e => hk (hasK_iff.mpr ⟨p, h, e⟩)⟩
    · exact .inl (by simpa using h)
theorem nd_app : ∀ {r : List Row} {p : Row}, keysNd r → (∀ q ∈ r, q.1 ≠ p.1) → keysNd (r ++ [p])
  | [], _, _, _ => ⟨(fun q hq => by cases hq), trivial⟩
  | q :: r, p, h, hp => ⟨(fun z hz => by
      rcases List.mem_append.mp hz with hz | hz
      · exact h.1 z hz
      · have : z = p := by simpa using hz
        rw [this]; exact (hp q (List.mem_cons_self ..)).symm), nd_app h.2 fun z hz => hp z (List.mem_cons_of_mem _ hz)⟩
theorem nd_map : ∀ {r : List Row} {f : Row → Row}, (∀ p, (f p).1 = p.1) → keysNd r → keysNd (r.map f)
  | [], _, _, _ => trivial
  | q :: r, f, hf, h => ⟨(fun z hz => by
      obtain ⟨y, hy, rfl⟩ := List.mem_map.mp hz
      rw [hf, hf]; exact h.1 y hy), nd_map hf h.2⟩
theorem nd_putR {r : List Row} {k : Str} {v : Int} (h : keysNd r) : keysNd (putR r k v) := by
  unfold putR
  split
  · exact nd_map (fun p => by split <;> rfl) h
  · rename_i hk
    exact nd_app h fun q hq e => hk (hasK_iff.mpr ⟨q, hq, e⟩)
theorem len_putR {r : List Row} {k : Str} {v : Int} : (putR r k v).length ≤ r.length + 1 := by
  unfold putR
  split <;> simp
theorem get_putR {r : List Row} {k j : Str} {v : Int} : get (putR r k v) j = if j = k then v else get r j := by
  unfold putR
  split
  · rename_i hk
    obtain ⟨p, hp, e⟩ := hasK_iff.mp hk
    clear hk
    induction r with
    | nil => cases hp
    | cons q r ih =>
      simp only [List.map_cons, get]
      by_cases hq : q.1 = k
      · simp only [hq, if_true]
        by_cases hj : k = j
        · simp [hj]
        · rw [if_neg hj, if_neg (Ne.symm hj), if_neg hj]
          clear ih hp
          induction r with
          | nil => rfl
          | cons s r ih2 =>
            simp only [List.map_cons, get]
            by_cases hs : s.1 = k
            · simp only [hs, if_true, if_neg hj]; exact ih2
            · simp only [if_neg hs]
              split
              · rfl
              · exact ih2
      · simp only [if_neg hq]
        have hp' : p ∈ r := (List.mem_cons.mp hp).resolve_left fun z => hq (by rw [← z]; exact e)
        rw [ih hp']
        by_cases hj : j = k
        · subst hj
          simp [hq]
        · simp [hj]
  · rename_i hk
    have hn : ∀ p ∈ r, p.1 ≠ k := fun p hp e => hk (hasK_iff.mpr ⟨p, hp, e⟩)
    clear hk
    induction r with
    | nil =>
      simp only [List.nil_append, get]
      by_cases hj : k = j
      · simp [hj]
      · simp [hj, Ne.symm hj]
    | cons q r ih =>
      simp only [List.cons_append, get]
      rw [ih fun p hp => hn p (List.mem_cons_of_mem _ hp)]
      have := hn q (List.mem_cons_self ..)
      by_cases hj : j = k
      · subst hj; simp [this]
      · simp [hj]
/-- such rows are amounts once they are sorted -/
structure R (n : Nat) (B : Int) (r : List Row) : Prop where
  nd : keysNd r
  len : r.length ≤ n
  mem : ∀ p ∈ r, kindB p.1 = true ∧ 1 ≤ p.2 ∧ p.2 ≤ B
theorem A.r {n : Nat} {B : Int} {m : List Row} (h : A n B m) : R n B m := ⟨h.nd, h.len, fun p hp => ⟨(srt_mem h.srt p hp).1, (srt_mem h.srt p hp).2, h.top p hp⟩⟩
theorem R.put {n : Nat} {B : Int} {r : List Row} (h : R n B r) {k : Str} {v : Int} (hk : kindB k = true) (h1 : 1 ≤ v) (h2 : v ≤ B) : R (n + 1) B (putR r k v) := by
  refine ⟨nd_putR h.nd, Nat.le_trans len_putR (by have := h.len; omega), fun p hp => ?_⟩
  rcases mem_putR hp with e | ⟨hp, _⟩
  · rw [e]; exact ⟨hk, h1, h2⟩
  · exact h.mem p hp
theorem keys_nodup : ∀ {r : List Row}, keysNd r → (r.map (·.1)).Nodup
  | [], _ => List.nodup_nil
  | p :: r, h => by
    rw [List.map_cons, List.nodup_cons]
    refine ⟨fun hm => ?_, keys_nodup h.2⟩
    obtain ⟨q, hq, e⟩ := List.mem_map.mp hm
    exact h.1 q hq e
theorem sortS_perm (l : List Str) : (sortS l).Perm l := List.mergeSort_perm ..
theorem sortS_pw (l : List Str) : (sortS l).Pairwise (fun a b => leS a b = true) := List.pairwise_mergeSort (le := leS) (fun a b c h1 h2 => by
    unfold leS at *
    simp only [Bool.not_eq_true', decide_eq_false_iff_not, List.not_lt] at *
    exact List.le_trans h1 h2) (fun a b => by
    unfold leS
    simp only [Bool.or_eq_true, Bool.not_eq_true', decide_eq_false_iff_not, List.not_lt]
    exact List.le_total _ _) l
theorem kind_pos {k : Str} (h : kindB k = true) : tl (Str.ofString "") < tl k := by
  unfold kindB at h
  simp only [Bool.and_eq_true, decide_eq_true_eq] at h
  have h1 := h.1
  rw [len_tl] at h1
  have : tl (Str.ofString "") = [] := by decide +kernel
  rw [this]
  cases hk : tl k with
  | nil => rw [hk] at h1; simp at h1
  | cons c r => exact List.nil_lt_cons ..
theorem srt_keys (f : Str → Int) : ∀ (ks : List Str) (a : Str), ks.Pairwise (fun x y => leS x y = true) → ks.Nodup → (∀ k ∈ ks, tl a < tl k ∧ kindB k = true ∧ 1 ≤ f k) → Srt a (ks.map fun k => (k, f k))
  | [], _, _, _, _ => trivial
  | k :: ks, a, hp, hn, h => by
    have h0 := h k (List.mem_cons_self ..)
    rw [List.pairwise_cons] at hp
    rw [List.nodup_cons] at hn
    refine ⟨h0.2.1, h0.1, h0.2.2, srt_keys f ks k hp.2 hn.2 fun j hj => ⟨?_, (h j (List.mem_cons_of_mem _ hj)).2⟩⟩
    have := hp.1 j hj
    unfold leS at this
    simp only [Bool.not_eq_true', decide_eq_false_iff_not, List.not_lt] at this
    refine Classical.byContradiction fun hlt => ?_
    have hle : tl j ≤ tl k := List.not_lt.mp hlt
    have e : k = j := str_eta (List.le_antisymm this hle)
    rw [← e] at hj
    exact hn.1 hj
theorem mem_rowsS {r : List Row} (h : keysNd r) {p : Row} (hp : p ∈ rowsS r) : p ∈ r := by
  unfold rowsS at hp
  obtain ⟨k, hk, rfl⟩ := List.mem_map.mp hp
  obtain ⟨q, hq, e⟩ := List.mem_map.mp ((sortS_perm _).mem_iff.mp hk)
  have : get r k = q.2 := by rw [← e]; exact get_mem h hq
  rw [this, ← e]
  exact hq
theorem R.a {n : Nat} {B : Int} {r : List Row} (h : R n B r) : A n B (rowsS r) := by
  refine ⟨srt_keys (get r) _ _ (sortS_pw _) ((sortS_perm _).nodup_iff.mpr (keys_nodup h.nd)) fun k hk => ?_, ?_, fun p hp => (h.mem p (mem_rowsS h.nd hp)).2.2⟩
  · obtain ⟨q, hq, e⟩ := List.mem_map.mp ((sortS_perm _).mem_iff.mp hk)
    obtain ⟨h1, h2, _⟩ := h.mem q hq
    have h1 : kindB k = true := by rw [← e]; exact h1
    exact ⟨kind_pos h1, h1, by rw [← e, get_mem h.nd hq]; exact h2⟩
  · unfold rowsS
    rw [List.length_map, (sortS_perm _).length_eq, List.length_map]
    exact h.len
theorem get_rowsS {r : List Row} (h : keysNd r) (k : Str) : get (rowsS r) k = get r k := by
  rcases get_cases r k with ⟨p, hp, rfl⟩ | h2
  · have hm : (p.1, get r p.1) ∈ rowsS r := List.mem_map.mpr ⟨p.1, (sortS_perm _).mem_iff.mpr (List.mem_map.mpr ⟨p, hp, rfl⟩), rfl⟩
    have hnd : keysNd (rowsS r) := by
      have hn : (sortS (r.map (·.1))).Nodup := (sortS_perm _).nodup_iff.mpr (keys_nodup h)
      have go : ∀ ks : List Str, ks.Nodup → keysNd (ks.map fun k => ((k, get r k) : Row)) := by
        intro ks
        induction ks with
        | nil => exact fun _ => trivial
        | cons k ks ih =>
          intro hn
          rw [List.nodup_cons] at hn
          refine ⟨fun q hq e => ?_, ih hn.2⟩
          obtain ⟨j, hj, rfl⟩ := List.mem_map.mp hq
          have e : j = k := e
          rw [e] at hj
          exact hn.1 hj
      exact go _ hn
    exact get_mem hnd hm
  · rw [get_none h2, get_none]
    intro p hp e
    exact h2 p (mem_rowsS h hp) e
end K01
namespace K01
open PySem L2 G
def posD (d : D) : Option D := match d with
  | .tup [.str k, .int n] => if decide (0 < n) then some (pr (k, n)) else none
  | _ => none
theorem fm_pos : ∀ m : List Row, (m.map pr).filterMap posD = (m.filter fun p => decide (0 < p.2)).map pr
  | [] => rfl
  | p :: r => by
    have ih := fm_pos r
    simp only [List.map_cons, List.filterMap_cons]
    by_cases h : 0 < p.2
    · have : posD (pr p) = some (pr p) := by simp [posD, pr, h]
      simp [this, h, ih]
    · have : posD (pr p) = none := by simp [posD, pr, h]
      simp [this, h, ih]
theorem keysS_ks : ∀ r : List Row, keysS (ksOf r) = some (r.map (·.1))
  | [] => rfl
  | p :: r => by
    have := keysS_ks r
    unfold ksOf at this ⊢
    simp [keysS, this]
theorem val_some (k : Str) : ∀ r : List Row, (∃ p ∈ r, p.1 = k) → valD (ksOf r) (nsOf r) (.inr k) = some (.int (get r k))
  | [], h => by obtain ⟨p, hp, _⟩ := h; cases hp
  | p :: r, h => by
    unfold valD ksOf nsOf
    by_cases hk : p.1 = k
    · simp [get, hk]
    · have ih := val_some k r (by
        obtain ⟨q, hq, e⟩ := h
        exact ⟨q, (List.mem_cons.mp hq).resolve_left fun z => hk (by rw [← z]; exact e), e⟩)
      unfold valD ksOf nsOf at ih
      simp only [List.map_cons, List.zip_cons_cons, List.find?_cons]
      have : decide ((Sum.inr p.1 : Key) = .inr k) = false := by simp [hk]
      rw [this]
      simp only [get, if_neg hk]
      exact ih
theorem e_pairs_of {r : List Row} {i : Nat} {M : AH} (hM : M[i]? = some (.dct (ksOf r) (nsOf r))) (hl : r.length ≤ 60) : F__pairs_of [.ref i] M = .ok (.tup ((rowsS r).map pr)) M := by
  have hi : i < M.length := (List.getElem?_eq_some_iff.mp hM).1
  have c1 : fLcL (stands M.length ((sortS (r.map (·.1))).map D.str)) (fgName 1) fYes (fTup (fCons (fVar 1) (fCons (fDGet (fVar 0) (fVar 1)) fNil))) [some (.ref i), none] ((sortS (r.map (·.1))).map D.str) [] (M ++ [.lst ((sortS (r.map (·.1))).map D.str)])
      = .ok (((sortS (r.map (·.1))).map D.str).map fun d => match d with | .str k => pr (k, get r k) | _ => .non) (M ++ [.lst ((sortS (r.map (·.1))).map D.str)]) := by
    refine lc_map _ (by simp [stands, D.beqL_refl]) _ (size600 (by rw [List.length_map, (sortS_perm _).length_eq, List.length_map]; omega)) fun d hd => ?_
    obtain ⟨k, hk, rfl⟩ := List.mem_map.mp hd
    obtain ⟨p, hp, e⟩ := List.mem_map.mp ((sortS_perm _).mem_iff.mp hk)
    refine ⟨[some (.ref i), some (.str k)], rfl, rfl, ?_⟩
    have hv := val_some k r ⟨p, hp, e⟩
    have hM2 : (M ++ [AO.lst ((sortS (r.map (·.1))).map D.str)])[i]? = some (.dct (ksOf r) (nsOf r)) := by rw [List.getElem?_append_left hi]; exact hM
    simp [fnF, fnK, fSeq, fRet, fRetN, fAsg, fgName, fDrop, fNext, fNever, fIfS, fPar, fFor, fAndV, fOrV, fNotV, fNotW, fAnd, fOr, fNot, fTest, fTru, fIf, fChain, fOp, fUn, fCB, fCons, fNil, fTup, fLst, fCall, fVar, fC, fSl, fPart, fNoPart, fBM, fM0, fM1, mAsk, fFld, fMeth, fPropN, fCMeth, fDNew, fDGet2, fDGet, fDPut, fLc, fYes, fiList, fiTup, bind_ok, thenS_ok, asB_bl, j_ii, j_ib, j_ss, j_tt, gLt, gLe, gGt, gGe, gCmp, gAdd, gSubI, gMul, gMod, gDiv, gEq, gNe, gEqB, refD, scalEq, gLen, gAbs, gMax, gMin, gTuple, gIxS, tupOf, outS, fin_same, thenG, loopS, truD_bl, truD_tup, fgTup, fgCons, fgNil, gDGet, dctOf, hM2, keyD, hv, pr]
    exact size600 (by omega)
  have e1 : (((sortS (r.map (·.1))).map D.str).map fun d => match d with | .str k => pr (k, get r k) | _ => D.non) = (rowsS r).map pr := by
    unfold rowsS
    rw [List.map_map, List.map_map]
    rfl
  rw [e1] at c1
  have hk : (ksOf r).length < 64 := by unfold ksOf; rw [List.length_map]; omega
  have hfin := fin_app (M := M) (xs := [.lst ((sortS (r.map (·.1))).map D.str), .lst ((rowsS r).map pr)]) (d := .tup ((rowsS r).map pr)) (by simp [clo_prs])
  simp [F__pairs_of, fnF, fnK, fSeq, fRet, fRetN, fAsg, fgName, fDrop, fNext, fNever, fIfS, fPar, fFor, fAndV, fOrV, fNotV, fNotW, fAnd, fOr, fNot, fTest, fTru, fIf, fChain, fOp, fUn, fCB, fCons, fNil, fTup, fLst, fCall, fVar, fC, fSl, fPart, fNoPart, fBM, fM0, fM1, mAsk, fFld, fMeth, fPropN, fCMeth, fDNew, fDGet2, fDGet, fDPut, fLc, fYes, fiList, fiTup, bind_ok, thenS_ok, asB_bl, j_ii, j_ib, j_ss, j_tt, gLt, gLe, gGt, gGe, gCmp, gAdd, gSubI, gMul, gMod, gDiv, gEq, gNe, gEqB, refD, scalEq, gLen, gAbs, gMax, gMin, gTuple, gIxS, tupOf, outS, fin_same, thenG, loopS, truD_bl, truD_tup, fgTup, fgCons, fgNil, gSortD, dctOf, hM, hk, keysS_ks, itmOf, wipeD, c1, G.listOf, hfin]
/-! ### sums -/
theorem ints_ns : ∀ r : List Row, intsOf (nsOf r) = some (r.map (·.2))
  | [] => rfl
  | p :: r => by
    have ih := ints_ns r
    unfold nsOf at ih ⊢
    simp [intsOf, ih]
theorem e_add0 {n n' : Nat} {B B' : Int} {a b : List Row} (ha : A n B a) (hb : A n' B' b) (hn : n + n' ≤ 60) (hB : B + B' ≤ 1000000) (h0 : 0 ≤ B) (h0' : 0 ≤ B') (M : AH) :
    ∃ s, A (n + n') (B + B') s ∧ (∀ k, get s k = get a k + get b k) ∧ F_Amounts___add__ [amt a, amt b] M = .ok (amt s) M := by
  obtain ⟨δ', M', e, ⟨r, s3, s4, rfl, rfl, hnd, hmem, hlen, _, _, hg⟩⟩ := for_ex (chk := fun _ => true) (g := fgTup 2 (fgCons (fgName 3) (fgCons (fgName 4) fgNil))) (b := L_Amounts___add___1) pr
    (fun rest δ M1 => ∃ (r : List Row) (s3 s4 : Option D), δ = [some (amt a), some (amt b), some (.ref M.length), s3, s4] ∧ M1 = M ++ [.dct (ksOf r) (nsOf r)] ∧ keysNd r ∧ (∀ p ∈ r, kindB p.1 = true ∧ 1 ≤ p.2) ∧
      r.length + rest.length ≤ a.length + b.length ∧ keysNd rest ∧ (∀ p ∈ rest, kindB p.1 = true ∧ 1 ≤ p.2) ∧ ∀ k, get r k + get rest k = get a k + get b k) (fun _ _ _ _ => rfl)
    (fun p rest δ M1 hI => by
      obtain ⟨r, s3, s4, rfl, rfl, hnd, hmem, hlen, hnr, hmr, hg⟩ := hI
      have hp := hmr p (List.mem_cons_self ..)
      have hnn := get_nonneg (fun q hq => (hmem q hq).2) p.1
      have hsz : (ksOf r).length < sizeLine := by
        unfold ksOf
        rw [List.length_map]
        simp only [List.length_cons] at hlen
        have := ha.len
        have := hb.len
        exact Nat.lt_of_lt_of_le (show r.length < 61 by omega) (by decide)
      refine ⟨[some (amt a), some (amt b), some (.ref M.length), some (.str p.1), some (.int p.2)], _, [some (amt a), some (amt b), some (.ref M.length), some (.str p.1), some (.int p.2)], M ++ [.dct (ksOf (putR r p.1 (get r p.1 + p.2))) (nsOf (putR r p.1 (get r p.1 + p.2)))], rfl, .inl ?_,
        putR r p.1 (get r p.1 + p.2), _, _, rfl, rfl, nd_putR hnd, fun q hq => ?_, ?_, hnr.2, fun q hq => hmr q (List.mem_cons_of_mem _ hq), fun k => ?_⟩
      · simp [L_Amounts___add___1, fnF, fnK, fSeq, fRet, fRetN, fAsg, fgName, fDrop, fNext, fNever, fIfS, fPar, fFor, fAndV, fOrV, fNotV, fNotW, fAnd, fOr, fNot, fTest, fTru, fIf, fChain, fOp, fUn, fCB, fCons, fNil, fTup, fLst, fCall, fVar, fC, fSl, fPart, fNoPart, fBM, fM0, fM1, mAsk, fFld, fMeth, fPropN, fCMeth, fDNew, fDGet2, fDGet, fDPut, fLc, fYes, fiList, fiTup, bind_ok, thenS_ok, asB_bl, j_ii, j_ib, j_ss, j_tt, gLt, gLe, gGt, gGe, gCmp, gAdd, gSubI, gMul, gMod, gDiv, gEq, gNe, gEqB, refD, scalEq, gLen, gAbs, gMax, gMin, gTuple, gIxS, tupOf, outS, fin_same, thenG, loopS, truD_bl, truD_tup, fgTup, fgCons, fgNil, dctOf, keyD, val_get, hsz, put_rows]
      · rcases mem_putR hq with e | ⟨hq, _⟩
        · rw [e]; exact ⟨hp.1, by show 1 ≤ get r p.1 + p.2; omega⟩
        · exact hmem q hq
      · have := len_putR (r := r) (k := p.1) (v := get r p.1 + p.2)
        simp only [List.length_cons] at hlen
        omega
      · rw [get_putR]
        have := hg k
        simp only [get] at this
        by_cases hk : k = p.1
        · subst hk
          rw [if_pos rfl]
          simp only [if_true] at this
          have : get rest p.1 = 0 := get_none fun q hq => hnr.1 q hq
          omega
        · rw [if_neg hk]
          rw [if_neg (Ne.symm hk)] at this
          exact this)
    b [some (amt a), some (amt b), some (.ref M.length), none, none] (M ++ [.dct (ksOf a) (nsOf a)]) ⟨a, _, _, rfl, rfl, ha.nd, fun p hp => srt_mem ha.srt p hp, Nat.le_refl _, hb.nd, fun p hp => srt_mem hb.srt p hp, fun k => rfl⟩
  have hg' : ∀ k, get r k = get a k + get b k := fun k => by have := hg k; simpa [get] using this
  have hR : R (n + n') (B + B') r := ⟨hnd, by have := ha.len; have := hb.len; simp at hlen; omega, fun p hp => ⟨(hmem p hp).1, (hmem p hp).2, by
    have := get_mem hnd hp
    have := hg' p.1
    have := ha.le h0 p.1
    have := hb.le h0' p.1
    omega⟩⟩
  refine ⟨rowsS r, hR.a, fun k => by rw [get_rowsS hnd]; exact hg' k, ?_⟩
  have hp := e_pairs_of (r := r) (i := M.length) (M := M ++ [.dct (ksOf r) (nsOf r)]) (by simp) (Nat.le_trans hR.len hn)
  have hok := hR.a.ok hn hB
  have hm := e_sure (rowsS r) (M ++ [.dct (ksOf r) (nsOf r)]) hok
  have hfin := fin_app (M := M) (xs := [.dct (ksOf r) (nsOf r)]) (d := amt (rowsS r)) clo_amt
  have hks : ¬ (60 : Int) < (ksOf r).length := by
    have := hR.len
    unfold ksOf
    rw [List.length_map]
    omega
  have hmx : ¬ (1000000 : Int) < if r.map (·.2) = [] then 0 else maxL (r.map (·.2)) := by
    by_cases hn0 : r.map (·.2) = []
    · rw [if_pos hn0]; decide
    · rw [if_neg hn0]
      obtain ⟨p, hp, e1⟩ := List.mem_map.mp (maxL_is _ hn0).1
      have := (hR.mem p hp).2.2
      omega
  have hin := ints_ns r
  have hv : ∀ δ, fMaxVD 0 (fVar 2) (some (amt a) :: some (amt b) :: some (.ref M.length) :: δ) (M ++ [.dct (ksOf r) (nsOf r)]) = .ok (.int (if r.map (·.2) = [] then 0 else maxL (r.map (·.2)))) (M ++ [.dct (ksOf r) (nsOf r)]) := fun δ => by
    simp [fMaxVD, fVar, bind_ok, dctOf, hin]
  generalize (if r.map (·.2) = [] then 0 else maxL (r.map (·.2))) = mx at hmx hv
  generalize hfm : fMaxVD 0 (fVar 2) = fm at hv
  simp [F_Amounts___add__, hfm, fnF, fnK, fSeq, fRet, fRetN, fAsg, fgName, fDrop, fNext, fNever, fIfS, fPar, fFor, fAndV, fOrV, fNotV, fNotW, fAnd, fOr, fNot, fTest, fTru, fIf, fChain, fOp, fUn, fCB, fCons, fNil, fTup, fLst, fCall, fVar, fC, fSl, fPart, fNoPart, fBM, fM0, fM1, mAsk, fFld, fMeth, fPropN, fCMeth, fDNew, fDGet2, fDGet, fDPut, fLc, fYes, fiList, fiTup, bind_ok, thenS_ok, asB_bl, j_ii, j_ib, j_ss, j_tt, gLt, gLe, gGt, gGe, gCmp, gAdd, gSubI, gMul, gMod, gDiv, gEq, gNe, gEqB, refD, scalEq, gLen, gAbs, gMax, gMin, gTuple, gIxS, tupOf, outS, fin_same, thenG, loopS, truD_bl, truD_tup, fgTup, fgCons, fgNil, isi_amt, obj_amt, look_n, look_p, gDict, dctOf, e, gLenD, hks, hv, hmx, hp, hm, hfin]
theorem e_add {n n' : Nat} {B B' : Int} {a b : List Row} (ha : A n B a) (hb : A n' B' b) (hn : n + n' ≤ 60) (hB : B + B' ≤ 1000000) (h0 : 0 ≤ B) (h0' : 0 ≤ B') :
    ∃ s, A (n + n') (B + B') s ∧ (∀ k, get s k = get a k + get b k) ∧ ∀ M, gOwn "Amounts" F_Amounts___add__ (amt a) (amt b) M = .ok (amt s) M := by
  obtain ⟨s, h1, h2, h3⟩ := e_add0 ha hb hn hB h0 h0' []
  refine ⟨s, h1, h2, fun M => ?_⟩
  obtain ⟨s', h1', h2', h3'⟩ := e_add0 ha hb hn hB h0 h0' M
  have : s' = s := h1'.ext h1 fun k => by rw [h2', h2]
  subst this
  simp [gOwn, obj_amt, h3']
/-! ### differences -/
theorem e_sub {n n' : Nat} {B B' : Int} {a b : List Row} (ha : A n B a) (hb : A n' B' b) (hn : n ≤ 60) (hn' : n' ≤ 60) (hB : B ≤ 1000000) (hc : ∀ k, get b k ≤ get a k) :
    A n B (lack b a) ∧ (∀ k, get (lack b a) k = get a k - get b k) ∧ ∀ M, gOwn "Amounts" F_Amounts___sub__ (amt a) (amt b) M = .ok (amt (lack b a)) M := by
  have hA := hb.lack ha
  refine ⟨hA, fun k => ?_, fun M => ?_⟩
  · rw [get_lack hb ha]
    have := hc k
    split <;> omega
  · have hl : lack a b = [] := (lack_nil ha hb).mpr hc
    have hlk := e_lacking a b M (Nat.le_trans hb.len hn')
    rw [hl] at hlk
    have c1 : fLcL (fun _ => true) (fgTup 2 (fgCons (fgName 4) (fgCons (fgName 5) fgNil))) fYes (fTup (fCons (fVar 4) (fCons (fOp gSubI (fVar 5) (fDGet2 (fFld "Amounts" "_numbers" (fVar 1)) (fVar 4) (fC (.int 0)))) fNil)))
        [some (amt a), some (amt b), some (.tup []), none, none, none] (a.map pr) [] M = .ok ((a.map pr).map fun d => match d with | .tup [.str k, .int n] => pr (k, n - get b k) | _ => .non) M := by
      refine lc_map _ rfl _ (size600 (by have := ha.len; simp; omega)) fun d hd => ?_
      obtain ⟨p, _, rfl⟩ := List.mem_map.mp hd
      refine ⟨[some (amt a), some (amt b), some (.tup []), none, some (.str p.1), some (.int p.2)], rfl, rfl, ?_⟩
      simp [fnF, fnK, fSeq, fRet, fRetN, fAsg, fgName, fDrop, fNext, fNever, fIfS, fPar, fFor, fAndV, fOrV, fNotV, fNotW, fAnd, fOr, fNot, fTest, fTru, fIf, fChain, fOp, fUn, fCB, fCons, fNil, fTup, fLst, fCall, fVar, fC, fSl, fPart, fNoPart, fBM, fM0, fM1, mAsk, fFld, fMeth, fPropN, fCMeth, fDNew, fDGet2, fDGet, fDPut, fLc, fYes, fiList, fiTup, bind_ok, thenS_ok, asB_bl, j_ii, j_ib, j_ss, j_tt, gLt, gLe, gGt, gGe, gCmp, gAdd, gSubI, gMul, gMod, gDiv, gEq, gNe, gEqB, refD, scalEq, gLen, gAbs, gMax, gMin, gTuple, gIxS, tupOf, outS, fin_same, thenG, loopS, truD_bl, truD_tup, fgTup, fgCons, fgNil, obj_amt, look_n, dctOf, keyD, val_get, pr]
      exact size600 (by omega)
    have e1 : ((a.map pr).map fun d => match d with | .tup [.str k, .int n] => pr (k, n - get b k) | _ => D.non) = (a.map fun p => ((p.1, p.2 - get b p.1) : Row)).map pr := by
      rw [List.map_map, List.map_map]
      rfl
    rw [e1] at c1
    have c2 : fLcL (stands M.length ((a.map fun p => ((p.1, p.2 - get b p.1) : Row)).map pr)) (fgTup 2 (fgCons (fgName 4) (fgCons (fgName 5) fgNil))) (fTest (fOp gGt (fVar 5) (fC (.int 0)))) (fTup (fCons (fVar 4) (fCons (fVar 5) fNil)))
        [some (amt a), some (amt b), some (.tup []), some (.ref M.length), none, none] ((a.map fun p => ((p.1, p.2 - get b p.1) : Row)).map pr) [] (M ++ [.lst ((a.map fun p => ((p.1, p.2 - get b p.1) : Row)).map pr)])
        = .ok ((lack b a).map pr) (M ++ [.lst ((a.map fun p => ((p.1, p.2 - get b p.1) : Row)).map pr)]) := by
      rw [lc_fm posD (by simp [stands, D.beqL_refl]) _ [] (size600 (by have := ha.len; simp; omega)) fun d hd => ?_]
      · rw [fm_pos]
        rfl
      · obtain ⟨p, _, rfl⟩ := List.mem_map.mp hd
        refine ⟨[some (amt a), some (amt b), some (.tup []), some (.ref M.length), some (.str p.1), some (.int p.2)], rfl, ?_⟩
        by_cases h : 0 < p.2
        · simp [fnF, fnK, fSeq, fRet, fRetN, fAsg, fgName, fDrop, fNext, fNever, fIfS, fPar, fFor, fAndV, fOrV, fNotV, fNotW, fAnd, fOr, fNot, fTest, fTru, fIf, fChain, fOp, fUn, fCB, fCons, fNil, fTup, fLst, fCall, fVar, fC, fSl, fPart, fNoPart, fBM, fM0, fM1, mAsk, fFld, fMeth, fPropN, fCMeth, fDNew, fDGet2, fDGet, fDPut, fLc, fYes, fiList, fiTup, bind_ok, thenS_ok, asB_bl, j_ii, j_ib, j_ss, j_tt, gLt, gLe, gGt, gGe, gCmp, gAdd, gSubI, gMul, gMod, gDiv, gEq, gNe, gEqB, refD, scalEq, gLen, gAbs, gMax, gMin, gTuple, gIxS, tupOf, outS, fin_same, thenG, loopS, truD_bl, truD_tup, fgTup, fgCons, fgNil, posD, pr, h]
          exact size600 (by omega)
        · simp [fnF, fnK, fSeq, fRet, fRetN, fAsg, fgName, fDrop, fNext, fNever, fIfS, fPar, fFor, fAndV, fOrV, fNotV, fNotW, fAnd, fOr, fNot, fTest, fTru, fIf, fChain, fOp, fUn, fCB, fCons, fNil, fTup, fLst, fCall, fVar, fC, fSl, fPart, fNoPart, fBM, fM0, fM1, mAsk, fFld, fMeth, fPropN, fCMeth, fDNew, fDGet2, fDGet, fDPut, fLc, fYes, fiList, fiTup, bind_ok, thenS_ok, asB_bl, j_ii, j_ib, j_ss, j_tt, gLt, gLe, gGt, gGe, gCmp, gAdd, gSubI, gMul, gMod, gDiv, gEq, gNe, gEqB, refD, scalEq, gLen, gAbs, gMax, gMin, gTuple, gIxS, tupOf, outS, fin_same, thenG, loopS, truD_bl, truD_tup, fgTup, fgCons, fgNil, posD, pr, h]
    generalize (a.map fun p => ((p.1, p.2 - get b p.1) : Row)) = Z at c1 c2
    simp only [gGt] at c2
    have hm := e_mk (lack b a) (M ++ [.lst (Z.map pr), .lst ((lack b a).map pr)]) (hA.ok hn hB)
    simp at hm
    have hfin := fin_app (M := M) (xs := [.lst (Z.map pr), .lst ((lack b a).map pr)]) (d := amt (lack b a)) clo_amt
    simp [gOwn, obj_amt, F_Amounts___sub__, fnF, fnK, fSeq, fRet, fRetN, fAsg, fgName, fDrop, fNext, fNever, fIfS, fPar, fFor, fAndV, fOrV, fNotV, fNotW, fAnd, fOr, fNot, fTest, fTru, fIf, fChain, fOp, fUn, fCB, fCons, fNil, fTup, fLst, fCall, fVar, fC, fSl, fPart, fNoPart, fBM, fM0, fM1, mAsk, fFld, fMeth, fPropN, fCMeth, fDNew, fDGet2, fDGet, fDPut, fLc, fYes, fiList, fiTup, bind_ok, thenS_ok, asB_bl, j_ii, j_ib, j_ss, j_tt, gLt, gLe, gGt, gGe, gCmp, gAdd, gSubI, gMul, gMod, gDiv, gEq, gNe, gEqB, refD, scalEq, gLen, gAbs, gMax, gMin, gTuple, gIxS, tupOf, outS, fin_same, thenG, loopS, truD_bl, truD_tup, fgTup, fgCons, fgNil, isi_amt, hlk, look_p, wipeD, c1, itmOf, c2, G.listOf, fMk, hm, hfin]
end K01
namespace K01
open PySem L2 G
/-! ### multiples -/
def mulR (a : List Row) (c : Int) : List Row := if 0 < c then a.map fun p => (p.1, p.2 * c) else []
theorem srt_mul {c : Int} (hc : 0 < c) : ∀ {a : List Row} {x : Str}, Srt x a → Srt x (a.map fun p => ((p.1, p.2 * c) : Row))
  | [], _, _ => trivial
  | p :: r, x, h => ⟨h.1, h.2.1, by
      have h1 := h.2.2.1
      have : p.2 * 1 ≤ p.2 * c := Int.mul_le_mul_of_nonneg_left (by omega) (by omega)
      show 1 ≤ p.2 * c
      omega, srt_mul hc h.2.2.2⟩
theorem A.mul {n : Nat} {B B' c : Int} {a : List Row} (h : A n B a) (hB : ∀ k, get a k * c ≤ B') : A n B' (mulR a c) := by
  unfold mulR
  split
  · rename_i hc
    refine ⟨srt_mul hc h.srt, by rw [List.length_map]; exact h.len, fun p hp => ?_⟩
    obtain ⟨q, hq, rfl⟩ := List.mem_map.mp hp
    have := hB q.1
    rw [get_mem h.nd hq] at this
    exact this
  · exact ⟨trivial, Nat.zero_le _, fun p hp => by cases hp⟩
theorem get_mul {n : Nat} {B c : Int} {a : List Row} (h : A n B a) (hc : 0 ≤ c) (k : Str) : get (mulR a c) k = get a k * c := by
  unfold mulR
  split
  · clear h
    induction a with
    | nil => simp [get]
    | cons p r ih =>
      simp only [List.map_cons, get]
      split
      · rfl
      · exact ih
  · have : c = 0 := by omega
    rw [this, Int.mul_zero]
    rfl
def mulD (c : Int) (d : D) : Option D := if 0 < c then (match d with | .tup [.str k, .int n] => some (pr (k, n * c)) | _ => none) else none
theorem fm_mul (c : Int) : ∀ a : List Row, (a.map pr).filterMap (mulD c) = (mulR a c).map pr
  | [] => by unfold mulR; split <;> rfl
  | p :: r => by
    have ih := fm_mul c r
    unfold mulR at ih ⊢
    by_cases h : 0 < c
    · simp only [if_pos h] at ih ⊢
      have : mulD c (pr p) = some (pr (p.1, p.2 * c)) := by simp [mulD, pr, h]
      simp only [List.map_cons, List.filterMap_cons, this, ih]
    · simp only [if_neg h] at ih ⊢
      have : mulD c (pr p) = none := by simp [mulD, h]
      simp only [List.map_cons, List.filterMap_cons, this, ih]
theorem mul_small {i j : Int} (hi : i.natAbs < 2 ^ 64) (hj : j.natAbs < 2 ^ 64) : CMulW i j := by
  unfold CMulW
  have h : ∀ n : Nat, n < 2 ^ 64 → n.log2 < 64 := fun n hn => by
    by_cases h0 : n = 0
    · subst h0; decide
    · exact (Nat.log2_lt h0).mpr hn
  have := h _ hi
  have := h _ hj
  omega
theorem e_mul {n : Nat} {B B' c : Int} {a : List Row} (ha : A n B a) (hn : n ≤ 60) (hB0 : B ≤ 1000000) (hc : 0 ≤ c) (hc2 : c ≤ 1000000000) (hB : ∀ k, get a k * c ≤ B') (hB' : B' ≤ 1000000) :
    A n B' (mulR a c) ∧ (∀ k, get (mulR a c) k = get a k * c) ∧ ∀ M, gOwnI "Amounts" F_Amounts___mul__ (amt a) (.int c) M = .ok (amt (mulR a c)) M := by
  have hA := ha.mul hB
  refine ⟨hA, get_mul ha hc, fun M => ?_⟩
  have hw := e_whole c M (by split <;> omega)
  have c1 : fLcL (fun _ => true) (fgTup 2 (fgCons (fgName 2) (fgCons (fgName 3) fgNil))) (fTest (fOp gGt (fVar 1) (fC (.int 0)))) (fTup (fCons (fVar 2) (fCons (fOp gMul (fVar 3) (fVar 1)) fNil)))
      [some (amt a), some (.int c), none, none] (a.map pr) [] M = .ok ((mulR a c).map pr) M := by
    rw [lc_fm (mulD c) rfl _ [] (size600 (by have := ha.len; simp; omega)) fun d hd => ?_, fm_mul]
    · rfl
    · obtain ⟨p, hp, rfl⟩ := List.mem_map.mp hd
      refine ⟨[some (amt a), some (.int c), some (.str p.1), some (.int p.2)], rfl, ?_⟩
      have hp2 := (srt_mem ha.srt p hp).2
      have hp3 := ha.top p hp
      have hm : CMulW p.2 c := mul_small (by omega) (by omega)
      by_cases h : 0 < c
      · simp [fnF, fnK, fSeq, fRet, fRetN, fAsg, fgName, fDrop, fNext, fNever, fIfS, fPar, fFor, fAndV, fOrV, fNotV, fNotW, fAnd, fOr, fNot, fTest, fTru, fIf, fChain, fOp, fUn, fCB, fCons, fNil, fTup, fLst, fCall, fVar, fC, fSl, fPart, fNoPart, fBM, fM0, fM1, mAsk, fFld, fMeth, fPropN, fCMeth, fDNew, fDGet2, fDGet, fDPut, fLc, fYes, fiList, fiTup, bind_ok, thenS_ok, asB_bl, j_ii, j_ib, j_ss, j_tt, gLt, gLe, gGt, gGe, gCmp, gAdd, gSubI, gMul, gMod, gDiv, gEq, gNe, gEqB, refD, scalEq, gLen, gAbs, gMax, gMin, gTuple, gIxS, tupOf, outS, fin_same, thenG, loopS, truD_bl, truD_tup, fgTup, fgCons, fgNil, mulD, pr, h, hm]
        exact size600 (by omega)
      · simp [fnF, fnK, fSeq, fRet, fRetN, fAsg, fgName, fDrop, fNext, fNever, fIfS, fPar, fFor, fAndV, fOrV, fNotV, fNotW, fAnd, fOr, fNot, fTest, fTru, fIf, fChain, fOp, fUn, fCB, fCons, fNil, fTup, fLst, fCall, fVar, fC, fSl, fPart, fNoPart, fBM, fM0, fM1, mAsk, fFld, fMeth, fPropN, fCMeth, fDNew, fDGet2, fDGet, fDPut, fLc, fYes, fiList, fiTup, bind_ok, thenS_ok, asB_bl, j_ii, j_ib, j_ss, j_tt, gLt, gLe, gGt, gGe, gCmp, gAdd, gSubI, gMul, gMod, gDiv, gEq, gNe, gEqB, refD, scalEq, gLen, gAbs, gMax, gMin, gTuple, gIxS, tupOf, outS, fin_same, thenG, loopS, truD_bl, truD_tup, fgTup, fgCons, fgNil, mulD, pr, h]
  simp only [gGt] at c1
  have hm := e_mk (mulR a c) (M ++ [.lst ((mulR a c).map pr)]) (hA.ok hn hB')
  simp at hm
  have hfin := fin_app (M := M) (xs := [.lst ((mulR a c).map pr)]) (d := amt (mulR a c)) clo_amt
  have hc' : ¬ c < 0 := by omega
  simp [gOwnI, obj_amt, F_Amounts___mul__, fnF, fnK, fSeq, fRet, fRetN, fAsg, fgName, fDrop, fNext, fNever, fIfS, fPar, fFor, fAndV, fOrV, fNotV, fNotW, fAnd, fOr, fNot, fTest, fTru, fIf, fChain, fOp, fUn, fCB, fCons, fNil, fTup, fLst, fCall, fVar, fC, fSl, fPart, fNoPart, fBM, fM0, fM1, mAsk, fFld, fMeth, fPropN, fCMeth, fDNew, fDGet2, fDGet, fDPut, fLc, fYes, fiList, fiTup, bind_ok, thenS_ok, asB_bl, j_ii, j_ib, j_ss, j_tt, gLt, gLe, gGt, gGe, gCmp, gAdd, gSubI, gMul, gMod, gDiv, gEq, gNe, gEqB, refD, scalEq, gLen, gAbs, gMax, gMin, gTuple, gIxS, tupOf, outS, fin_same, thenG, loopS, truD_bl, truD_tup, fgTup, fgCons, fgNil, hw, hc', look_p, wipeD, c1, G.listOf, fMk, hm, hfin]
/-! ### how often -/
def times (a b : List Row) : Int := minL (b.map fun p => get a p.1 / p.2)
theorem ints_div (a b : List Row) : intsOf (b.map fun p => D.int (get a p.1 / p.2)) = some (b.map fun p => get a p.1 / p.2) := by
  induction b with
  | nil => rfl
  | cons p r ih => simp [intsOf, ih]
def divD (a : List Row) (d : D) : D := match d with
  | .tup [.str k, .int n] => .int (get a k / n)
  | _ => .non
theorem e_times {n n' : Nat} {B B' : Int} {a b : List Row} (ha : A n B a) (hb : A n' B' b) (hn' : n' ≤ 60) (hB' : B' ≤ 1000000) (hne : b ≠ []) (M : AH) : F_Amounts_times [amt a, amt b] M = .ok (.int (times a b)) M := by
  have c1 : fLcL (fun _ => true) (fgTup 2 (fgCons (fgName 2) (fgCons (fgName 3) fgNil))) fYes (fOp gDiv (fDGet2 (fFld "Amounts" "_numbers" (fVar 0)) (fVar 2) (fC (.int 0))) (fVar 3))
      [some (amt a), some (amt b), none, none] (b.map pr) [] M = .ok ((b.map pr).map (divD a)) M := by
    refine lc_map _ rfl _ (size600 (by have := hb.len; simp; omega)) fun d hd => ?_
    obtain ⟨p, hp, rfl⟩ := List.mem_map.mp hd
    refine ⟨[some (amt a), some (amt b), some (.str p.1), some (.int p.2)], rfl, rfl, ?_⟩
    have hp2 := (srt_mem hb.srt p hp).2
    have hp3 := hb.top p hp
    have hd : CDivW (get a p.1) p.2 := ⟨by omega, by
      by_cases h0 : p.2.natAbs = 0
      · rw [h0]; decide
      · have : p.2.natAbs.log2 < 64 := (Nat.log2_lt h0).mpr (by omega)
        omega⟩
    simp [fnF, fnK, fSeq, fRet, fRetN, fAsg, fgName, fDrop, fNext, fNever, fIfS, fPar, fFor, fAndV, fOrV, fNotV, fNotW, fAnd, fOr, fNot, fTest, fTru, fIf, fChain, fOp, fUn, fCB, fCons, fNil, fTup, fLst, fCall, fVar, fC, fSl, fPart, fNoPart, fBM, fM0, fM1, mAsk, fFld, fMeth, fPropN, fCMeth, fDNew, fDGet2, fDGet, fDPut, fLc, fYes, fiList, fiTup, bind_ok, thenS_ok, asB_bl, j_ii, j_ib, j_ss, j_tt, gLt, gLe, gGt, gGe, gCmp, gAdd, gSubI, gMul, gMod, gDiv, gEq, gNe, gEqB, refD, scalEq, gLen, gAbs, gMax, gMin, gTuple, gIxS, tupOf, outS, fin_same, thenG, loopS, truD_bl, truD_tup, fgTup, fgCons, fgNil, obj_amt, look_n, dctOf, keyD, val_get, pr, hd, divD]
  have e1 : (b.map pr).map (divD a) = b.map fun p => D.int (get a p.1 / p.2) := by
    rw [List.map_map]
    rfl
  rw [e1] at c1
  have hne2 : (b.map fun p => get a p.1 / p.2) ≠ [] := by simpa using hne
  have hfin := fin_app (M := M) (xs := [.lst (b.map fun p => D.int (get a p.1 / p.2))]) (d := .int (times a b)) (by simp)
  simp only [times] at hfin ⊢
  simp [F_Amounts_times, fnF, fnK, fSeq, fRet, fRetN, fAsg, fgName, fDrop, fNext, fNever, fIfS, fPar, fFor, fAndV, fOrV, fNotV, fNotW, fAnd, fOr, fNot, fTest, fTru, fIf, fChain, fOp, fUn, fCB, fCons, fNil, fTup, fLst, fCall, fVar, fC, fSl, fPart, fNoPart, fBM, fM0, fM1, mAsk, fFld, fMeth, fPropN, fCMeth, fDNew, fDGet2, fDGet, fDPut, fLc, fYes, fiList, fiTup, bind_ok, thenS_ok, asB_bl, j_ii, j_ib, j_ss, j_tt, gLt, gLe, gGt, gGe, gCmp, gAdd, gSubI, gMul, gMod, gDiv, gEq, gNe, gEqB, refD, scalEq, gLen, gAbs, gMax, gMin, gTuple, gIxS, tupOf, outS, fin_same, thenG, loopS, truD_bl, truD_tup, fgTup, fgCons, fgNil, e_check, obj_amt, e_prop, hne, wipeD, c1, gMinL, G.listOf, ints_div, hfin]
/-- it is the greatest such number -/
theorem times_is {n n' : Nat} {B B' : Int} {a b : List Row} (ha : A n B a) (hb : A n' B' b) (hne : b ≠ []) {t : Int} (ht : 0 ≤ t) : t = times a b ↔ (∀ k, get b k * t ≤ get a k) ∧ ∃ k, get a k < get b k * (t + 1) := by
  obtain ⟨h1, h2⟩ := minL_is (b.map fun p => get a p.1 / p.2) (by simpa using hne)
  obtain ⟨p, hp, e⟩ := List.mem_map.mp h1
  have lo : ∀ t, t ≤ times a b → 0 ≤ t → ∀ k, get b k * t ≤ get a k := fun t htt h0 k => by
    rcases get_cases b k with ⟨q, hq, rfl⟩ | h
    · rw [get_mem hb.nd hq]
      have hq2 := (srt_mem hb.srt q hq).2
      have := h2 _ (List.mem_map.mpr ⟨q, hq, rfl⟩)
      have h3 : t ≤ get a q.1 / q.2 := Int.le_trans htt this
      have := (Int.le_ediv_iff_mul_le (by omega : 0 < q.2)).mp h3
      rw [Int.mul_comm]; exact this
    · rw [get_none h, Int.zero_mul]
      exact ha.nn k
  have hp2 := (srt_mem hb.srt p hp).2
  have up : ∀ t, times a b ≤ t → get a p.1 < get b p.1 * (t + 1) := fun t htt => by
    rw [get_mem hb.nd hp]
    have h3 : get a p.1 / p.2 < t + 1 := by
      show get a p.1 / p.2 < t + 1
      have e' : get a p.1 / p.2 = times a b := e
      omega
    have := (Int.ediv_lt_iff_lt_mul (by omega : 0 < p.2)).mp h3
    rw [Int.mul_comm]; exact this
  refine ⟨fun h => by subst h; exact ⟨lo _ (Int.le_refl _) ht, p.1, up _ (Int.le_refl _)⟩, fun ⟨g1, k, g2⟩ => ?_⟩
  have h3 : t ≤ times a b := by
    show t ≤ minL _
    rw [← e]
    refine (Int.le_ediv_iff_mul_le (by omega : 0 < p.2)).mpr ?_
    have := g1 p.1
    rw [get_mem hb.nd hp, Int.mul_comm] at this
    exact this
  have h4 : times a b ≤ t := by
    refine Classical.byContradiction fun hlt => ?_
    have := lo (t + 1) (by omega) (by omega) k
    omega
  omega
theorem times_nn {n n' : Nat} {B B' : Int} {a b : List Row} (ha : A n B a) (hb : A n' B' b) (hne : b ≠ []) : 0 ≤ times a b := by
  obtain ⟨h1, h2⟩ := minL_is (b.map fun p => get a p.1 / p.2) (by simpa using hne)
  obtain ⟨p, hp, e⟩ := List.mem_map.mp h1
  show 0 ≤ minL _
  rw [← e]
  exact Int.ediv_nonneg (ha.nn _) (by have := (srt_mem hb.srt p hp).2; omega)
/-! ### least covers -/
def mx : List (List Row) → Str → Int
  | [], _ => 0
  | m :: ms, k => max (get m k) (mx ms k)
structure CovI (n : Nat) (tot : Nat) (r : List Row) : Prop where
  nd : keysNd r
  mem : ∀ p ∈ r, kindB p.1 = true ∧ 1 ≤ p.2
theorem e_cover0 {n : Nat} {B : Int} (ms : List (List Row)) (hms : ∀ m ∈ ms, ∃ n', A n' B m) (hl : (ms.map List.length).sum ≤ n) (hn : n ≤ 60) (hB : B ≤ 1000000) (h0 : 0 ≤ B) (hk : ms.length ≤ 10) (M : AH) :
    ∃ s, A n B s ∧ (∀ k, get s k = mx ms k) ∧ F_Amounts_cover_of [.cls "Amounts", .tuq (ms.map amt)] M = .ok (amt s) M := by
  obtain ⟨δ', M', e, ⟨r, s3, s4, s5, rfl, rfl, hnd, hmem, hlen, _, hg⟩⟩ := for_ex (chk := fun _ => true) (g := fgName 3) (b := L_Amounts_cover_of_2) amt
    (fun rest δ M1 => ∃ (r : List Row) (s3 s4 s5 : Option D), δ = [some (.cls "Amounts"), some (.tuq (ms.map amt)), some (.ref M.length), s3, s4, s5] ∧ M1 = M ++ [.dct (ksOf r) (nsOf r)] ∧ keysNd r ∧ (∀ p ∈ r, kindB p.1 = true ∧ 1 ≤ p.2) ∧
      r.length + (rest.map List.length).sum ≤ n ∧ (∀ m ∈ rest, ∃ n', A n' B m) ∧ ∀ k, max (get r k) (mx rest k) = mx ms k) (fun _ _ _ _ => rfl)
    (fun m rest δ M1 hI => by
      obtain ⟨r, s3, s4, s5, rfl, rfl, hnd, hmem, hlen, hA, hg⟩ := hI
      obtain ⟨n', hm⟩ := hA m (List.mem_cons_self ..)
      simp only [List.map_cons, List.sum_cons] at hlen
      obtain ⟨δ2, M2, e2, ⟨r2, t4, t5, rfl, rfl, hnd2, hmem2, hlen2, _, _, hg2⟩⟩ := for_ex (chk := fun _ => true) (g := fgTup 2 (fgCons (fgName 4) (fgCons (fgName 5) fgNil))) (b := L_Amounts_cover_of_1) pr
        (fun rows δ M1 => ∃ (r2 : List Row) (s4 s5 : Option D), δ = [some (.cls "Amounts"), some (.tuq (ms.map amt)), some (.ref M.length), some (amt m), s4, s5] ∧ M1 = M ++ [.dct (ksOf r2) (nsOf r2)] ∧ keysNd r2 ∧ (∀ p ∈ r2, kindB p.1 = true ∧ 1 ≤ p.2) ∧
          r2.length + rows.length ≤ r.length + m.length ∧ keysNd rows ∧ (∀ p ∈ rows, kindB p.1 = true ∧ 1 ≤ p.2) ∧ ∀ k, max (get r2 k) (get rows k) = max (get r k) (get m k)) (fun _ _ _ _ => rfl)
        (fun p rows δ M1 hI => by
          obtain ⟨r2, t4, t5, rfl, rfl, hnd2, hmem2, hlen2, hnr, hmr, hg2⟩ := hI
          have hp := hmr p (List.mem_cons_self ..)
          simp only [List.length_cons] at hlen2
          have hsz : (ksOf r2).length < sizeLine := by
            unfold ksOf
            rw [List.length_map]
            exact Nat.lt_of_lt_of_le (show r2.length < 61 by omega) (by decide)
          have hmx : (if get r2 p.1 > p.2 then get r2 p.1 else p.2) = max (get r2 p.1) p.2 := by
            split <;> omega
          refine ⟨[some (.cls "Amounts"), some (.tuq (ms.map amt)), some (.ref M.length), some (amt m), some (.str p.1), some (.int p.2)], _, [some (.cls "Amounts"), some (.tuq (ms.map amt)), some (.ref M.length), some (amt m), some (.str p.1), some (.int p.2)],
            M ++ [.dct (ksOf (putR r2 p.1 (max (get r2 p.1) p.2))) (nsOf (putR r2 p.1 (max (get r2 p.1) p.2)))], rfl, .inl ?_, putR r2 p.1 (max (get r2 p.1) p.2), _, _, rfl, rfl, nd_putR hnd2, fun q hq => ?_, ?_, hnr.2, fun q hq => hmr q (List.mem_cons_of_mem _ hq), fun k => ?_⟩
          · rw [← hmx]
            simp [L_Amounts_cover_of_1, fnF, fnK, fSeq, fRet, fRetN, fAsg, fgName, fDrop, fNext, fNever, fIfS, fPar, fFor, fAndV, fOrV, fNotV, fNotW, fAnd, fOr, fNot, fTest, fTru, fIf, fChain, fOp, fUn, fCB, fCons, fNil, fTup, fLst, fCall, fVar, fC, fSl, fPart, fNoPart, fBM, fM0, fM1, mAsk, fFld, fMeth, fPropN, fCMeth, fDNew, fDGet2, fDGet, fDPut, fLc, fYes, fiList, fiTup, bind_ok, thenS_ok, asB_bl, j_ii, j_ib, j_ss, j_tt, gLt, gLe, gGt, gGe, gCmp, gAdd, gSubI, gMul, gMod, gDiv, gEq, gNe, gEqB, refD, scalEq, gLen, gAbs, gMax, gMin, gTuple, gIxS, tupOf, outS, fin_same, thenG, loopS, truD_bl, truD_tup, fgTup, fgCons, fgNil, dctOf, keyD, val_get, hsz, put_rows]
          · rcases mem_putR hq with e | ⟨hq, _⟩
            · rw [e]; exact ⟨hp.1, by show 1 ≤ max (get r2 p.1) p.2; omega⟩
            · exact hmem2 q hq
          · have := len_putR (r := r2) (k := p.1) (v := max (get r2 p.1) p.2)
            omega
          · rw [get_putR]
            have := hg2 k
            simp only [get] at this
            by_cases hk : k = p.1
            · subst hk
              rw [if_pos rfl]
              simp only [if_true] at this
              have h3 : get rows p.1 = 0 := get_none fun q hq => hnr.1 q hq
              rw [h3]
              omega
            · rw [if_neg hk]
              rw [if_neg (Ne.symm hk)] at this
              exact this)
        m [some (.cls "Amounts"), some (.tuq (ms.map amt)), some (.ref M.length), some (amt m), s4, s5] (M ++ [.dct (ksOf r) (nsOf r)]) ⟨r, _, _, rfl, rfl, hnd, hmem, Nat.le_refl _, hm.nd, fun p hp => srt_mem hm.srt p hp, fun k => rfl⟩
      refine ⟨[some (.cls "Amounts"), some (.tuq (ms.map amt)), some (.ref M.length), some (amt m), s4, s5], _, [some (.cls "Amounts"), some (.tuq (ms.map amt)), some (.ref M.length), some (amt m), t4, t5], M ++ [.dct (ksOf r2) (nsOf r2)], rfl, .inl ?_, r2, _, _, _, rfl, rfl, hnd2, hmem2, ?_, fun q hq => hA q (List.mem_cons_of_mem _ hq), fun k => ?_⟩
      · simp [L_Amounts_cover_of_2, fnF, fnK, fSeq, fRet, fRetN, fAsg, fgName, fDrop, fNext, fNever, fIfS, fPar, fFor, fAndV, fOrV, fNotV, fNotW, fAnd, fOr, fNot, fTest, fTru, fIf, fChain, fOp, fUn, fCB, fCons, fNil, fTup, fLst, fCall, fVar, fC, fSl, fPart, fNoPart, fBM, fM0, fM1, mAsk, fFld, fMeth, fPropN, fCMeth, fDNew, fDGet2, fDGet, fDPut, fLc, fYes, fiList, fiTup, bind_ok, thenS_ok, asB_bl, j_ii, j_ib, j_ss, j_tt, gLt, gLe, gGt, gGe, gCmp, gAdd, gSubI, gMul, gMod, gDiv, gEq, gNe, gEqB, refD, scalEq, gLen, gAbs, gMax, gMin, gTuple, gIxS, tupOf, outS, fin_same, thenG, loopS, truD_bl, truD_tup, fgTup, fgCons, fgNil, e_check, obj_amt, e_prop, e2]
      · simp only [List.length_nil] at hlen2
        omega
      · have h1 := hg k
        have h2 := hg2 k
        have h3 := hm.nn k
        have h4 : 0 ≤ get r2 k := get_nonneg (fun q hq => (hmem2 q hq).2) k
        simp only [get] at h2
        simp only [mx] at h1
        omega)
    ms [some (.cls "Amounts"), some (.tuq (ms.map amt)), some (.ref M.length), none, none, none] (M ++ [.dct [] []]) ⟨[], _, _, _, rfl, rfl, trivial, (fun p hp => by cases hp), by simpa using hl, hms, fun k => by
      have : 0 ≤ mx ms k := by
        clear hms hl hk
        induction ms with
        | nil => exact Int.le_refl _
        | cons m ms ih => simp only [mx]; omega
      simp only [get]
      omega⟩
  have hg' : ∀ k, get r k = mx ms k := fun k => by
    have := hg k
    have h4 : 0 ≤ get r k := get_nonneg (fun q hq => (hmem q hq).2) k
    simp only [mx] at this
    omega
  have hmx : ∀ k, mx ms k ≤ B := fun k => by
    clear hg' hg e hl hk
    induction ms with
    | nil => exact h0
    | cons m ms ih =>
      obtain ⟨n', hm⟩ := hms m (List.mem_cons_self ..)
      have := hm.le h0 k
      have := ih fun z hz => hms z (List.mem_cons_of_mem _ hz)
      simp only [mx]
      omega
  have hR : R n B r := ⟨hnd, by simp at hlen; exact hlen, fun p hp => ⟨(hmem p hp).1, (hmem p hp).2, by
    have := get_mem hnd hp
    have := hg' p.1
    have := hmx p.1
    omega⟩⟩
  refine ⟨rowsS r, hR.a, fun k => by rw [get_rowsS hnd]; exact hg' k, ?_⟩
  have hp := e_pairs_of (r := r) (i := M.length) (M := M ++ [.dct (ksOf r) (nsOf r)]) (by simp) (Nat.le_trans hR.len hn)
  have hm := e_mk (rowsS r) (M ++ [.dct (ksOf r) (nsOf r)]) (hR.a.ok hn hB)
  simp at hm
  have hfin := fin_app (M := M) (xs := [.dct (ksOf r) (nsOf r)]) (d := amt (rowsS r)) clo_amt
  simp [F_Amounts_cover_of, fnF, fnK, fSeq, fRet, fRetN, fAsg, fgName, fDrop, fNext, fNever, fIfS, fPar, fFor, fAndV, fOrV, fNotV, fNotW, fAnd, fOr, fNot, fTest, fTru, fIf, fChain, fOp, fUn, fCB, fCons, fNil, fTup, fLst, fCall, fVar, fC, fSl, fPart, fNoPart, fBM, fM0, fM1, mAsk, fFld, fMeth, fPropN, fCMeth, fDNew, fDGet2, fDGet, fDPut, fLc, fYes, fiList, fiTup, bind_ok, thenS_ok, asB_bl, j_ii, j_ib, j_ss, j_tt, gLt, gLe, gGt, gGe, gCmp, gAdd, gSubI, gMul, gMod, gDiv, gEq, gNe, gEqB, refD, scalEq, gLen, gAbs, gMax, gMin, gTuple, gIxS, tupOf, outS, fin_same, thenG, loopS, truD_bl, truD_tup, fgTup, fgCons, fgNil, e, hp, fMkV, fMk, hm, hfin]
theorem e_cover {n : Nat} {B : Int} (ms : List (List Row)) (hms : ∀ m ∈ ms, ∃ n', A n' B m) (hl : (ms.map List.length).sum ≤ n) (hn : n ≤ 60) (hB : B ≤ 1000000) (h0 : 0 ≤ B) (hk : ms.length ≤ 10) :
    ∃ s, A n B s ∧ (∀ k, get s k = mx ms k) ∧ ∀ M, fStar 1 F_Amounts_cover_of (.cls "Amounts" :: ms.map amt) M = .ok (amt s) M := by
  obtain ⟨s, h1, h2, h3⟩ := e_cover0 ms hms hl hn hB h0 hk []
  refine ⟨s, h1, h2, fun M => ?_⟩
  obtain ⟨s', h1', h2', h3'⟩ := e_cover0 ms hms hl hn hB h0 hk M
  have : s' = s := h1'.ext h1 fun k => by rw [h2', h2]
  subst this
  have hz : (ms.map amt).length + 1 ≤ sizeLine := size600 (by simp; omega)
  simp [fStar, h3']
  simpa using hz
end K01
namespace K01
open PySem L2 G
/-! ### the law of two or three amounts -/
theorem A.zero : A 0 0 [] := ⟨trivial, Nat.le_refl _, fun p hp => by cases hp⟩
theorem ok_nil : Ok [] := A.zero.ok (by decide) (by decide)
theorem e_none {δ : AS} {M : AH} : fMk "Amounts" F_Amounts___init__ [.tup []] fNil δ M = .ok (amt []) M := by
  have h := e_mk [] M ok_nil
  simpa [fMk, fNil, bind_ok] using h
theorem get_nil (k : Str) : get [] k = 0 := rfl
theorem len63 {n : Nat} (h : n ≤ 60) : n < 2 ^ 63 := by omega
theorem e_len_own (m : List Row) (M : AH) (h : m.length ≤ 60) : gLenOwn "Amounts" F_Amounts___len__ [amt m] M = .ok (.int m.length) M := by
  simp only [gLenOwn, obj_amt, e_len, bind_ok, lenChk_ok (len63 h)]
theorem isE {l : List Row} : l.isEmpty = true ↔ l = [] := by cases l <;> simp
def cov (a b : List Row) : Bool := (lack a b).isEmpty
theorem cov_iff {n n' : Nat} {B B' : Int} {a b : List Row} (ha : A n B a) (hb : A n' B' b) : cov a b = true ↔ ∀ k, get b k ≤ get a k := by
  unfold cov
  rw [isE, lack_nil ha hb]
theorem e_cov (a b : List Row) (M : AH) (hb : b.length ≤ 60) : F_Amounts_covers [amt a, amt b] M = .ok (.bl (cov a b)) M := e_covers a b M hb
end K01
namespace K01
open PySem L2 G
/-! ### the law of two or three amounts -/
theorem e_cov3 {a b c : List Row} (ha : A 12 180000 a) (hb : A 12 180000 b) (hc : A 12 180000 c) (M : AH) : F__law_covers_right [amt a, amt b, amt c] M = .ok (.bl true) M := by
  have la := ha.len
  have lb := hb.len
  have lc := hc.len
  have am {l : List (List Row)} (h : ∀ m ∈ l, A 12 180000 m) : ∀ m ∈ l, ∃ n', A n' 180000 m := fun m hm => ⟨12, h m hm⟩
  obtain ⟨s, hs, gs, es⟩ := e_cover (n := 24) (B := 180000) [a, b] (am (by simp [ha, hb])) (by simp; omega) (by decide) (by decide) (by decide) (by simp)
  obtain ⟨s', hs', gs', es'⟩ := e_cover (n := 36) (B := 180000) [b, a, a] (am (by simp [ha, hb])) (by simp; omega) (by decide) (by decide) (by decide) (by simp)
  have ls := hs.len
  obtain ⟨u, hu, gu, eu⟩ := e_cover (n := 36) (B := 180000) [s, c] (fun m hm => by
    rcases List.mem_cons.mp hm with rfl | hm
    · exact ⟨24, hs⟩
    · rcases List.mem_cons.mp hm with rfl | hm
      · exact ⟨12, hc⟩
      · cases hm) (by simp; omega) (by decide) (by decide) (by decide) (by simp)
  obtain ⟨u', hu', gu', eu'⟩ := e_cover (n := 36) (B := 180000) [a, b, c] (am (by simp [ha, hb, hc])) (by simp; omega) (by decide) (by decide) (by decide) (by simp)
  simp only [mx] at gs gs' gu gu'
  have na := ha.nn
  have nb := hb.nn
  have nc := hc.nn
  have ns := hs.nn
  have q1 : s' = s := hs'.ext hs fun k => by
    have := na k; have := nb k; rw [gs', gs]; omega
  subst q1
  have q2 : u' = u := hu'.ext hu fun k => by
    have := na k; have := nb k; have := nc k; have := gs k; rw [gu', gu]; omega
  subst q2
  have c1 : cov s' a = true := (cov_iff hs ha).mpr fun k => by have := gs k; omega
  have c2 : cov s' b = true := (cov_iff hs hb).mpr fun k => by have := gs k; omega
  have c3 : cov c s' = (cov c a && cov c b) := by
    rw [Bool.eq_iff_iff, Bool.and_eq_true, cov_iff hc hs, cov_iff hc ha, cov_iff hc hb]
    constructor
    · intro h
      exact ⟨fun k => by have := h k; have := gs k; omega, fun k => by have := h k; have := gs k; omega⟩
    · rintro ⟨h1, h2⟩ k
      have := h1 k; have := h2 k; have := gs k; have := nc k; omega
  have hl := ha.lack hb
  have hl' := hb.lack ha
  obtain ⟨t, ht, gt, et⟩ := e_add ha hl (by decide) (by decide) (by decide) (by decide)
  obtain ⟨t', ht', gt', et'⟩ := e_add hb hl' (by decide) (by decide) (by decide) (by decide)
  have q3 : t = s' := ht.ext hs fun k => by
    have := na k; have := nb k; rw [gt, gs, get_lack ha hb]; split <;> omega
  subst q3
  have q4 : t' = t := ht'.ext ht fun k => by
    have := na k; have := nb k; rw [gt', gs, get_lack hb ha]; split <;> omega
  subst q4
  have e1 := fun M => e_lacks a b M (by omega) (hl.ok (by decide) (by decide))
  have e2 := fun M => e_lacks b a M (by omega) (hl'.ok (by decide) (by decide))
  have c4 : cov a b = true → cov b c = true → cov a c = true := fun h1 h2 => (cov_iff ha hc).mpr fun k => by
    have := (cov_iff ha hb).mp h1 k; have := (cov_iff hb hc).mp h2 k; omega
  have c5 : (cov a b && cov b a) = decide (a = b) := by
    rw [Bool.eq_iff_iff, Bool.and_eq_true, cov_iff ha hb, cov_iff hb ha, decide_eq_true_iff]
    constructor
    · rintro ⟨h1, h2⟩
      exact ha.ext hb fun k => by have := h1 k; have := h2 k; omega
    · rintro rfl
      exact ⟨fun k => Int.le_refl _, fun k => Int.le_refl _⟩
  have c6 : cov a [] = true := (cov_iff ha A.zero).mpr fun k => by rw [get_nil]; exact na k
  have v1 : ∀ M, F_Amounts_covers [amt t', amt a] M = .ok (.bl true) M := fun M => by rw [e_cov _ _ _ (by omega), c1]
  have v2 : ∀ M, F_Amounts_covers [amt t', amt b] M = .ok (.bl true) M := fun M => by rw [e_cov _ _ _ (by omega), c2]
  have v3 : ∀ M, F_Amounts_covers [amt c, amt t'] M = .ok (.bl (cov c a && cov c b)) M := fun M => by rw [e_cov _ _ _ (by omega), c3]
  have v4 : ∀ M, F_Amounts_covers [amt a, amt []] M = .ok (.bl true) M := fun M => by rw [e_cov _ _ _ (by simp), c6]
  have w1 := fun M => e_cov c a M (by omega)
  have w2 := fun M => e_cov c b M (by omega)
  have w3 := fun M => e_cov a b M (by omega)
  have w4 := fun M => e_cov b c M (by omega)
  have w5 := fun M => e_cov a c M (by omega)
  have w6 := fun M => e_cov b a M (by omega)
  have k1 := ha.ok (by decide) (by decide)
  have k2 := hb.ok (by decide) (by decide)
  have k3 := ht.ok (by decide) (by decide)
  have k4 := hu.ok (by decide) (by decide)
  simp only [List.map_cons, List.map_nil] at es es' eu eu'
  generalize hx1 : cov c a = x1 at *
  generalize hx2 : cov c b = x2 at *
  generalize hx3 : cov a b = x3 at *
  generalize hx4 : cov b c = x4 at *
  generalize hx5 : cov a c = x5 at *
  generalize hx6 : cov b a = x6 at *
  generalize hx7 : decide (a = b) = x7 at *
  have o1 : ∀ M, gOwn "Amounts" F_Amounts___eq__ (amt a) (amt b) M = .ok (.bl x7) M := fun M => by rw [o_eq k1 k2, hx7]
  clear hs hs' ht ht' hu hu' gs gs' gu gu' gt gt' ha hb hc la lb lc am ls na nb nc ns c1 c2 c3 c6 hl hl' hx1 hx2 hx3 hx4 hx5 hx6 hx7
  have c45 : ∀ (δ : AS) (M : AH) (k : Bool → AH → SRes), (Res.thenS (if x3 = true then if x4 = true then Res.ok (!x5) M else Res.ok false M else Res.ok false M) δ k) = k false M := by
    intro δ M k
    cases x3 <;> cases x4 <;> simp_all [Res.thenS]
  subst c5
  cases x1 <;> cases x2 <;> simp [F__law_covers_right, fnF, fnK, fSeq, fRet, fRetN, fAsg, fgName, fDrop, fNext, fNever, fIfS, fPar, fFor, fAndV, fOrV, fNotV, fNotW, fAnd, fOr, fNot, fTest, fTru, fIf, fChain, fOp, fUn, fCB, fCons, fNil, fTup, fLst, fCall, fVar, fC, fSl, fPart, fNoPart, fBM, fM0, fM1, mAsk, fFld, fMeth, fPropN, fCMeth, fDNew, fDGet2, fDGet, fDPut, fLc, fYes, fiList, fiTup, bind_ok, thenS_ok, asB_bl, j_ii, j_ib, j_ss, j_tt, gLt, gLe, gGt, gGe, gCmp, gAdd, gSubI, gMul, gMod, gDiv, gEq, gNe, gEqB, refD, scalEq, gLen, gAbs, gMax, gMin, gTuple, gIxS, tupOf, outS, fin_same, thenG, loopS, truD_bl, truD_tup, fgTup, fgCons, fgNil, es, es', eu, eu', v1, v2, v3, v4, w1, w2, w3, w4, w5, w6, e1, e2, et, et', o_ne, o1, k1, k2, k3, k4, e_none, obj_amt] <;> rw [c45] <;> simp [fnF, fnK, fSeq, fRet, fRetN, fAsg, fgName, fDrop, fNext, fNever, fIfS, fPar, fFor, fAndV, fOrV, fNotV, fNotW, fAnd, fOr, fNot, fTest, fTru, fIf, fChain, fOp, fUn, fCB, fCons, fNil, fTup, fLst, fCall, fVar, fC, fSl, fPart, fNoPart, fBM, fM0, fM1, mAsk, fFld, fMeth, fPropN, fCMeth, fDNew, fDGet2, fDGet, fDPut, fLc, fYes, fiList, fiTup, bind_ok, thenS_ok, asB_bl, j_ii, j_ib, j_ss, j_tt, gLt, gLe, gGt, gGe, gCmp, gAdd, gSubI, gMul, gMod, gDiv, gEq, gNe, gEqB, refD, scalEq, gLen, gAbs, gMax, gMin, gTuple, gIxS, tupOf, outS, fin_same, thenG, loopS, truD_bl, truD_tup, fgTup, fgCons, fgNil, v4, w3, w6, o1, e_none, obj_amt] <;> cases x3 <;> cases x6 <;> simp [fnF, fnK, fSeq, fRet, fRetN, fAsg, fgName, fDrop, fNext, fNever, fIfS, fPar, fFor, fAndV, fOrV, fNotV, fNotW, fAnd, fOr, fNot, fTest, fTru, fIf, fChain, fOp, fUn, fCB, fCons, fNil, fTup, fLst, fCall, fVar, fC, fSl, fPart, fNoPart, fBM, fM0, fM1, mAsk, fFld, fMeth, fPropN, fCMeth, fDNew, fDGet2, fDGet, fDPut, fLc, fYes, fiList, fiTup, bind_ok, thenS_ok, asB_bl, j_ii, j_ib, j_ss, j_tt, gLt, gLe, gGt, gGe, gCmp, gAdd, gSubI, gMul, gMod, gDiv, gEq, gNe, gEqB, refD, scalEq, gLen, gAbs, gMax, gMin, gTuple, gIxS, tupOf, outS, fin_same, thenG, loopS, truD_bl, truD_tup, fgTup, fgCons, fgNil]
end K01
namespace K01
open PySem L2 G
theorem e_often {a b : List Row} (ha : A 12 180000 a) (hb : A 12 180000 b) (M : AH) : F__law_often_right [amt a, amt b] M = .ok (.bl true) M := by
  have la := ha.len
  have lb := hb.len
  have el := fun M => e_len_own b M (by omega)
  by_cases hb0 : b = []
  · subst hb0
    have c6 : cov a [] = true := (cov_iff ha A.zero).mpr fun k => by rw [get_nil]; exact ha.nn k
    have v4 : ∀ M, F_Amounts_covers [amt a, amt []] M = .ok (.bl true) M := fun M => by rw [e_cov _ _ _ (by simp), c6]
    simp [F__law_often_right, fnF, fnK, fSeq, fRet, fRetN, fAsg, fgName, fDrop, fNext, fNever, fIfS, fPar, fFor, fAndV, fOrV, fNotV, fNotW, fAnd, fOr, fNot, fTest, fTru, fIf, fChain, fOp, fUn, fCB, fCons, fNil, fTup, fLst, fCall, fVar, fC, fSl, fPart, fNoPart, fBM, fM0, fM1, mAsk, fFld, fMeth, fPropN, fCMeth, fDNew, fDGet2, fDGet, fDPut, fLc, fYes, fiList, fiTup, bind_ok, thenS_ok, asB_bl, j_ii, j_ib, j_ss, j_tt, gLt, gLe, gGt, gGe, gCmp, gAdd, gSubI, gMul, gMod, gDiv, gEq, gNe, gEqB, refD, scalEq, gLen, gAbs, gMax, gMin, gTuple, gIxS, tupOf, outS, fin_same, thenG, loopS, truD_bl, truD_tup, fgTup, fgCons, fgNil, el, v4, obj_amt]
  · have hn : ¬ ((b.length : Int) = 0) := by
      intro h
      exact hb0 (List.length_eq_zero_iff.mp (by omega))
    have hn' : ¬ (b.length = 0) := fun h => hn (by omega)
    obtain ⟨p, hp⟩ := List.exists_mem_of_ne_nil b hb0
    have hp1 := (srt_mem hb.srt p hp).2
    have hpg := get_mem hb.nd hp
    obtain ⟨t1, k0, t2⟩ := (times_is ha hb hb0 (times_nn ha hb hb0)).mp rfl
    have t0 := times_nn ha hb hb0
    have et := fun M => e_times ha hb (by omega) (by decide) hb0 M
    generalize times a b = t at t1 t2 t0 et
    have up := fun k => ha.le (by decide) k
    have upb := fun k => hb.le (by decide) k
    have tb : t ≤ 180000 := by
      have h1 := t1 p.1
      have h2 := up p.1
      rw [hpg] at h1
      have h3 : 1 * t ≤ p.2 * t := Int.mul_le_mul_of_nonneg_right hp1 t0
      omega
    obtain ⟨h2, g2, e2⟩ := e_mul (B' := 180000) (c := t) hb (by decide) (by decide) t0 (by omega) (fun k => by have := t1 k; have := up k; omega) (by decide)
    obtain ⟨h3, g3, e3⟩ := e_mul (B' := 360000) (c := t + 1) hb (by decide) (by decide) (by omega) (by omega) (fun k => by have := t1 k; have := up k; have := upb k; rw [Int.mul_add]; omega) (by decide)
    obtain ⟨h5, g5, e5⟩ := e_mul (B' := 900000) (c := 5) hb (by decide) (by decide) (by decide) (by decide) (fun k => by have := upb k; omega) (by decide)
    have w1 : ∀ M, F_Amounts_covers [amt a, amt (mulR b t)] M = .ok (.bl true) M := fun M => by
      rw [e_cov _ _ _ (by have := h2.len; omega), (cov_iff ha h2).mpr fun k => by rw [g2]; exact t1 k]
    have w2 : ∀ M, F_Amounts_covers [amt a, amt (mulR b (t + 1))] M = .ok (.bl false) M := fun M => by
      have : cov a (mulR b (t + 1)) = false := by
        rw [Bool.eq_false_iff]
        intro h
        have := (cov_iff ha h3).mp h k0
        rw [g3] at this
        omega
      rw [e_cov _ _ _ (by have := h3.len; omega), this]
    obtain ⟨s, hs, gs, es⟩ := e_add ha hb (by decide) (by decide) (by decide) (by decide)
    have x1 : t + 1 = times s b := (times_is hs hb hb0 (by omega)).mpr ⟨fun k => by have := t1 k; rw [gs, Int.mul_add]; omega, k0, by rw [gs, Int.mul_add]; omega⟩
    have x2 : 5 = times (mulR b 5) b := (times_is h5 hb hb0 (by decide)).mpr ⟨fun k => by rw [g5]; omega, p.1, by rw [g5, hpg]; omega⟩
    have f1 := fun M => e_times hs hb (by omega) (by decide) hb0 M
    have f2 := fun M => e_times h5 hb (by omega) (by decide) hb0 M
    rw [← x1] at f1
    rw [← x2] at f2
    simp [F__law_often_right, fnF, fnK, fSeq, fRet, fRetN, fAsg, fgName, fDrop, fNext, fNever, fIfS, fPar, fFor, fAndV, fOrV, fNotV, fNotW, fAnd, fOr, fNot, fTest, fTru, fIf, fChain, fOp, fUn, fCB, fCons, fNil, fTup, fLst, fCall, fVar, fC, fSl, fPart, fNoPart, fBM, fM0, fM1, mAsk, fFld, fMeth, fPropN, fCMeth, fDNew, fDGet2, fDGet, fDPut, fLc, fYes, fiList, fiTup, bind_ok, thenS_ok, asB_bl, j_ii, j_ib, j_ss, j_tt, gLt, gLe, gGt, gGe, gCmp, gAdd, gSubI, gMul, gMod, gDiv, gEq, gNe, gEqB, refD, scalEq, gLen, gAbs, gMax, gMin, gTuple, gIxS, tupOf, outS, fin_same, thenG, loopS, truD_bl, truD_tup, fgTup, fgCons, fgNil, el, et, e2, e3, e5, es, w1, w2, f1, f2, hn, hn', obj_amt]
end K01
namespace K01
open PySem L2 G
/-! ### the law of two or three amounts -/
theorem e_sums {a b c : List Row} (ha : A 12 180000 a) (hb : A 12 180000 b) (hc : A 12 180000 c) (M : AH) : F__law_sums_right [amt a, amt b, amt c] M = .ok (.bl true) M := by
  obtain ⟨s, hs, gs, es⟩ := e_add ha hb (by decide) (by decide) (by decide) (by decide)
  obtain ⟨s', hs', gs', es'⟩ := e_add hb ha (by decide) (by decide) (by decide) (by decide)
  have q1 : s' = s := hs'.ext hs fun k => by rw [gs', gs]; omega
  subst q1
  obtain ⟨u, hu, gu, eu⟩ := e_add hs hc (by decide) (by decide) (by decide) (by decide)
  obtain ⟨v, hv, gv, ev⟩ := e_add hb hc (by decide) (by decide) (by decide) (by decide)
  obtain ⟨u', hu', gu', eu'⟩ := e_add ha hv (by decide) (by decide) (by decide) (by decide)
  have q2 : u' = u := hu'.ext hu fun k => by rw [gu', gu, gv, gs]; omega
  subst q2
  obtain ⟨z, hz, gz, ez⟩ := e_add ha A.zero (by decide) (by decide) (by decide) (by decide)
  have q3 : z = a := hz.ext ha fun k => by rw [gz, get_nil]; omega
  subst q3
  obtain ⟨hm, gm, em⟩ := e_sub hs hb (by decide) (by decide) (by decide) fun k => by
    have := ha.nn k
    rw [gs]; omega
  have q4 : lack b s' = z := hm.ext ha fun k => by rw [gm, gs]; omega
  rw [q4] at em
  obtain ⟨hm0, gm0, em0⟩ := e_sub ha ha (by decide) (by decide) (by decide) fun k => Int.le_refl _
  have q5 : lack z z = [] := hm0.ext A.zero fun k => by rw [gm0, get_nil]; omega
  rw [q5] at em0
  have up := fun k => ha.le (by decide) k
  have up' := fun k => hb.le (by decide) k
  obtain ⟨h2, g2, e2⟩ := e_mul (B' := 360000) (c := 2) ha (by decide) (by decide) (by decide) (by decide) (fun k => by have := up k; omega) (by decide)
  obtain ⟨h2', g2', e2'⟩ := e_mul (B' := 360000) (c := 2) hb (by decide) (by decide) (by decide) (by decide) (fun k => by have := up' k; omega) (by decide)
  obtain ⟨w, hw, gw, ew⟩ := e_add h2 h2' (by decide) (by decide) (by decide) (by decide)
  obtain ⟨h3, g3, e3⟩ := e_mul (B' := 720000) (c := 2) hs (by decide) (by decide) (by decide) (by decide) (fun k => by have := up k; have := up' k; rw [gs]; omega) (by decide)
  have q6 : mulR s' 2 = w := h3.ext hw fun k => by rw [g3, gw, g2, g2', gs]; omega
  rw [q6] at e3
  obtain ⟨h4, g4, e4⟩ := e_mul (B' := 540000) (c := 3) ha (by decide) (by decide) (by decide) (by decide) (fun k => by have := up k; omega) (by decide)
  obtain ⟨d, hd, gd, ed⟩ := e_add ha ha (by decide) (by decide) (by decide) (by decide)
  obtain ⟨t, ht, gt, et⟩ := e_add hd ha (by decide) (by decide) (by decide) (by decide)
  have q7 : mulR z 3 = t := h4.ext ht fun k => by rw [g4, gt, gd]; omega
  rw [q7] at e4
  obtain ⟨h5, g5, e5⟩ := e_mul (B' := 180000) (c := 1) ha (by decide) (by decide) (by decide) (by decide) (fun k => by have := up k; omega) (by decide)
  have q8 : mulR z 1 = z := h5.ext ha fun k => by rw [g5]; omega
  rw [q8] at e5
  obtain ⟨h6, g6, e6⟩ := e_mul (B' := 0) (c := 0) ha (by decide) (by decide) (by decide) (by decide) (fun k => by omega) (by decide)
  have q9 : mulR z 0 = [] := h6.ext A.zero fun k => by rw [g6, get_nil]; omega
  rw [q9] at e6
  have k1 := ha.ok (by decide) (by decide)
  have k2 := hs.ok (by decide) (by decide)
  have k3 := hu.ok (by decide) (by decide)
  have k4 := hw.ok (by decide) (by decide)
  have k5 := ht.ok (by decide) (by decide)
  simp [F__law_sums_right, fnF, fnK, fSeq, fRet, fRetN, fAsg, fgName, fDrop, fNext, fNever, fIfS, fPar, fFor, fAndV, fOrV, fNotV, fNotW, fAnd, fOr, fNot, fTest, fTru, fIf, fChain, fOp, fUn, fCB, fCons, fNil, fTup, fLst, fCall, fVar, fC, fSl, fPart, fNoPart, fBM, fM0, fM1, mAsk, fFld, fMeth, fPropN, fCMeth, fDNew, fDGet2, fDGet, fDPut, fLc, fYes, fiList, fiTup, bind_ok, thenS_ok, asB_bl, j_ii, j_ib, j_ss, j_tt, gLt, gLe, gGt, gGe, gCmp, gAdd, gSubI, gMul, gMod, gDiv, gEq, gNe, gEqB, refD, scalEq, gLen, gAbs, gMax, gMin, gTuple, gIxS, tupOf, outS, fin_same, thenG, loopS, truD_bl, truD_tup, fgTup, fgCons, fgNil, es, es', eu, ev, eu', ez, em, em0, e2, e2', ew, e3, e4, ed, et, e5, e6, e_none, o_ne, o_eq, k1, k2, k3, k4, k5, ok_nil]
end K01
namespace K01
open PySem L2 G
/-! ### dice -/
def Dc (d : Nat) (M : AH) : Prop := ∃ x y z : Int, M[d]? = some (.lst [.int x, .int y, .int z])
def Mv (d : Nat) (M M' : AH) : Prop := ∃ x y z : Int, M' = M.set d (.lst [.int x, .int y, .int z])
theorem Dc.lt {d : Nat} {M : AH} (h : Dc d M) : d < M.length := by
  obtain ⟨x, y, z, h⟩ := h
  exact (List.getElem?_eq_some_iff.mp h).1
theorem Mv.len {d : Nat} {M M' : AH} (m : Mv d M M') : M'.length = M.length := by
  obtain ⟨x, y, z, rfl⟩ := m
  simp
theorem Mv.dc {d : Nat} {M M' : AH} (m : Mv d M M') (h : d < M.length) : Dc d M' := by
  obtain ⟨x, y, z, rfl⟩ := m
  exact ⟨x, y, z, List.getElem?_set_self h⟩
theorem Mv.tr {d : Nat} {M M1 M2 : AH} (m : Mv d M M1) (m' : Mv d M1 M2) : Mv d M M2 := by
  obtain ⟨x, y, z, rfl⟩ := m
  obtain ⟨x', y', z', rfl⟩ := m'
  exact ⟨x', y', z', by rw [List.set_set]⟩
theorem Dc.mv {d : Nat} {M : AH} (h : Dc d M) : Mv d M M := by
  obtain ⟨x, y, z, h⟩ := h
  refine ⟨x, y, z, List.ext_getElem? fun j => ?_⟩
  by_cases hj : d = j
  · subst hj
    rw [List.getElem?_set_self (List.getElem?_eq_some_iff.mp h).1, h]
  · rw [List.getElem?_set_ne hj]
theorem Mv.old {d i : Nat} {M M' : AH} (m : Mv d M M') (h : i ≠ d) : M'[i]? = M[i]? := by
  obtain ⟨x, y, z, rfl⟩ := m
  rw [List.getElem?_set_ne (Ne.symm h)]
theorem Mv.app {d : Nat} {M X M' : AH} (m : Mv d (M ++ X) M') (h : d < M.length) : ∃ M1, Mv d M M1 ∧ M' = M1 ++ X := by
  obtain ⟨x, y, z, rfl⟩ := m
  exact ⟨_, ⟨x, y, z, rfl⟩, by rw [List.set_append_left _ _ h]⟩
theorem Dc.app {d : Nat} {M : AH} (X : AH) (h : Dc d M) : Dc d (M ++ X) := by
  have hl := h.lt
  obtain ⟨x, y, z, h⟩ := h
  exact ⟨x, y, z, by rw [List.getElem?_append_left hl, h]⟩
theorem okOld_more {M N : AH} (X : AH) (hl : N.length = M.length) (h : okOld M N = true) : okOld M (N ++ X) = true := by
  unfold okOld at *
  rw [List.all_eq_true] at *
  intro i hi
  have h1 := h i hi
  have hi' := List.mem_range.mp hi
  rw [List.getElem?_append_left (by omega)]
  exact h1
theorem Mv.okOld {d : Nat} {M M' : AH} (X : AH) (m : Mv d M M') (h : d < M.length) : G.okOld M (M' ++ X) = true := by
  refine okOld_more X m.len ?_
  obtain ⟨x, y, z, rfl⟩ := m
  exact okOld_set h (by simp [AO.clo])
theorem fin_mv {d : Nat} {M M' : AH} {v : D} (X : AH) (m : Mv d M M') (h : d < M.length) (hv : D.clo M.length v = true) : fin M (.ok v (M' ++ X)) = .ok v M' := by
  have e : (M' ++ X).take M.length = M' := by rw [← m.len, List.take_left]
  simp only [fin, m.okOld X h, if_true, frz_clo hv, e]
theorem fin_mv0 {d : Nat} {M M' : AH} {v : D} (m : Mv d M M') (h : d < M.length) (hv : D.clo M.length v = true) : fin M (.ok v M') = .ok v M' := by
  have := fin_mv [] m h hv
  rwa [List.append_nil] at this
theorem fin_mvL {d : Nat} {M M' : AH} {xs : List D} (m : Mv d M M') (h : d < M.length) (hv : D.cloL M.length xs = true) : fin M (.ok (.ref M'.length) (M' ++ [.lst xs])) = .ok (.lst xs) M' := by
  have e : (M' ++ [AO.lst xs]).take M.length = M' := by rw [← m.len, List.take_left]
  have : frz (M' ++ [.lst xs]) M.length frzN (.ref M'.length) = some (.lst xs) := by
    unfold frzN frz
    rw [if_neg (by simp [D.clo, m.len])]
    simp [frzL_clo hv]
  simp only [fin, m.okOld _ h, if_true, this, e]
/-- a comprehension whose test or thing changes what stands -/
theorem lc_ex {α β : Type} {chk : AH → Bool} {g : FG} {t : FT} {e : FE} {δ : AS} (f : α → D) (o : β → D) (I : AH → Prop) (Y : α → β → Prop) (hc : ∀ M, I M → chk M = true)
    (hs : ∀ a M, I M → ∃ δ1 M1, g (f a) δ M = .nx δ1 M1 ∧ ((∃ M2, t δ1 M1 = .ok false M2 ∧ I M2) ∨ ∃ M2 b M3, t δ1 M1 = .ok true M2 ∧ e δ1 M2 = .ok (o b) M3 ∧ Y a b ∧ I M3)) :
    ∀ (xs : List α) (acc : List D) (M : AH), acc.length + xs.length ≤ sizeLine → I M → ∃ (ps : List (α × β)) (M' : AH), (ps.map (·.1)).Sublist xs ∧ (∀ p ∈ ps, Y p.1 p.2) ∧ I M' ∧ fLcL chk g t e δ (xs.map f) acc M = .ok (acc ++ ps.map fun p => o p.2) M'
  | [], acc, M, _, h => ⟨[], M, .slnil, (fun p hp => nomatch hp), h, by simp [fLcL, hc M h]⟩
  | a :: r, acc, M, hl, h => by
    obtain ⟨δ1, M1, h1, h2⟩ := hs a M h
    have hl' : acc.length < sizeLine := by simp only [List.length_cons] at hl; omega
    rcases h2 with ⟨M2, h2, h3⟩ | ⟨M2, b, M3, h2, h3, h4, h5⟩
    · obtain ⟨ps, M', q1, q2, q3, q4⟩ := lc_ex f o I Y hc hs r acc M2 (by simp only [List.length_cons] at hl; omega) h3
      refine ⟨ps, M', q1.cons _, q2, q3, ?_⟩
      simp only [List.map_cons, fLcL, hc M h, if_true, h1, h2]
      exact q4
    · obtain ⟨ps, M', q1, q2, q3, q4⟩ := lc_ex f o I Y hc hs r (acc ++ [o b]) M3 (by simp only [List.length_cons, List.length_append, List.length_nil] at hl ⊢; omega) h5
      refine ⟨(a, b) :: ps, M', q1.cons₂ _, fun p hp => ?_, q3, ?_⟩
      · rcases List.mem_cons.mp hp with rfl | hp
        · exact h4
        · exact q2 p hp
      · simp only [List.map_cons, fLcL, hc M h, if_true, h1, h2, h3, hl']
        rw [q4]
        simp
theorem lc_exm {α β : Type} {chk : AH → Bool} {g : FG} {t : FT} {e : FE} {δ : AS} (f : α → D) (o : β → D) (I : AH → Prop) (Y : α → β → Prop) (hc : ∀ M, I M → chk M = true)
    (hs : ∀ a M, I M → ∃ δ1 M1, g (f a) δ M = .nx δ1 M1 ∧ ∃ M2 b M3, t δ1 M1 = .ok true M2 ∧ e δ1 M2 = .ok (o b) M3 ∧ Y a b ∧ I M3) :
    ∀ (xs : List α) (acc : List D) (M : AH), acc.length + xs.length ≤ sizeLine → I M → ∃ (ps : List (α × β)) (M' : AH), ps.map (·.1) = xs ∧ (∀ p ∈ ps, Y p.1 p.2) ∧ I M' ∧ fLcL chk g t e δ (xs.map f) acc M = .ok (acc ++ ps.map fun p => o p.2) M'
  | [], acc, M, _, h => ⟨[], M, rfl, (fun p hp => nomatch hp), h, by simp [fLcL, hc M h]⟩
  | a :: r, acc, M, hl, h => by
    obtain ⟨δ1, M1, h1, M2, b, M3, h2, h3, h4, h5⟩ := hs a M h
    have hl' : acc.length < sizeLine := by simp only [List.length_cons] at hl; omega
    obtain ⟨ps, M', q1, q2, q3, q4⟩ := lc_exm f o I Y hc hs r (acc ++ [o b]) M3 (by simp only [List.length_cons, List.length_append, List.length_nil] at hl ⊢; omega) h5
    refine ⟨(a, b) :: ps, M', by simp [q1], fun p hp => ?_, q3, ?_⟩
    · rcases List.mem_cons.mp hp with rfl | hp
      · exact h4
      · exact q2 p hp
    · simp only [List.map_cons, fLcL, hc M h, if_true, h1, h2, h3, hl']
      rw [q4]
      simp
theorem cm_l {i j : Int} (h : -(2 ^ 64) < i ∧ i < 2 ^ 64) : CMul i j ∨ CMulW i j := .inl (.inl h)
theorem cm_r {i j : Int} (h : -(2 ^ 64) < j ∧ j < 2 ^ 64) : CMul i j ∨ CMulW i j := .inl (.inr h)
theorem e_roll {d : Nat} {M : AH} {n : Int} (h : Dc d M) (hn : 0 < n) (hn2 : n.natAbs.log2 < 9000) : ∃ r M', 0 ≤ r ∧ r < n ∧ Mv d M M' ∧ F__law_roll [.ref d, .int n] M = .ok (.int r) M' := by
  have hlt := h.lt
  obtain ⟨x, y, z, hM⟩ := h
  have hcd : ∀ j, CDivW j n := fun j => ⟨hn, hn2⟩
  by_cases hx : 0 < x
  · have m : Mv d M (M.set d (.lst [.int (x / n), .int y, .int z])) := ⟨_, _, _, rfl⟩
    have hf := fin_mv0 (v := .int (x % n)) m hlt (by simp)
    refine ⟨x % n, _, Int.emod_nonneg _ (by omega), Int.emod_lt_of_pos _ hn, m, ?_⟩
    simp [F__law_roll, fnF, fnK, fSeq, fRet, fRetN, fAsg, fgName, fDrop, fNext, fNever, fIfS, fPar, fFor, fAndV, fOrV, fNotV, fNotW, fAnd, fOr, fNot, fTest, fTru, fIf, fChain, fOp, fUn, fCB, fCons, fNil, fTup, fLst, fCall, fVar, fC, fSl, fPart, fNoPart, fBM, fM0, fM1, mAsk, fFld, fMeth, fPropN, fCMeth, fDNew, fDGet2, fDGet, fDPut, fLc, fYes, fiList, fiTup, bind_ok, thenS_ok, asB_bl, j_ii, j_ib, j_ss, j_tt, gLt, gLe, gGt, gGe, gCmp, gAdd, gSubI, gMul, gMod, gDiv, gEq, gNe, gEqB, refD, scalEq, gLen, gAbs, gMax, gMin, gTuple, gIxS, tupOf, outS, fin_same, thenG, loopS, truD_bl, truD_tup, fgTup, fgCons, fgNil, gIxS, tupOf, G.listOf, hM, hx, gInt, hn, hcd, fgSub, ixN, atI, hf]
  · have b1 := Int.emod_lt_of_pos (y + 67867967 * (z + 1)) (show (0 : Int) < 2305843009213693561 by decide)
    have b2 := Int.emod_nonneg (y + 67867967 * (z + 1)) (show (2305843009213693561 : Int) ≠ 0 by decide)
    have c1 : CMul 67867967 (z + 1) ∨ CMulW 67867967 (z + 1) := cm_l (by decide)
    have c2 : CMul 101 (z + 1) ∨ CMulW 101 (z + 1) := cm_l (by decide)
    have c3 : ∀ i, CMul i 7368847 ∨ CMulW i 7368847 := fun i => cm_r (by decide)
    have c4 : CMul ((y + 67867967 * (z + 1)) % 2305843009213693561) ((y + 67867967 * (z + 1)) % 2305843009213693561) ∨ CMulW ((y + 67867967 * (z + 1)) % 2305843009213693561) ((y + 67867967 * (z + 1)) % 2305843009213693561) := cm_l (by omega)
    have c5 : ∀ i, CDivW i 65536 := fun i => ⟨by decide, by decide⟩
    have m : Mv d M (M.set d (.lst [.int x, .int y, .int (z + 1)])) := ⟨_, _, _, rfl⟩
    generalize hw : (y + 67867967 * (z + 1)) % 2305843009213693561 = w at c4
    have hf := fun r : Int => fin_mv0 (v := .int r) m hlt (by simp)
    refine ⟨(((w * w + 101 * (z + 1)) % 2305843009213693907 * 7368847 + w) / 65536) % n, _, Int.emod_nonneg _ (by omega), Int.emod_lt_of_pos _ hn, m, ?_⟩
    simp [F__law_roll, fnF, fnK, fSeq, fRet, fRetN, fAsg, fgName, fDrop, fNext, fNever, fIfS, fPar, fFor, fAndV, fOrV, fNotV, fNotW, fAnd, fOr, fNot, fTest, fTru, fIf, fChain, fOp, fUn, fCB, fCons, fNil, fTup, fLst, fCall, fVar, fC, fSl, fPart, fNoPart, fBM, fM0, fM1, mAsk, fFld, fMeth, fPropN, fCMeth, fDNew, fDGet2, fDGet, fDPut, fLc, fYes, fiList, fiTup, bind_ok, thenS_ok, asB_bl, j_ii, j_ib, j_ss, j_tt, gLt, gLe, gGt, gGe, gCmp, gAdd, gSubI, gMul, gMod, gDiv, gEq, gNe, gEqB, refD, scalEq, gLen, gAbs, gMax, gMin, gTuple, gIxS, tupOf, outS, fin_same, thenG, loopS, truD_bl, truD_tup, fgTup, fgCons, fgNil, gIxS, tupOf, G.listOf, hM, hx, gInt, hn, hcd, fgSub, ixN, atI, List.getElem?_set_self hlt, c1, c2, c3, hw, c4, c5, hf]
end K01
namespace K01
open PySem L2 G
theorem e_pick {d l : Nat} {M : AH} (h : Dc d M) (hl : M[l]? = some (.lst [.int 2, .int 4, .int 90000])) (hne : l ≠ d) : ∃ v M', 1 ≤ v ∧ v ≤ 90000 ∧ Mv d M M' ∧ F__law_pick [.ref d, .ref l] M = .ok (.int v) M' := by
  obtain ⟨r, M', r0, r1, m, e⟩ := e_roll (n := 3) h (by decide) (by decide)
  have hl' : M'[l]? = some (.lst [.int 2, .int 4, .int 90000]) := by rw [m.old hne, hl]
  have hr : r = 0 ∨ r = 1 ∨ r = 2 := by omega
  have hf := fun v : Int => fin_mv0 (v := .int v) m h.lt (by simp)
  rcases hr with rfl | rfl | rfl
  · exact ⟨2, M', by decide, by decide, m, by simp [F__law_pick, fnF, fnK, fSeq, fRet, fRetN, fAsg, fgName, fDrop, fNext, fNever, fIfS, fPar, fFor, fAndV, fOrV, fNotV, fNotW, fAnd, fOr, fNot, fTest, fTru, fIf, fChain, fOp, fUn, fCB, fCons, fNil, fTup, fLst, fCall, fVar, fC, fSl, fPart, fNoPart, fBM, fM0, fM1, mAsk, fFld, fMeth, fPropN, fCMeth, fDNew, fDGet2, fDGet, fDPut, fLc, fYes, fiList, fiTup, bind_ok, thenS_ok, asB_bl, j_ii, j_ib, j_ss, j_tt, gLt, gLe, gGt, gGe, gCmp, gAdd, gSubI, gMul, gMod, gDiv, gEq, gNe, gEqB, refD, scalEq, gLen, gAbs, gMax, gMin, gTuple, gIxS, tupOf, outS, fin_same, thenG, loopS, truD_bl, truD_tup, fgTup, fgCons, fgNil, tupOf, G.listOf, hl, e, gIxS, hl', atI, ixN, hf]⟩
  · exact ⟨4, M', by decide, by decide, m, by simp [F__law_pick, fnF, fnK, fSeq, fRet, fRetN, fAsg, fgName, fDrop, fNext, fNever, fIfS, fPar, fFor, fAndV, fOrV, fNotV, fNotW, fAnd, fOr, fNot, fTest, fTru, fIf, fChain, fOp, fUn, fCB, fCons, fNil, fTup, fLst, fCall, fVar, fC, fSl, fPart, fNoPart, fBM, fM0, fM1, mAsk, fFld, fMeth, fPropN, fCMeth, fDNew, fDGet2, fDGet, fDPut, fLc, fYes, fiList, fiTup, bind_ok, thenS_ok, asB_bl, j_ii, j_ib, j_ss, j_tt, gLt, gLe, gGt, gGe, gCmp, gAdd, gSubI, gMul, gMod, gDiv, gEq, gNe, gEqB, refD, scalEq, gLen, gAbs, gMax, gMin, gTuple, gIxS, tupOf, outS, fin_same, thenG, loopS, truD_bl, truD_tup, fgTup, fgCons, fgNil, tupOf, G.listOf, hl, e, gIxS, hl', atI, ixN, hf]⟩
  · exact ⟨90000, M', by decide, by decide, m, by simp [F__law_pick, fnF, fnK, fSeq, fRet, fRetN, fAsg, fgName, fDrop, fNext, fNever, fIfS, fPar, fFor, fAndV, fOrV, fNotV, fNotW, fAnd, fOr, fNot, fTest, fTru, fIf, fChain, fOp, fUn, fCB, fCons, fNil, fTup, fLst, fCall, fVar, fC, fSl, fPart, fNoPart, fBM, fM0, fM1, mAsk, fFld, fMeth, fPropN, fCMeth, fDNew, fDGet2, fDGet, fDPut, fLc, fYes, fiList, fiTup, bind_ok, thenS_ok, asB_bl, j_ii, j_ib, j_ss, j_tt, gLt, gLe, gGt, gGe, gCmp, gAdd, gSubI, gMul, gMod, gDiv, gEq, gNe, gEqB, refD, scalEq, gLen, gAbs, gMax, gMin, gTuple, gIxS, tupOf, outS, fin_same, thenG, loopS, truD_bl, truD_tup, fgTup, fgCons, fgNil, tupOf, G.listOf, hl, e, gIxS, hl', atI, ixN, hf]⟩
theorem e_some {d l : Nat} {M : AH} {xs : List Str} (h : Dc d M) (hl : M[l]? = some (.lst (xs.map .str))) (hne : l ≠ d) (hx : xs.length ≤ 600) :
    ∃ ks M', List.Sublist ks xs ∧ Mv d M M' ∧ F__law_some [.ref d, .ref l] M = .ok (.lst (ks.map .str)) M' := by
  obtain ⟨ps, M', q1, q2, q3, q4⟩ := lc_ex (chk := stands l (xs.map .str)) (g := fgName 2) (t := fTest (fOp gEq (fCall F__law_roll (fCons (fVar 0) (fCons (fC (.int 2)) fNil))) (fC (.int 0)))) (e := fVar 2)
    (δ := [some (.ref d), some (.ref l), none]) D.str D.str (fun M' => Mv d M M') (fun a b => b = a)
    (fun M1 m => by
      have : M1[l]? = _ := m.old hne
      simp [stands, this, hl, D.beqL_refl])
    (fun a M1 m => by
      obtain ⟨r, M2, r0, r1, m2, e⟩ := e_roll (n := 2) (m.dc h.lt) (by decide) (by decide)
      refine ⟨[some (.ref d), some (.ref l), some (.str a)], M1, rfl, ?_⟩
      by_cases hr : r = 0
      · subst hr
        exact .inr ⟨M2, a, M2, by simp [fnF, fnK, fSeq, fRet, fRetN, fAsg, fgName, fDrop, fNext, fNever, fIfS, fPar, fFor, fAndV, fOrV, fNotV, fNotW, fAnd, fOr, fNot, fTest, fTru, fIf, fChain, fOp, fUn, fCB, fCons, fNil, fTup, fLst, fCall, fVar, fC, fSl, fPart, fNoPart, fBM, fM0, fM1, mAsk, fFld, fMeth, fPropN, fCMeth, fDNew, fDGet2, fDGet, fDPut, fLc, fYes, fiList, fiTup, bind_ok, thenS_ok, asB_bl, j_ii, j_ib, j_ss, j_tt, gLt, gLe, gGt, gGe, gCmp, gAdd, gSubI, gMul, gMod, gDiv, gEq, gNe, gEqB, refD, scalEq, gLen, gAbs, gMax, gMin, gTuple, gIxS, tupOf, outS, fin_same, thenG, loopS, truD_bl, truD_tup, fgTup, fgCons, fgNil, e], by simp [fnF, fnK, fSeq, fRet, fRetN, fAsg, fgName, fDrop, fNext, fNever, fIfS, fPar, fFor, fAndV, fOrV, fNotV, fNotW, fAnd, fOr, fNot, fTest, fTru, fIf, fChain, fOp, fUn, fCB, fCons, fNil, fTup, fLst, fCall, fVar, fC, fSl, fPart, fNoPart, fBM, fM0, fM1, mAsk, fFld, fMeth, fPropN, fCMeth, fDNew, fDGet2, fDGet, fDPut, fLc, fYes, fiList, fiTup, bind_ok, thenS_ok, asB_bl, j_ii, j_ib, j_ss, j_tt, gLt, gLe, gGt, gGe, gCmp, gAdd, gSubI, gMul, gMod, gDiv, gEq, gNe, gEqB, refD, scalEq, gLen, gAbs, gMax, gMin, gTuple, gIxS, tupOf, outS, fin_same, thenG, loopS, truD_bl, truD_tup, fgTup, fgCons, fgNil], rfl, m.tr m2⟩
      · exact .inl ⟨M2, by simp [fnF, fnK, fSeq, fRet, fRetN, fAsg, fgName, fDrop, fNext, fNever, fIfS, fPar, fFor, fAndV, fOrV, fNotV, fNotW, fAnd, fOr, fNot, fTest, fTru, fIf, fChain, fOp, fUn, fCB, fCons, fNil, fTup, fLst, fCall, fVar, fC, fSl, fPart, fNoPart, fBM, fM0, fM1, mAsk, fFld, fMeth, fPropN, fCMeth, fDNew, fDGet2, fDGet, fDPut, fLc, fYes, fiList, fiTup, bind_ok, thenS_ok, asB_bl, j_ii, j_ib, j_ss, j_tt, gLt, gLe, gGt, gGe, gCmp, gAdd, gSubI, gMul, gMod, gDiv, gEq, gNe, gEqB, refD, scalEq, gLen, gAbs, gMax, gMin, gTuple, gIxS, tupOf, outS, fin_same, thenG, loopS, truD_bl, truD_tup, fgTup, fgCons, fgNil, e, hr], m.tr m2⟩)
    xs [] M (size600 (by simpa using hx)) h.mv
  have hk : (ps.map fun p => D.str p.2) = (ps.map (·.1)).map D.str := by
    rw [List.map_map]
    exact List.map_congr_left fun p hp => by rw [q2 p hp]; rfl
  rw [hk, List.nil_append] at q4
  have hf := fin_mvL (xs := (ps.map (·.1)).map D.str) q3 h.lt (cloL_all fun d hd => by
    obtain ⟨z, _, rfl⟩ := List.mem_map.mp hd
    simp)
  refine ⟨_, M', q1, q3, ?_⟩
  generalize (ps.map (·.1)).map D.str = Z at q4 hf ⊢
  generalize hX : xs.map D.str = X at *
  simp only [gEq] at q4
  simp [F__law_some, fnF, fnK, fSeq, fRet, fRetN, fAsg, fgName, fDrop, fNext, fNever, fIfS, fPar, fFor, fAndV, fOrV, fNotV, fNotW, fAnd, fOr, fNot, fTest, fTru, fIf, fChain, fOp, fUn, fCB, fCons, fNil, fTup, fLst, fCall, fVar, fC, fSl, fPart, fNoPart, fBM, fM0, fM1, mAsk, fFld, fMeth, fPropN, fCMeth, fDNew, fDGet2, fDGet, fDPut, fLc, fYes, fiList, fiTup, bind_ok, thenS_ok, asB_bl, j_ii, j_ib, j_ss, j_tt, gLt, gLe, gGt, gGe, gCmp, gAdd, gSubI, gMul, gMod, gDiv, gEq, gNe, gEqB, refD, scalEq, gLen, gAbs, gMax, gMin, gTuple, gIxS, tupOf, outS, fin_same, thenG, loopS, truD_bl, truD_tup, fgTup, fgCons, fgNil, itmOf, hl, wipeD, q4, hf]
theorem srt_pw {m : List Row} : ∀ {x : Str}, (m.map (·.1)).Pairwise (fun a b => tl a < tl b) → (∀ p ∈ m, kindB p.1 = true ∧ 1 ≤ p.2 ∧ tl x < tl p.1) → Srt x m := by
  induction m with
  | nil => intro x _ _; trivial
  | cons p r ih =>
    intro x h1 h2
    simp only [List.map_cons, List.pairwise_cons] at h1
    obtain ⟨a, b, c⟩ := h2 p (List.mem_cons_self ..)
    refine ⟨a, c, b, ih h1.2 fun q hq => ?_⟩
    obtain ⟨a', b', _⟩ := h2 q (List.mem_cons_of_mem _ hq)
    exact ⟨a', b', h1.1 _ (List.mem_map.mpr ⟨q, hq, rfl⟩)⟩
def six : List Str := [Str.ofString "a", Str.ofString "b1", Str.ofString "core", Str.ofString "gpu", Str.ofString "mem", Str.ofString "x"]
theorem six_pw : six.Pairwise (fun a b => tl a < tl b) := by decide +kernel
theorem six_kind : ∀ k ∈ six, kindB k = true := by decide +kernel
theorem e_drawn {d : Nat} {M : AH} (h : Dc d M) : ∃ m M', A 6 90000 m ∧ Mv d M M' ∧ F__law_drawn [.ref d] M = .ok (amt m) M' := by
  have z2 : 2 ≤ sizeLine := size600 (by decide)
  have z3 : 3 ≤ sizeLine := size600 (by decide)
  have z6 : 6 ≤ sizeLine := size600 (by decide)
  have hlt := h.lt
  obtain ⟨ks, M1', k1, n1, e1⟩ := e_some (l := M.length) (xs := six) (h.app [.lst (six.map .str)]) (by simp) (by omega) (by decide)
  obtain ⟨M1, m1, rfl⟩ := n1.app hlt
  have l1 := m1.len
  have h1 := m1.dc hlt
  have hlt1 := h1.lt
  obtain ⟨v, M2', v0, v1, n2, e2⟩ := e_pick (l := M1.length + 1) (h1.app [.lst (six.map .str), .lst [.int 2, .int 4, .int 90000]]) (by simp) (by omega)
  obtain ⟨M2, m2, rfl⟩ := n2.app hlt1
  have l2 := m2.len
  have h2 := m2.dc hlt1
  have hlt2 := h2.lt
  obtain ⟨ps, M3', q1, q2, ⟨M3, m3, rfl⟩, q4⟩ := lc_exm (chk := fun _ => true) (g := fgName 3) (t := fYes) (e := fTup (fCons (fVar 3) (fCons (fOp gAdd (fC (.int 1)) (fCall F__law_roll (fCons (fVar 0) (fCons (fVar 2) fNil)))) fNil)))
    (δ := [some (.ref d), some (.lst (ks.map .str)), some (.int v), none]) D.str pr (fun M' => ∃ M3, Mv d M2 M3 ∧ M' = M3 ++ [.lst (six.map .str), .lst [.int 2, .int 4, .int 90000]]) (fun (k : Str) (p : Row) => p.1 = k ∧ 1 ≤ p.2 ∧ p.2 ≤ 90000)
    (fun _ _ => rfl)
    (fun a M' ⟨M3, m3, hM'⟩ => by
      subst hM'
      obtain ⟨r, M4', r0, r1, n4, e⟩ := e_roll (n := v) ((m3.dc hlt2).app [.lst (six.map .str), .lst [.int 2, .int 4, .int 90000]]) (by omega) (by
        have h0 : v.natAbs ≠ 0 := by omega
        have : v.natAbs.log2 < 17 := (Nat.log2_lt h0).mpr (by omega)
        omega)
      obtain ⟨M4, m4, rfl⟩ := n4.app (m3.dc hlt2).lt
      exact ⟨[some (.ref d), some (.lst (ks.map .str)), some (.int v), some (.str a)], _, rfl, _, (a, 1 + r), _, rfl, by simp [fnF, fnK, fSeq, fRet, fRetN, fAsg, fgName, fDrop, fNext, fNever, fIfS, fPar, fFor, fAndV, fOrV, fNotV, fNotW, fAnd, fOr, fNot, fTest, fTru, fIf, fChain, fOp, fUn, fCB, fCons, fNil, fTup, fLst, fCall, fVar, fC, fSl, fPart, fNoPart, fBM, fM0, fM1, mAsk, fFld, fMeth, fPropN, fCMeth, fDNew, fDGet2, fDGet, fDPut, fLc, fYes, fiList, fiTup, bind_ok, thenS_ok, asB_bl, j_ii, j_ib, j_ss, j_tt, gLt, gLe, gGt, gGe, gCmp, gAdd, gSubI, gMul, gMod, gDiv, gEq, gNe, gEqB, refD, scalEq, gLen, gAbs, gMax, gMin, gTuple, gIxS, tupOf, outS, fin_same, thenG, loopS, truD_bl, truD_tup, fgTup, fgCons, fgNil, e, pr, z2], ⟨rfl, by show (1:Int) ≤ 1 + r; omega, by show 1 + r ≤ 90000; omega⟩, M4, m3.tr m4, rfl⟩)
    ks [] _ (size600 (by have := k1.length_le; simp [six] at this ⊢; omega)) ⟨M2, h2.mv, rfl⟩
  have hm : (ps.map fun p => pr p.2) = (ps.map (·.2)).map pr := by rw [List.map_map]; rfl
  rw [hm, List.nil_append] at q4
  have hks : (ps.map (·.2)).map (·.1) = ks := by
    rw [← q1, List.map_map]
    exact List.map_congr_left fun p hp => (q2 p hp).1
  have hlen : (ps.map (·.2)).length ≤ 6 := by
    have := k1.length_le
    rw [← hks] at this
    simpa [six] using this
  have hall : ∀ p ∈ ps.map (·.2), 1 ≤ p.2 ∧ p.2 ≤ 90000 := fun p hp => by
    obtain ⟨q, hq, rfl⟩ := List.mem_map.mp hp
    exact (q2 q hq).2
  generalize ps.map (·.2) = m at q4 hks hlen hall
  have hA : A 6 90000 m := ⟨srt_pw (by rw [hks]; exact six_pw.sublist k1) fun p hp => by
    have := six_kind p.1 (k1.subset (by rw [← hks]; exact List.mem_map.mpr ⟨p, hp, rfl⟩))
    exact ⟨this, (hall p hp).1, kind_pos this⟩, hlen, fun p hp => (hall p hp).2⟩
  have mm := (m1.tr m2).tr m3
  have l3 := m3.len
  have hf := fin_mv [.lst (six.map .str), .lst [.int 2, .int 4, .int 90000], .lst (m.map pr)] mm hlt (v := amt m) clo_amt
  have hmk := e_mk m (M3 ++ [.lst (six.map .str), .lst [.int 2, .int 4, .int 90000], .lst (m.map pr)]) (hA.ok (by decide) (by decide))
  refine ⟨m, M3, hA, mm, ?_⟩
  simp [six] at e1 e2 q4 hf hmk
  simp [F__law_drawn, fnF, fnK, fSeq, fRet, fRetN, fAsg, fgName, fDrop, fNext, fNever, fIfS, fPar, fFor, fAndV, fOrV, fNotV, fNotW, fAnd, fOr, fNot, fTest, fTru, fIf, fChain, fOp, fUn, fCB, fCons, fNil, fTup, fLst, fCall, fVar, fC, fSl, fPart, fNoPart, fBM, fM0, fM1, mAsk, fFld, fMeth, fPropN, fCMeth, fDNew, fDGet2, fDGet, fDPut, fLc, fYes, fiList, fiTup, bind_ok, thenS_ok, asB_bl, j_ii, j_ib, j_ss, j_tt, gLt, gLe, gGt, gGe, gCmp, gAdd, gSubI, gMul, gMod, gDiv, gEq, gNe, gEqB, refD, scalEq, gLen, gAbs, gMax, gMin, gTuple, gIxS, tupOf, outS, fin_same, thenG, loopS, truD_bl, truD_tup, fgTup, fgCons, fgNil, z3, z6, e1, e2, itmOf, wipeD, q4, G.listOf, fMk, hmk, hf]
end K01
namespace K01
open PySem L2 G
theorem gNe_bl {x y : Bool} {M : AH} : gNe (.bl x) (.bl y) M = .ok (.bl (x != y)) M := by cases x <;> cases y <;> rfl
theorem gEq_bl {x y : Bool} {M : AH} : gEq (.bl x) (.bl y) M = .ok (.bl (x == y)) M := by cases x <;> cases y <;> rfl
theorem gEq_int {x y : Int} {M : AH} : gEq (.int x) (.int y) M = .ok (.bl (decide (x = y))) M := by
  simp [gEq, gEqB, refD, scalEq]
theorem e_pair {d l : Nat} {x2 : Option D} {a b c : List Row} {xs : List D} {M : AH} (ha : A 12 180000 a) (hb : A 12 180000 b) (hc : A 12 180000 c) (hl : M[l]? = some (.lst xs)) (h3 : atI xs 3 = some (amt c)) :
    L__law_right_1 [some (.ref d), some (.ref l), x2, some (amt a), some (amt b)] M = .nx [some (.ref d), some (.ref l), x2, some (amt a), some (amt b)] M := by
  have la := ha.len
  have lb := hb.len
  have k1 := ha.ok (by decide) (by decide)
  have k2 := hb.ok (by decide) (by decide)
  have hlk := ha.lack hb
  have llk := hlk.len
  have e1 := fun M => e_lacks a b M (by omega) (hlk.ok (by decide) (by decide))
  have e2 := fun M => e_len_own (lack a b) M (by omega)
  have hcv : lack a b = [] ↔ cov a b = true := by
    unfold cov
    exact isE.symm
  have w1 := fun M => e_cov a b M (by omega)
  have o1 := fun M => @o_eq a b M k1 k2
  have p1 := fun M => @eq_tups a b M k1 k2 false
  have s1 := fun M => e_sums ha hb hc M
  have s2 := fun M => e_cov3 ha hb hc M
  have s3 := fun M => e_often ha hb M
  have hsub : cov a b = true → ∀ M, gOwn "Amounts" F_Amounts___sub__ (amt a) (amt b) M = .ok (amt (lack b a)) M := fun h => (e_sub ha hb (by decide) (by decide) (by decide) ((cov_iff ha hb).mp h)).2.2
  have hadd : cov a b = true → ∀ M, gOwn "Amounts" F_Amounts___add__ (amt (lack b a)) (amt b) M = .ok (amt a) M := fun h => by
    obtain ⟨h1, h2, _⟩ := e_sub ha hb (by decide) (by decide) (by decide) ((cov_iff ha hb).mp h)
    obtain ⟨t, ht, gt, et⟩ := e_add h1 hb (by decide) (by decide) (by decide) (by decide)
    have : t = a := ht.ext ha fun k => by rw [gt, h2]; omega
    rw [this] at et
    exact et
  have on := fun M => @o_ne a a M k1 k1
  have p1' : ∀ M, gEq (.tup (a.map pr)) (.tup (b.map pr)) M = .ok (.bl (decide (a = b))) M := fun M => by
    have := p1 M
    simpa [gEq] using this
  generalize hx : decide (a = b) = x at o1 p1'
  generalize hy : cov a b = y at w1 hcv hsub hadd
  clear hx hy p1
  have q0 : (x != x) = false := by cases x <;> rfl
  have q1 : (y != y) = false := by cases y <;> rfl
  cases y
  · simp [L__law_right_1, fnF, fnK, fSeq, fRet, fRetN, fAsg, fgName, fDrop, fNext, fNever, fIfS, fPar, fFor, fAndV, fOrV, fNotV, fNotW, fAnd, fOr, fNot, fTest, fTru, fIf, fChain, fOp, fUn, fCB, fCons, fNil, fTup, fLst, fCall, fVar, fC, fSl, fPart, fNoPart, fBM, fM0, fM1, mAsk, fFld, fMeth, fPropN, fCMeth, fDNew, fDGet2, fDGet, fDPut, fLc, fYes, fiList, fiTup, bind_ok, thenS_ok, asB_bl, j_ii, j_ib, j_ss, j_tt, gLt, gLe, gGt, gGe, gCmp, gAdd, gSubI, gMul, gMod, gDiv, gLen, gAbs, gMax, gMin, gTuple, gIxS, tupOf, outS, fin_same, thenG, loopS, truD_bl, truD_tup, fgTup, fgCons, fgNil, obj_amt, e_prop, o1, p1', gNe_bl, q0, w1, e1, e2, gEq_int, hcv, s1, s2, s3, gIxS, tupOf, G.listOf, hl, h3]
  · simp [L__law_right_1, fnF, fnK, fSeq, fRet, fRetN, fAsg, fgName, fDrop, fNext, fNever, fIfS, fPar, fFor, fAndV, fOrV, fNotV, fNotW, fAnd, fOr, fNot, fTest, fTru, fIf, fChain, fOp, fUn, fCB, fCons, fNil, fTup, fLst, fCall, fVar, fC, fSl, fPart, fNoPart, fBM, fM0, fM1, mAsk, fFld, fMeth, fPropN, fCMeth, fDNew, fDGet2, fDGet, fDPut, fLc, fYes, fiList, fiTup, bind_ok, thenS_ok, asB_bl, j_ii, j_ib, j_ss, j_tt, gLt, gLe, gGt, gGe, gCmp, gAdd, gSubI, gMul, gMod, gDiv, gLen, gAbs, gMax, gMin, gTuple, gIxS, tupOf, outS, fin_same, thenG, loopS, truD_bl, truD_tup, fgTup, fgCons, fgNil, obj_amt, e_prop, o1, p1', gNe_bl, q0, w1, e1, e2, gEq_int, hcv, s1, s2, s3, gIxS, tupOf, G.listOf, hl, h3, hsub rfl, hadd rfl, on]
end K01
namespace K01
open PySem L2 G
theorem at5 {a b c d e : D} : atI [a, b, c, d, e] 3 = some d := by simp [atI, ixN]
theorem e_inner {d l : Nat} {x2 x4 : Option D} {a c : List Row} {xs : List (List Row)} {M : AH} (ha : A 12 180000 a) (hc : A 12 180000 c) (hx : ∀ b ∈ xs, A 12 180000 b) (hl : M[l]? = some (.lst (xs.map amt))) (h3 : atI (xs.map amt) 3 = some (amt c)) :
    ∃ x4', L__law_right_2 [some (.ref d), some (.ref l), x2, some (amt a), x4] M = .nx [some (.ref d), some (.ref l), x2, some (amt a), x4'] M := by
  obtain ⟨δ', M', h1, ⟨x4', rfl⟩, rfl, _⟩ := for_ex (chk := stands l (xs.map amt)) (g := fgName 4) (b := L__law_right_1) amt
    (fun rest δ M' => (∃ x4', δ = [some (.ref d), some (.ref l), x2, some (amt a), x4']) ∧ M' = M ∧ ∀ b ∈ rest, A 12 180000 b)
    (fun r δ M' h => by simp [stands, h.2.1, hl, D.beqL_refl])
    (fun b r δ M' ⟨⟨x4', h⟩, h', h''⟩ => by
      subst h
      subst h'
      exact ⟨[some (.ref d), some (.ref l), x2, some (amt a), some (amt b)], M', _, M', rfl, .inl (e_pair ha (h'' b (List.mem_cons_self ..)) hc hl h3), ⟨_, rfl⟩, rfl, fun z hz => h'' z (List.mem_cons_of_mem _ hz)⟩)
    xs [some (.ref d), some (.ref l), x2, some (amt a), x4] M ⟨⟨_, rfl⟩, rfl, hx⟩
  refine ⟨x4', ?_⟩
  simp [L__law_right_2, fnF, fnK, fSeq, fRet, fRetN, fAsg, fgName, fDrop, fNext, fNever, fIfS, fPar, fFor, fAndV, fOrV, fNotV, fNotW, fAnd, fOr, fNot, fTest, fTru, fIf, fChain, fOp, fUn, fCB, fCons, fNil, fTup, fLst, fCall, fVar, fC, fSl, fPart, fNoPart, fBM, fM0, fM1, mAsk, fFld, fMeth, fPropN, fCMeth, fDNew, fDGet2, fDGet, fDPut, fLc, fYes, fiList, fiTup, bind_ok, thenS_ok, asB_bl, j_ii, j_ib, j_ss, j_tt, gLt, gLe, gGt, gGe, gCmp, gAdd, gSubI, gMul, gMod, gDiv, gEq, gNe, gEqB, refD, scalEq, gLen, gAbs, gMax, gMin, gTuple, gIxS, tupOf, outS, fin_same, thenG, loopS, truD_bl, truD_tup, fgTup, fgCons, fgNil, itmOf, hl, h1]
theorem e_right {d : Nat} {M : AH} (h : Dc d M) : ∃ M', Mv d M M' ∧ F__law_right [.ref d] M = .ok (.bl true) M' := by
  have hlt := h.lt
  obtain ⟨ps, M1, q1, q2, q3, q4⟩ := lc_exm (chk := fun _ => true) (g := fgName 2) (t := fYes) (e := fCall F__law_drawn (fCons (fVar 0) fNil))
    (δ := [some (.ref d), none, none, none, none]) (fun i : Nat => D.int (i : Int)) amt (fun M' => Mv d M M') (fun _ m => A 6 90000 m)
    (fun _ _ => rfl)
    (fun i M1 m => by
      obtain ⟨a, M2, hA, m2, e⟩ := e_drawn (m.dc hlt)
      exact ⟨_, M1, rfl, M1, a, M2, rfl, by simp [fnF, fnK, fSeq, fRet, fRetN, fAsg, fgName, fDrop, fNext, fNever, fIfS, fPar, fFor, fAndV, fOrV, fNotV, fNotW, fAnd, fOr, fNot, fTest, fTru, fIf, fChain, fOp, fUn, fCB, fCons, fNil, fTup, fLst, fCall, fVar, fC, fSl, fPart, fNoPart, fBM, fM0, fM1, mAsk, fFld, fMeth, fPropN, fCMeth, fDNew, fDGet2, fDGet, fDPut, fLc, fYes, fiList, fiTup, bind_ok, thenS_ok, asB_bl, j_ii, j_ib, j_ss, j_tt, gLt, gLe, gGt, gGe, gCmp, gAdd, gSubI, gMul, gMod, gDiv, gEq, gNe, gEqB, refD, scalEq, gLen, gAbs, gMax, gMin, gTuple, gIxS, tupOf, outS, fin_same, thenG, loopS, truD_bl, truD_tup, fgTup, fgCons, fgNil, e], hA, m.tr m2⟩)
    (List.range 4) [] M (size600 (by decide)) h.mv
  have hlen : (ps.map (·.2)).length = 4 := by
    have := congrArg List.length q1
    simpa using this
  have hall : ∀ m ∈ ps.map (·.2), A 6 90000 m := fun m hm => by
    obtain ⟨p, hp, rfl⟩ := List.mem_map.mp hm
    exact q2 p hp
  have hm : (ps.map fun p => amt p.2) = (ps.map (·.2)).map amt := by rw [List.map_map]; rfl
  rw [hm, List.nil_append] at q4
  generalize ps.map (·.2) = ms at q4 hlen hall
  obtain ⟨a0, a1, a2, a3, rfl⟩ : ∃ a0 a1 a2 a3, ms = [a0, a1, a2, a3] := by
    match ms, hlen with
    | [a, b, c, d], _ => exact ⟨a, b, c, d, rfl⟩
  have b0 := hall a0 (by simp)
  have b1 := hall a1 (by simp)
  obtain ⟨s, hs, gs, es⟩ := e_add b0 b1 (by decide) (by decide) (by decide) (by decide)
  have up : ∀ m ∈ [a0, a1, a2, a3, s], A 12 180000 m := fun m hm => by
    rcases List.mem_cons.mp hm with rfl | hm
    · exact b0.mono (by decide) (by decide)
    · rcases List.mem_cons.mp hm with rfl | hm
      · exact b1.mono (by decide) (by decide)
      · rcases List.mem_cons.mp hm with rfl | hm
        · exact (hall _ (by simp)).mono (by decide) (by decide)
        · rcases List.mem_cons.mp hm with rfl | hm
          · exact (hall _ (by simp)).mono (by decide) (by decide)
          · rcases List.mem_cons.mp hm with rfl | hm
            · exact hs
            · cases hm
  have hl5 : (M1 ++ [AO.lst ([a0, a1, a2, a3, s].map amt), AO.lst ([a0, a1, a2].map amt)])[M1.length]? = some (.lst ([a0, a1, a2, a3, s].map amt)) := by simp
  have hl3 : (M1 ++ [AO.lst ([a0, a1, a2, a3, s].map amt), AO.lst ([a0, a1, a2].map amt)])[M1.length + 1]? = some (.lst ([a0, a1, a2].map amt)) := by simp
  obtain ⟨δ', M', h1, ⟨x2, x3, x4, rfl⟩, hM', _⟩ := for_ex (chk := stands (M1.length + 1) ([a0, a1, a2].map amt)) (g := fgName 3) (b := L__law_right_2) amt
    (fun rest δ M' => (∃ x2 x3 x4, δ = [some (.ref d), some (.ref M1.length), x2, x3, x4]) ∧ M' = M1 ++ [AO.lst ([a0, a1, a2, a3, s].map amt), AO.lst ([a0, a1, a2].map amt)] ∧ ∀ b ∈ rest, A 12 180000 b)
    (fun r δ M' h => by rw [h.2.1]; unfold stands; rw [hl3]; exact D.beqL_refl _)
    (fun b r δ M' ⟨⟨x2, x3, x4, h⟩, h', h''⟩ => by
      subst h
      subst h'
      obtain ⟨x4', e⟩ := e_inner (d := d) (x2 := x2) (x4 := x4) (h'' b (List.mem_cons_self ..)) (up a3 (by simp)) up hl5 at5
      exact ⟨[some (.ref d), some (.ref M1.length), x2, some (amt b), x4], _, _, _, rfl, .inl e, ⟨_, _, _, rfl⟩, rfl, fun z hz => h'' z (List.mem_cons_of_mem _ hz)⟩)
    [a0, a1, a2] [some (.ref d), some (.ref M1.length), none, none, none] _ ⟨⟨_, _, _, rfl⟩, rfl, fun b hb => up b (by
      simp only [List.mem_cons, List.not_mem_nil, or_false] at hb ⊢
      rcases hb with h | h | h <;> simp [h])⟩
  subst hM'
  have l0 := (up a0 (by simp)).len
  have l1 := (up a1 (by simp)).len
  have c0 : ∀ M, F_Amounts_covers [amt s, amt a0] M = .ok (.bl true) M := fun M => by
    rw [e_cov _ _ _ (by omega), (cov_iff hs b0).mpr fun k => by have := b1.nn k; rw [gs]; omega]
  have c1 : ∀ M, F_Amounts_covers [amt s, amt a1] M = .ok (.bl true) M := fun M => by
    rw [e_cov _ _ _ (by omega), (cov_iff hs b1).mpr fun k => by have := b0.nn k; rw [gs]; omega]
  have hf := fin_mv [AO.lst ([a0, a1, a2, a3, s].map amt), AO.lst ([a0, a1, a2].map amt)] q3 hlt (v := .bl true) (by simp)
  have z4 : 4 < sizeLine := size600 (by decide)
  refine ⟨M1, q3, ?_⟩
  have hcut : cutD [amt a0, amt a1, amt a2, amt a3, amt s] none (some 3) = [amt a0, amt a1, amt a2] := rfl
  simp only [List.map_cons, List.map_nil] at h1 hf q4
  simp [F__law_right, fnF, fnK, fSeq, fRet, fRetN, fAsg, fgName, fDrop, fNext, fNever, fIfS, fPar, fFor, fAndV, fOrV, fNotV, fNotW, fAnd, fOr, fNot, fTest, fTru, fIf, fChain, fOp, fUn, fCB, fCons, fNil, fTup, fLst, fCall, fVar, fC, fSl, fPart, fNoPart, fBM, fM0, fM1, mAsk, fFld, fMeth, fPropN, fCMeth, fDNew, fDGet2, fDGet, fDPut, fLc, fYes, fiList, fiTup, bind_ok, thenS_ok, asB_bl, j_ii, j_ib, j_ss, j_tt, gLt, gLe, gGt, gGe, gCmp, gAdd, gSubI, gMul, gMod, gDiv, gEq, gNe, gEqB, refD, scalEq, gLen, gAbs, gMax, gMin, gTuple, gIxS, tupOf, outS, fin_same, thenG, loopS, truD_bl, truD_tup, fgTup, fgCons, fgNil, fiRng1, rngD, wipeD, q4, gIxS, tupOf, G.listOf, atI, ixN, es, fBM, tyM, mAppend, z4, gSl, hcut, itmOf, h1, obj_amt, c0, c1, hf]
theorem e_dice {ns : List Int} {i : Int} {M : AH} (h0 : 0 ≤ i) : ∃ x y z : Int, F__law_dice [.lsk (ns.map .int), .int i] M = .ok (.ref M.length) (M ++ [.lst [.int x, .int y, .int z]]) := by
  have z3 : 3 ≤ sizeLine := size600 (by decide)
  have p16 : CPow 10 16 := by unfold CPow; decide
  have p60 : CPow 10 60 := by unfold CPow; decide
  have mu : CMul 1000000000000000000000000000000000000000000000000000000000000 1000000000000000000000000000000000000000000000000000000000000 ∨ CMulW 1000000000000000000000000000000000000000000000000000000000000 1000000000000000000000000000000000000000000000000000000000000 := .inr (by unfold CMulW; decide +kernel)
  have c1 : ∀ i, CMul 71 i ∨ CMulW 71 i := fun i => cm_l (by decide)
  have c2 : ∀ i, CMul i 59 ∨ CMulW i 59 := fun i => cm_r (by decide)
  have c3 : ∀ i, CMul 821 i ∨ CMulW 821 i := fun i => cm_l (by decide)
  have c4 : ∀ i, CMul 37 i ∨ CMulW 37 i := fun i => cm_l (by decide)
  by_cases hi : i < ns.length
  · obtain ⟨j, rfl⟩ := Int.eq_ofNat_of_zero_le h0
    have hj : j < ns.length := by omega
    have ha : atI (ns.map D.int) j = some (.int ns[j]) := atI_nat (by rw [List.getElem?_map, List.getElem?_eq_getElem hj]; rfl)
    simp [F__law_dice, fnF, fnK, fSeq, fRet, fRetN, fAsg, fgName, fDrop, fNext, fNever, fIfS, fPar, fFor, fAndV, fOrV, fNotV, fNotW, fAnd, fOr, fNot, fTest, fTru, fIf, fChain, fOp, fUn, fCB, fCons, fNil, fTup, fLst, fCall, fVar, fC, fSl, fPart, fNoPart, fBM, fM0, fM1, mAsk, fFld, fMeth, fPropN, fCMeth, fDNew, fDGet2, fDGet, fDPut, fLc, fYes, fiList, fiTup, bind_ok, thenS_ok, asB_bl, j_ii, j_ib, j_ss, j_tt, gLt, gLe, gGt, gGe, gCmp, gAdd, gSubI, gMul, gMod, gDiv, gEq, gNe, gEqB, refD, scalEq, gLen, gAbs, gMax, gMin, gTuple, gIxS, tupOf, outS, fin_same, thenG, loopS, truD_bl, truD_tup, fgTup, fgCons, fgNil, tupOf, G.listOf, gIxS, ha, gInt, gPow, hj, z3, p16, p60, mu, c1, c2, c3, c4]
  · simp [F__law_dice, fnF, fnK, fSeq, fRet, fRetN, fAsg, fgName, fDrop, fNext, fNever, fIfS, fPar, fFor, fAndV, fOrV, fNotV, fNotW, fAnd, fOr, fNot, fTest, fTru, fIf, fChain, fOp, fUn, fCB, fCons, fNil, fTup, fLst, fCall, fVar, fC, fSl, fPart, fNoPart, fBM, fM0, fM1, mAsk, fFld, fMeth, fPropN, fCMeth, fDNew, fDGet2, fDGet, fDPut, fLc, fYes, fiList, fiTup, bind_ok, thenS_ok, asB_bl, j_ii, j_ib, j_ss, j_tt, gLt, gLe, gGt, gGe, gCmp, gAdd, gSubI, gMul, gMod, gDiv, gEq, gNe, gEqB, refD, scalEq, gLen, gAbs, gMax, gMin, gTuple, gIxS, tupOf, outS, fin_same, thenG, loopS, truD_bl, truD_tup, fgTup, fgCons, fgNil, tupOf, G.listOf, gIxS, gInt, gPow, hi, z3, p16, p60, mu, c1, c2, c3, c4]
theorem e_law (ns : List Int) (h : ns.length ≤ 63) : F_law [.lsk (ns.map .int)] [] = .ok (.bl true) [] := by
  have hl : ((ns.length : Int) < 3 ∨ True) := .inr trivial
  obtain ⟨c, hc0, hc1, hc⟩ : ∃ c : Int, 1 ≤ c ∧ c ≤ 3 ∧ (fCB gMax (fCons (fC (.int 1)) (fCons (fCB gMin (fCons (fC (.int 3)) (fCons (fCB gLen (fCons (fVar 0) fNil)) fNil))) fNil))) [some (.lsk (ns.map .int)), none] [] = .ok (.int c) [] := by
    by_cases h1 : (ns.length : Int) < 3
    · by_cases h2 : (1 : Int) < ns.length
      · exact ⟨ns.length, by omega, by omega, by simp [fnF, fnK, fSeq, fRet, fRetN, fAsg, fgName, fDrop, fNext, fNever, fIfS, fPar, fFor, fAndV, fOrV, fNotV, fNotW, fAnd, fOr, fNot, fTest, fTru, fIf, fChain, fOp, fUn, fCB, fCons, fNil, fTup, fLst, fCall, fVar, fC, fSl, fPart, fNoPart, fBM, fM0, fM1, mAsk, fFld, fMeth, fPropN, fCMeth, fDNew, fDGet2, fDGet, fDPut, fLc, fYes, fiList, fiTup, bind_ok, thenS_ok, asB_bl, j_ii, j_ib, j_ss, j_tt, gLt, gLe, gGt, gGe, gCmp, gAdd, gSubI, gMul, gMod, gDiv, gEq, gNe, gEqB, refD, scalEq, gLen, gAbs, gMax, gMin, gTuple, gIxS, tupOf, outS, fin_same, thenG, loopS, truD_bl, truD_tup, fgTup, fgCons, fgNil, tupOf, G.listOf, h1, h2]⟩
      · exact ⟨1, by omega, by omega, by simp [fnF, fnK, fSeq, fRet, fRetN, fAsg, fgName, fDrop, fNext, fNever, fIfS, fPar, fFor, fAndV, fOrV, fNotV, fNotW, fAnd, fOr, fNot, fTest, fTru, fIf, fChain, fOp, fUn, fCB, fCons, fNil, fTup, fLst, fCall, fVar, fC, fSl, fPart, fNoPart, fBM, fM0, fM1, mAsk, fFld, fMeth, fPropN, fCMeth, fDNew, fDGet2, fDGet, fDPut, fLc, fYes, fiList, fiTup, bind_ok, thenS_ok, asB_bl, j_ii, j_ib, j_ss, j_tt, gLt, gLe, gGt, gGe, gCmp, gAdd, gSubI, gMul, gMod, gDiv, gEq, gNe, gEqB, refD, scalEq, gLen, gAbs, gMax, gMin, gTuple, gIxS, tupOf, outS, fin_same, thenG, loopS, truD_bl, truD_tup, fgTup, fgCons, fgNil, tupOf, G.listOf, h1, h2]⟩
    · exact ⟨3, by omega, by omega, by simp [fnF, fnK, fSeq, fRet, fRetN, fAsg, fgName, fDrop, fNext, fNever, fIfS, fPar, fFor, fAndV, fOrV, fNotV, fNotW, fAnd, fOr, fNot, fTest, fTru, fIf, fChain, fOp, fUn, fCB, fCons, fNil, fTup, fLst, fCall, fVar, fC, fSl, fPart, fNoPart, fBM, fM0, fM1, mAsk, fFld, fMeth, fPropN, fCMeth, fDNew, fDGet2, fDGet, fDPut, fLc, fYes, fiList, fiTup, bind_ok, thenS_ok, asB_bl, j_ii, j_ib, j_ss, j_tt, gLt, gLe, gGt, gGe, gCmp, gAdd, gSubI, gMul, gMod, gDiv, gEq, gNe, gEqB, refD, scalEq, gLen, gAbs, gMax, gMin, gTuple, gIxS, tupOf, outS, fin_same, thenG, loopS, truD_bl, truD_tup, fgTup, fgCons, fgNil, tupOf, G.listOf, h1]⟩
  obtain ⟨δ', M', h1, x, hx⟩ := for_ex (chk := fun _ => true) (g := fgName 1) (b := L_law_1) (fun i : Nat => D.int (i : Int))
    (fun rest δ M' => ∃ x1, δ = [some (.lsk (ns.map .int)), x1])
    (fun _ _ _ _ => rfl)
    (fun i r δ M' ⟨x1, h⟩ => by
      subst h
      obtain ⟨x, y, z, e⟩ := e_dice (ns := ns) (i := (i : Int)) (M := M') (by omega)
      obtain ⟨M2, m2, e2⟩ := e_right (d := M'.length) (M := M' ++ [.lst [.int x, .int y, .int z]]) ⟨x, y, z, by simp⟩
      exact ⟨[some (.lsk (ns.map .int)), some (.int (i : Int))], M', [some (.lsk (ns.map .int)), some (.int (i : Int))], M2, rfl, .inl (by simp [L_law_1, fnF, fnK, fSeq, fRet, fRetN, fAsg, fgName, fDrop, fNext, fNever, fIfS, fPar, fFor, fAndV, fOrV, fNotV, fNotW, fAnd, fOr, fNot, fTest, fTru, fIf, fChain, fOp, fUn, fCB, fCons, fNil, fTup, fLst, fCall, fVar, fC, fSl, fPart, fNoPart, fBM, fM0, fM1, mAsk, fFld, fMeth, fPropN, fCMeth, fDNew, fDGet2, fDGet, fDPut, fLc, fYes, fiList, fiTup, bind_ok, thenS_ok, asB_bl, j_ii, j_ib, j_ss, j_tt, gLt, gLe, gGt, gGe, gCmp, gAdd, gSubI, gMul, gMod, gDiv, gEq, gNe, gEqB, refD, scalEq, gLen, gAbs, gMax, gMin, gTuple, gIxS, tupOf, outS, fin_same, thenG, loopS, truD_bl, truD_tup, fgTup, fgCons, fgNil, e, e2]), _, rfl⟩)
    (List.range c.toNat) [some (.lsk (ns.map .int)), none] [] ⟨_, rfl⟩
  subst hx
  obtain ⟨s, hs, gs, es⟩ := e_cover (n := 0) (B := 0) [] (fun m hm => by cases hm) (by simp) (by decide) (by decide) (by decide) (by simp)
  have q : s = [] := hs.ext A.zero fun k => by rw [gs]; rfl
  subst q
  have hk : Ok [(Str.ofString "core", 1000000)] := by
    have : A 1 1000000 [(Str.ofString "core", 1000000)] := ⟨⟨by decide +kernel, by decide +kernel, by decide, trivial⟩, by decide, fun p hp => by
      simp only [List.mem_cons, List.not_mem_nil, or_false] at hp
      subst hp
      decide⟩
    exact this.ok (by decide) (by decide)
  have z1 : 1 ≤ sizeLine := size600 (by decide)
  have z2 : 2 ≤ sizeLine := size600 (by decide)
  have hmk := e_mk [(Str.ofString "core", 1000000)] M' hk
  have cv : ∀ M, F_Amounts_covers [amt [(Str.ofString "core", 1000000)], amt []] M = .ok (.bl true) M := fun M => by
    rw [e_cov _ _ _ (by simp)]
    simp [cov, lack]
  have hf : fin [] (.ok (.bl true) M') = .ok (.bl true) [] := by
    have := fin_app (M := []) (xs := M') (d := .bl true) (by simp)
    simpa using this
  have hr : -(4611686018427387904 : Int) ≤ c ∧ c < 4611686018427387904 := by omega
  simp only [List.map_nil, List.append_nil] at es
  have o1 := fun M => @o_eq [] [] M ok_nil ok_nil
  have hb := fun M => e_bool [] M
  simp [pr] at hmk
  have hmk0 := e_mk [] M' ok_nil
  simp at hmk0
  simp only [F_law, fnF, fSeq, fFor, fiRng1, hc, bind_ok]
  simp [hr, hc, rngD, h1, bind_ok, thenS_ok]
  simp [fnF, fnK, fSeq, fRet, fRetN, fAsg, fgName, fDrop, fNext, fNever, fIfS, fPar, fFor, fAndV, fOrV, fNotV, fNotW, fAnd, fOr, fNot, fTest, fTru, fIf, fChain, fOp, fUn, fCB, fCons, fNil, fTup, fLst, fCall, fVar, fC, fSl, fPart, fNoPart, fBM, fM0, fM1, mAsk, fFld, fMeth, fPropN, fCMeth, fDNew, fDGet2, fDGet, fDPut, fLc, fYes, fiList, fiTup, bind_ok, thenS_ok, asB_bl, j_ii, j_ib, j_ss, j_tt, gLt, gLe, gGt, gGe, gCmp, gAdd, gSubI, gMul, gMod, gDiv, gEq, gNe, gEqB, refD, scalEq, gLen, gAbs, gMax, gMin, gTuple, gIxS, tupOf, outS, fin_same, thenG, loopS, truD_bl, truD_tup, fgTup, fgCons, fgNil, es, e_none, o1, gBoolOwn, obj_amt, hb, z1, z2, fMk, hmk, hmk0, cv, hf, ok_nil]
end K01
namespace K01
open PySem PySem.Spec PyProof.Rows L2 G
theorem exm_ok {K : PySem.W.Frag} {R S : Addr} {b : Bool} (h1 : PySem.W.subIn K (.ref S) (.type "BaseException") = some true) (h2 : PySem.W.isClsIn K S = true) (h3 : PySem.W.typeIn K (.ref S) = some (.type "type")) (h4 : PySem.W.subIn K (.ref R) (.ref S) = some b) :
    PySem.W.exmOne K (.ref R) (.ref S) = some b := by
  have e1 : (PySem.W.subIn K (.ref S) (.type "BaseException") == some true) = true := by rw [h1]; rfl
  have e2 : ((PySem.W.clsIn K S).isSome && PySem.W.typeIn K (.ref S) == some (.type "type")) = true := by
    have h2' : (PySem.W.clsIn K S).isSome = true := h2
    rw [h2', h3]; rfl
  show (if (PySem.W.subIn K (.ref S) (.type "BaseException") == some true) = true then (if ((PySem.W.clsIn K S).isSome && PySem.W.typeIn K (.ref S) == some (.type "type")) = true then PySem.W.subIn K (.ref R) (.ref S) else none) else none) = some b
  rw [if_pos e1, if_pos e2]
  exact h4
theorem exm_nil {K : PySem.W.Frag} {c : Value} : PySem.W.exmAny K c [] = some false := rfl
theorem exm_cons {K : PySem.W.Frag} {c d : Value} {r : List Value} {a b : Bool} (h1 : PySem.W.exmOne K c d = some a) (h2 : PySem.W.exmAny K c r = some b) : PySem.W.exmAny K c (d :: r) = some (a || b) := by
  unfold PySem.W.exmAny
  rw [h1, h2]
theorem vals_sz {vs : List V} {its : Array Value} (h : Vals vs its.toList) (n : vs.length ≤ 600) : its.size ≤ sizeLine := size600 (by
  have h1 : vs.length = its.toList.length := h.length
  have h2 : its.toList.length = its.size := by simp
  omega)
def sp_law (K : PySem.W.Frag) (cs : List (Addr × Str)) : Sp := fun vs H Q _ => match vs with
  | [.ref a] => ∃ ns : List Int, ns.length ≤ 63 ∧ SqL K H a (ns.map V.int) ∧ (∀ p ∈ cs, H p.1 = some (.tbl #[])) ∧ ∀ H', Q (.bl true) H'
  | _ => False
theorem law_conc {K : PySem.W.Frag} {κ : Kap} (vs : List V) (H : Hp) (Q : VK) (E : XK) (h : sp_law K κ.T vs H Q E) : conc K κ F_law vs H Q E := by
  unfold sp_law at h
  split at h
  · obtain ⟨ns, hl, hs, ht, q⟩ := h
    have hin : ∀ (F : Hp) (ns : List Int), RepL K κ [] F (ns.map D.int) (ns.map V.int) := fun F ns => by
      induction ns with
      | nil => exact .nil
      | cons n r ih => exact .cons (.int n) ih
    obtain ⟨F, hr, hs⟩ := start_rel (κ := κ) (fun p hp => LamX.TabS.nil (ht p hp)) hs
    refine ⟨[.lsk (ns.map D.int)], [], [], F, hr, .cons (.lsk hs (hin F ns)) .nil, ?_⟩
    rw [e_law ns hl]
    intro v H' ι' F' _ _ r
    cases r
    exact q H'
  · exact h.elim
section
variable {w : World} {K : PySem.W.Frag} {mg : Str → Option Value}
theorem cx_false {l : PySem.W.OpenLaw} {w : World} {H : Hp} {s : Shared} {e : Value} {s2 : Shared} (z : L2.CX l.prog w [] H s (fun _ _ _ => False) e s2) : False := by
  obtain ⟨_, _, _, _, _, _, _, _, _, _, _, _, z⟩ := z
  exact z.elim
theorem all_mk {l : PySem.W.OpenLaw} {h : Heap} {fa : Addr} (X : K.In h) (G : h.Ns mainGlobals mg) (hfa : mg "law" = some (.ref fa)) (own : LamX.OwnTab K fa h)
    {C_Amounts f0 f1 f2 f3 f4 TD4 T04 f5 f6 f7 f8 f9 f10 f11 p11 f12 p12 f13 f14 f15 f16 f17 f18 f19 f20 f21 f22 f23 f24 f25 f26 f27 f28 f29 f30 : Addr}
    {oc0 kV0 dc0 pm0 ct0 cd0 oc1 kV1 dc1 pm1 ct1 cd1 oc2 kV2 dc2 pm2 ct2 cd2 oc3 kV3 dc3 pm3 ct3 cd3 oc4 kV4 dc4 pm4 ct4 cd4 oc5 kV5 dc5 pm5 ct5 cd5 oc6 kV6 dc6 pm6 ct6 cd6 oc7 kV7 dc7 pm7 ct7 cd7 oc8 kV8 dc8 pm8 ct8 cd8 oc9 kV9 dc9 pm9 ct9 cd9 oc10 kV10 dc10 pm10 ct10 cd10 oc11 kV11 dc11 pm11 ct11 cd11 mc12 oc12 kV12 dc12 pm12 ct12 cd12 oc13 kV13 dc13 pm13 ct13 cd13 oc14 kV14 dc14 pm14 ct14 cd14 oc15 kV15 dc15 pm15 ct15 cd15 oc16 kV16 dc16 pm16 ct16 cd16 oc17 kV17 dc17 pm17 ct17 cd17 oc18 kV18 dc18 pm18 ct18 cd18 oc19 kV19 dc19 pm19 ct19 cd19 oc20 kV20 dc20 pm20 ct20 cd20 oc21 kV21 dc21 pm21 ct21 cd21 oc22 kV22 dc22 pm22 ct22 cd22 oc23 kV23 dc23 pm23 ct23 cd23 oc24 kV24 dc24 pm24 ct24 cd24 oc25 kV25 dc25 pm25 ct25 cd25 oc26 kV26 dc26 pm26 ct26 cd26 oc27 kV27 dc27 pm27 ct27 cd27 oc28 kV28 dc28 pm28 ct28 cd28 oc29 kV29 dc29 pm29 ct29 cd29 oc30 kV30 dc30 pm30 ct30 cd30 : Value}
    {od0 an0 od1 an1 od2 an2 od3 an3 od4 an4 od5 an5 od6 an6 od7 an7 od8 an8 od9 an9 od10 an10 od11 an11 od12 an12 od13 an13 od14 an14 od15 an15 od16 an16 od17 an17 od18 an18 od19 an19 od20 an20 od21 an21 od22 an22 od23 an23 od24 an24 od25 an25 od26 an26 od27 an27 od28 an28 od29 an29 od30 an30 : Option Addr}
    {sl0 sl1 sl2 sl3 sl4 s04 sl5 sl6 sl7 sl8 sl9 sl10 sl11 sl12 sl13 sl14 sl15 sl16 sl17 sl18 sl19 sl20 sl21 sl22 sl23 sl24 sl25 sl26 sl27 sl28 sl29 sl30 : Array (Option Value)}
    {t_NOTHING t_MAX_KIND_SIGNS t_MAX_AMOUNT t_MAX_KINDS t_TOO_LONG : Tok}
    {r11 r12 : List Value}
    {nD4 n04 : Nat}
    {oD4 : Obj}
    (aC_Amounts : PySem.W.nsIn K mainGlobals "Amounts" = some (some (.ref C_Amounts)))
    (pg_Amounts : PySem.W.plainGet K C_Amounts Str.empty = true)
    (hd_Amounts : PySem.W.hasDictIn K C_Amounts = true)
    (po_Amounts : PySem.W.plainOver K C_Amounts = true)
    (sa_Amounts : PySem.W.findIn K (.ref C_Amounts) "__setattr__" = some (some (.builtin "object.__setattr__")))
    (mk_Amounts : PySem.W.makesIn K C_Amounts = true)
    (kC_Amounts : PySem.W.keepIn K (.ref C_Amounts) = true)
    (a0 : PySem.W.nsIn K mainGlobals "is_between" = some (some (.ref f0)))
    (l0 : K.lookup f0 = some ⟨oc0, od0, .func (PySem.W.fnOf "is_between" "is_between" (defArgs s_is_between) (defBody s_is_between) (defScope s_is_between) .none kV0 dc0 pm0 an0 cd0 ct0), sl0⟩)
    (c0 : PySem.W.codeIn K cd0 "is_between" = true)
    (k0 : PySem.W.keepIn K (.ref f0) = true)
    (a1 : PySem.W.nsIn K mainGlobals "is_short_name" = some (some (.ref f1)))
    (l1 : K.lookup f1 = some ⟨oc1, od1, .func (PySem.W.fnOf "is_short_name" "is_short_name" (defArgs s_is_short_name) (defBody s_is_short_name) (defScope s_is_short_name) .none kV1 dc1 pm1 an1 cd1 ct1), sl1⟩)
    (c1 : PySem.W.codeIn K cd1 "is_short_name" = true)
    (k1 : PySem.W.keepIn K (.ref f1) = true)
    (a2 : PySem.W.nsIn K mainGlobals "is_kind" = some (some (.ref f2)))
    (l2 : K.lookup f2 = some ⟨oc2, od2, .func (PySem.W.fnOf "is_kind" "is_kind" (defArgs s_is_kind) (defBody s_is_kind) (defScope s_is_kind) .none kV2 dc2 pm2 an2 cd2 ct2), sl2⟩)
    (c2 : PySem.W.codeIn K cd2 "is_kind" = true)
    (k2 : PySem.W.keepIn K (.ref f2) = true)
    (a3 : PySem.W.nsIn K mainGlobals "_are_pairs" = some (some (.ref f3)))
    (l3 : K.lookup f3 = some ⟨oc3, od3, .func (PySem.W.fnOf "_are_pairs" "_are_pairs" (defArgs s__are_pairs) (defBody s__are_pairs) (defScope s__are_pairs) .none kV3 dc3 pm3 an3 cd3 ct3), sl3⟩)
    (c3 : PySem.W.codeIn K cd3 "_are_pairs" = true)
    (k3 : PySem.W.keepIn K (.ref f3) = true)
    (a4 : PySem.W.findIn K (.ref C_Amounts) "__init__" = some (some (.ref f4)))
    (t4 : PySem.W.isFn K (.ref f4) = true)
    (l4 : K.lookup f4 = some ⟨oc4, od4, .func (PySem.W.fnOf "__init__" "Amounts.__init__" (defArgs s_Amounts___init__) (defBody s_Amounts___init__) (defScope s_Amounts___init__) (.ref TD4) kV4 dc4 pm4 an4 cd4 ct4), sl4⟩)
    (c4 : PySem.W.codeIn K cd4 "Amounts.__init__" = true)
    (k4 : PySem.W.keepIn K (.ref f4) = true)
    (L4 : K.lookup TD4 = some oD4)
    (G4 : oD4.data = .seq #[.ref T04] nD4)
    (Z4 : K.lookup T04 = some ⟨.type "tuple", Option.none, .seq #[] n04, s04⟩)
    (a5 : PySem.W.nsIn K mainGlobals "_lacking" = some (some (.ref f5)))
    (l5 : K.lookup f5 = some ⟨oc5, od5, .func (PySem.W.fnOf "_lacking" "_lacking" (defArgs s__lacking) (defBody s__lacking) (defScope s__lacking) .none kV5 dc5 pm5 an5 cd5 ct5), sl5⟩)
    (c5 : PySem.W.codeIn K cd5 "_lacking" = true)
    (k5 : PySem.W.keepIn K (.ref f5) = true)
    (a6 : PySem.W.nsIn K mainGlobals "check_amounts" = some (some (.ref f6)))
    (l6 : K.lookup f6 = some ⟨oc6, od6, .func (PySem.W.fnOf "check_amounts" "check_amounts" (defArgs s_check_amounts) (defBody s_check_amounts) (defScope s_check_amounts) .none kV6 dc6 pm6 an6 cd6 ct6), sl6⟩)
    (c6 : PySem.W.codeIn K cd6 "check_amounts" = true)
    (k6 : PySem.W.keepIn K (.ref f6) = true)
    (a7 : PySem.W.findIn K (.ref C_Amounts) "covers" = some (some (.ref f7)))
    (t7 : PySem.W.isFn K (.ref f7) = true)
    (l7 : K.lookup f7 = some ⟨oc7, od7, .func (PySem.W.fnOf "covers" "Amounts.covers" (defArgs s_Amounts_covers) (defBody s_Amounts_covers) (defScope s_Amounts_covers) .none kV7 dc7 pm7 an7 cd7 ct7), sl7⟩)
    (c7 : PySem.W.codeIn K cd7 "Amounts.covers" = true)
    (k7 : PySem.W.keepIn K (.ref f7) = true)
    (a8 : PySem.W.findIn K (.ref C_Amounts) "__bool__" = some (some (.ref f8)))
    (t8 : PySem.W.isFn K (.ref f8) = true)
    (l8 : K.lookup f8 = some ⟨oc8, od8, .func (PySem.W.fnOf "__bool__" "Amounts.__bool__" (defArgs s_Amounts___bool__) (defBody s_Amounts___bool__) (defScope s_Amounts___bool__) .none kV8 dc8 pm8 an8 cd8 ct8), sl8⟩)
    (c8 : PySem.W.codeIn K cd8 "Amounts.__bool__" = true)
    (k8 : PySem.W.keepIn K (.ref f8) = true)
    (a9 : PySem.W.findIn K (.ref C_Amounts) "__eq__" = some (some (.ref f9)))
    (t9 : PySem.W.isFn K (.ref f9) = true)
    (l9 : K.lookup f9 = some ⟨oc9, od9, .func (PySem.W.fnOf "__eq__" "Amounts.__eq__" (defArgs s_Amounts___eq__) (defBody s_Amounts___eq__) (defScope s_Amounts___eq__) .none kV9 dc9 pm9 an9 cd9 ct9), sl9⟩)
    (c9 : PySem.W.codeIn K cd9 "Amounts.__eq__" = true)
    (k9 : PySem.W.keepIn K (.ref f9) = true)
    (a10 : PySem.W.nsIn K mainGlobals "_pairs_of" = some (some (.ref f10)))
    (l10 : K.lookup f10 = some ⟨oc10, od10, .func (PySem.W.fnOf "_pairs_of" "_pairs_of" (defArgs s__pairs_of) (defBody s__pairs_of) (defScope s__pairs_of) .none kV10 dc10 pm10 an10 cd10 ct10), sl10⟩)
    (c10 : PySem.W.codeIn K cd10 "_pairs_of" = true)
    (k10 : PySem.W.keepIn K (.ref f10) = true)
    (a11 : PySem.W.findIn K (.ref C_Amounts) "pairs" = some (some (.ref p11)))
    (q11 : PySem.W.specialIn K (.ref p11) "__get__" = some (some (.builtin "property.__get__")))
    (w11 : PySem.W.takesIn K (.ref p11) = some true)
    (e11 : PySem.W.recIn K p11 "property" = some (.ref f11 :: r11))
    (l11 : K.lookup f11 = some ⟨oc11, od11, .func (PySem.W.fnOf "pairs" "Amounts.pairs" (defArgs s_Amounts_pairs) (defBody s_Amounts_pairs) (defScope s_Amounts_pairs) .none kV11 dc11 pm11 an11 cd11 ct11), sl11⟩)
    (c11 : PySem.W.codeIn K cd11 "Amounts.pairs" = true)
    (k11 : PySem.W.keepIn K (.ref f11) = true)
    (y12 : PySem.W.typeIn K (.ref C_Amounts) = some mc12)
    (x12 : PySem.W.readsIn K C_Amounts mc12 = true)
    (z12 : PySem.W.specialIn K (.ref C_Amounts) "__getattribute__" = some (some (.builtin "type.__getattribute__")))
    (a12 : PySem.W.findCls K (.ref C_Amounts) mc12 "cover_of" = some (.get (.builtin "classmethod.__get__") (.ref p12) .none (.ref C_Amounts)))
    (e12 : PySem.W.recIn K p12 "classmethod" = some (.ref f12 :: r12))
    (l12 : K.lookup f12 = some ⟨oc12, od12, .func (PySem.W.fnOf "cover_of" "Amounts.cover_of" (defArgs s_Amounts_cover_of) (defBody s_Amounts_cover_of) (defScope s_Amounts_cover_of) .none kV12 dc12 pm12 an12 cd12 ct12), sl12⟩)
    (c12 : PySem.W.codeIn K cd12 "Amounts.cover_of" = true)
    (k12 : PySem.W.keepIn K (.ref f12) = true)
    (u12 : PySem.W.fnIn K f12 = true)
    (a13 : PySem.W.findIn K (.ref C_Amounts) "lacks" = some (some (.ref f13)))
    (t13 : PySem.W.isFn K (.ref f13) = true)
    (l13 : K.lookup f13 = some ⟨oc13, od13, .func (PySem.W.fnOf "lacks" "Amounts.lacks" (defArgs s_Amounts_lacks) (defBody s_Amounts_lacks) (defScope s_Amounts_lacks) .none kV13 dc13 pm13 an13 cd13 ct13), sl13⟩)
    (c13 : PySem.W.codeIn K cd13 "Amounts.lacks" = true)
    (k13 : PySem.W.keepIn K (.ref f13) = true)
    (a14 : PySem.W.nsIn K mainGlobals "sure_amounts" = some (some (.ref f14)))
    (l14 : K.lookup f14 = some ⟨oc14, od14, .func (PySem.W.fnOf "sure_amounts" "sure_amounts" (defArgs s_sure_amounts) (defBody s_sure_amounts) (defScope s_sure_amounts) .none kV14 dc14 pm14 an14 cd14 ct14), sl14⟩)
    (c14 : PySem.W.codeIn K cd14 "sure_amounts" = true)
    (k14 : PySem.W.keepIn K (.ref f14) = true)
    (a15 : PySem.W.findIn K (.ref C_Amounts) "__add__" = some (some (.ref f15)))
    (t15 : PySem.W.isFn K (.ref f15) = true)
    (l15 : K.lookup f15 = some ⟨oc15, od15, .func (PySem.W.fnOf "__add__" "Amounts.__add__" (defArgs s_Amounts___add__) (defBody s_Amounts___add__) (defScope s_Amounts___add__) .none kV15 dc15 pm15 an15 cd15 ct15), sl15⟩)
    (c15 : PySem.W.codeIn K cd15 "Amounts.__add__" = true)
    (k15 : PySem.W.keepIn K (.ref f15) = true)
    (a16 : PySem.W.nsIn K mainGlobals "_law_covers_right" = some (some (.ref f16)))
    (l16 : K.lookup f16 = some ⟨oc16, od16, .func (PySem.W.fnOf "_law_covers_right" "_law_covers_right" (defArgs s__law_covers_right) (defBody s__law_covers_right) (defScope s__law_covers_right) .none kV16 dc16 pm16 an16 cd16 ct16), sl16⟩)
    (c16 : PySem.W.codeIn K cd16 "_law_covers_right" = true)
    (k16 : PySem.W.keepIn K (.ref f16) = true)
    (a17 : PySem.W.nsIn K mainGlobals "is_whole" = some (some (.ref f17)))
    (l17 : K.lookup f17 = some ⟨oc17, od17, .func (PySem.W.fnOf "is_whole" "is_whole" (defArgs s_is_whole) (defBody s_is_whole) (defScope s_is_whole) .none kV17 dc17 pm17 an17 cd17 ct17), sl17⟩)
    (c17 : PySem.W.codeIn K cd17 "is_whole" = true)
    (k17 : PySem.W.keepIn K (.ref f17) = true)
    (a18 : PySem.W.findIn K (.ref C_Amounts) "__mul__" = some (some (.ref f18)))
    (t18 : PySem.W.isFn K (.ref f18) = true)
    (l18 : K.lookup f18 = some ⟨oc18, od18, .func (PySem.W.fnOf "__mul__" "Amounts.__mul__" (defArgs s_Amounts___mul__) (defBody s_Amounts___mul__) (defScope s_Amounts___mul__) .none kV18 dc18 pm18 an18 cd18 ct18), sl18⟩)
    (c18 : PySem.W.codeIn K cd18 "Amounts.__mul__" = true)
    (k18 : PySem.W.keepIn K (.ref f18) = true)
    (a19 : PySem.W.findIn K (.ref C_Amounts) "__sub__" = some (some (.ref f19)))
    (t19 : PySem.W.isFn K (.ref f19) = true)
    (l19 : K.lookup f19 = some ⟨oc19, od19, .func (PySem.W.fnOf "__sub__" "Amounts.__sub__" (defArgs s_Amounts___sub__) (defBody s_Amounts___sub__) (defScope s_Amounts___sub__) .none kV19 dc19 pm19 an19 cd19 ct19), sl19⟩)
    (c19 : PySem.W.codeIn K cd19 "Amounts.__sub__" = true)
    (k19 : PySem.W.keepIn K (.ref f19) = true)
    (a20 : PySem.W.nsIn K mainGlobals "_law_sums_right" = some (some (.ref f20)))
    (l20 : K.lookup f20 = some ⟨oc20, od20, .func (PySem.W.fnOf "_law_sums_right" "_law_sums_right" (defArgs s__law_sums_right) (defBody s__law_sums_right) (defScope s__law_sums_right) .none kV20 dc20 pm20 an20 cd20 ct20), sl20⟩)
    (c20 : PySem.W.codeIn K cd20 "_law_sums_right" = true)
    (k20 : PySem.W.keepIn K (.ref f20) = true)
    (a21 : PySem.W.findIn K (.ref C_Amounts) "times" = some (some (.ref f21)))
    (t21 : PySem.W.isFn K (.ref f21) = true)
    (l21 : K.lookup f21 = some ⟨oc21, od21, .func (PySem.W.fnOf "times" "Amounts.times" (defArgs s_Amounts_times) (defBody s_Amounts_times) (defScope s_Amounts_times) .none kV21 dc21 pm21 an21 cd21 ct21), sl21⟩)
    (c21 : PySem.W.codeIn K cd21 "Amounts.times" = true)
    (k21 : PySem.W.keepIn K (.ref f21) = true)
    (a22 : PySem.W.findIn K (.ref C_Amounts) "__len__" = some (some (.ref f22)))
    (t22 : PySem.W.isFn K (.ref f22) = true)
    (l22 : K.lookup f22 = some ⟨oc22, od22, .func (PySem.W.fnOf "__len__" "Amounts.__len__" (defArgs s_Amounts___len__) (defBody s_Amounts___len__) (defScope s_Amounts___len__) .none kV22 dc22 pm22 an22 cd22 ct22), sl22⟩)
    (c22 : PySem.W.codeIn K cd22 "Amounts.__len__" = true)
    (k22 : PySem.W.keepIn K (.ref f22) = true)
    (a23 : PySem.W.nsIn K mainGlobals "_law_often_right" = some (some (.ref f23)))
    (l23 : K.lookup f23 = some ⟨oc23, od23, .func (PySem.W.fnOf "_law_often_right" "_law_often_right" (defArgs s__law_often_right) (defBody s__law_often_right) (defScope s__law_often_right) .none kV23 dc23 pm23 an23 cd23 ct23), sl23⟩)
    (c23 : PySem.W.codeIn K cd23 "_law_often_right" = true)
    (k23 : PySem.W.keepIn K (.ref f23) = true)
    (a24 : PySem.W.nsIn K mainGlobals "_law_roll" = some (some (.ref f24)))
    (l24 : K.lookup f24 = some ⟨oc24, od24, .func (PySem.W.fnOf "_law_roll" "_law_roll" (defArgs s__law_roll) (defBody s__law_roll) (defScope s__law_roll) .none kV24 dc24 pm24 an24 cd24 ct24), sl24⟩)
    (c24 : PySem.W.codeIn K cd24 "_law_roll" = true)
    (k24 : PySem.W.keepIn K (.ref f24) = true)
    (a25 : PySem.W.nsIn K mainGlobals "_law_pick" = some (some (.ref f25)))
    (l25 : K.lookup f25 = some ⟨oc25, od25, .func (PySem.W.fnOf "_law_pick" "_law_pick" (defArgs s__law_pick) (defBody s__law_pick) (defScope s__law_pick) .none kV25 dc25 pm25 an25 cd25 ct25), sl25⟩)
    (c25 : PySem.W.codeIn K cd25 "_law_pick" = true)
    (k25 : PySem.W.keepIn K (.ref f25) = true)
    (a26 : PySem.W.nsIn K mainGlobals "_law_some" = some (some (.ref f26)))
    (l26 : K.lookup f26 = some ⟨oc26, od26, .func (PySem.W.fnOf "_law_some" "_law_some" (defArgs s__law_some) (defBody s__law_some) (defScope s__law_some) .none kV26 dc26 pm26 an26 cd26 ct26), sl26⟩)
    (c26 : PySem.W.codeIn K cd26 "_law_some" = true)
    (k26 : PySem.W.keepIn K (.ref f26) = true)
    (a27 : PySem.W.nsIn K mainGlobals "_law_drawn" = some (some (.ref f27)))
    (l27 : K.lookup f27 = some ⟨oc27, od27, .func (PySem.W.fnOf "_law_drawn" "_law_drawn" (defArgs s__law_drawn) (defBody s__law_drawn) (defScope s__law_drawn) .none kV27 dc27 pm27 an27 cd27 ct27), sl27⟩)
    (c27 : PySem.W.codeIn K cd27 "_law_drawn" = true)
    (k27 : PySem.W.keepIn K (.ref f27) = true)
    (a28 : PySem.W.nsIn K mainGlobals "_law_right" = some (some (.ref f28)))
    (l28 : K.lookup f28 = some ⟨oc28, od28, .func (PySem.W.fnOf "_law_right" "_law_right" (defArgs s__law_right) (defBody s__law_right) (defScope s__law_right) .none kV28 dc28 pm28 an28 cd28 ct28), sl28⟩)
    (c28 : PySem.W.codeIn K cd28 "_law_right" = true)
    (k28 : PySem.W.keepIn K (.ref f28) = true)
    (a29 : PySem.W.nsIn K mainGlobals "_law_dice" = some (some (.ref f29)))
    (l29 : K.lookup f29 = some ⟨oc29, od29, .func (PySem.W.fnOf "_law_dice" "_law_dice" (defArgs s__law_dice) (defBody s__law_dice) (defScope s__law_dice) .none kV29 dc29 pm29 an29 cd29 ct29), sl29⟩)
    (c29 : PySem.W.codeIn K cd29 "_law_dice" = true)
    (k29 : PySem.W.keepIn K (.ref f29) = true)
    (a30 : PySem.W.nsIn K mainGlobals "law" = some (some (.ref f30)))
    (l30 : K.lookup f30 = some ⟨oc30, od30, .func (PySem.W.fnOf "law" "law" (defArgs s_law) (defBody s_law) (defScope s_law) .none kV30 dc30 pm30 an30 cd30 ct30), sl30⟩)
    (c30 : PySem.W.codeIn K cd30 "law" = true)
    (k30 : PySem.W.keepIn K (.ref f30) = true)
    (n_isinstance : PySem.W.nsIn K mainGlobals "isinstance" = some none)
    (n_bool : PySem.W.nsIn K mainGlobals "bool" = some none)
    (n_int : PySem.W.nsIn K mainGlobals "int" = some none)
    (n_len : PySem.W.nsIn K mainGlobals "len" = some none)
    (n_str : PySem.W.nsIn K mainGlobals "str" = some none)
    (g_NOTHING : PySem.W.nsIn K mainGlobals "NOTHING" = some (some (.str (Str.ofString "nothing") t_NOTHING)))
    (g_MAX_KIND_SIGNS : PySem.W.nsIn K mainGlobals "MAX_KIND_SIGNS" = some (some (.int 8 t_MAX_KIND_SIGNS)))
    (g_MAX_AMOUNT : PySem.W.nsIn K mainGlobals "MAX_AMOUNT" = some (some (.int 1000000 t_MAX_AMOUNT)))
    (n_tuple : PySem.W.nsIn K mainGlobals "tuple" = some none)
    (g_MAX_KINDS : PySem.W.nsIn K mainGlobals "MAX_KINDS" = some (some (.int 60 t_MAX_KINDS)))
    (n_dict : PySem.W.nsIn K mainGlobals "dict" = some none)
    (na_Amounts__numbers : PySem.W.findIn K (.ref C_Amounts) "_numbers" = some none)
    (na_Amounts__pairs : PySem.W.findIn K (.ref C_Amounts) "_pairs" = some none)
    (n_sorted : PySem.W.nsIn K mainGlobals "sorted" = some none)
    (n_max : PySem.W.nsIn K mainGlobals "max" = some none)
    (n_abs : PySem.W.nsIn K mainGlobals "abs" = some none)
    (g_TOO_LONG : PySem.W.nsIn K mainGlobals "TOO_LONG" = some (some (.int 1000000000000000000000000000000000000000000000000000000000000 t_TOO_LONG)))
    (n_min : PySem.W.nsIn K mainGlobals "min" = some none)
    (n_range : PySem.W.nsIn K mainGlobals "range" = some none)
    (sf_Amounts : PySem.W.selfFirst K C_Amounts = true)
    (ne_Amounts : PySem.W.findIn K (.ref C_Amounts) "__ne__" = some (some (.builtin "object.__ne__")))
    (ob_Amounts : PySem.W.subIn K (.ref C_Amounts) (.type "object") = some true)
    (r1_Amounts : PySem.W.findIn K (.ref C_Amounts) "__rmul__" = some none)
    (r2_Amounts : PySem.W.findIn K (.type "int") "__mul__" = some (some (.builtin "int.__mul__")))
    (r3_Amounts : PySem.W.findIn K (.type "int") "__rmul__" = some (some (.builtin "int.__rmul__")))
    (r4_Amounts : PySem.W.subIn K (.type "int") (.ref C_Amounts) = some false)
    (i1_Amounts : PySem.W.findIn K (.ref C_Amounts) "__class__" = some (some (.builtin "object.__class__")))
    (i4_Amounts : PySem.W.mroIn K C_Amounts (.type "object") = some true)
    (i5_Amounts : PySem.W.kitOne K (.ref C_Amounts) (.ref C_Amounts) = some true)
    (i2 : PySem.W.specialIn K (.builtin "object.__class__") "__get__" = some (some (.builtin "getset_descriptor.__get__")))
    (i3 : PySem.W.takesIn K (.builtin "object.__class__") = some true)
    : LamX.LawAtS l w K (L2.CX l.prog w) 11 63 "script" mg fa h := by
  obtain ⟨κ, hw, hT, hκ0, hκ1⟩ : ∃ κ : Kap, κ.w = w ∧ κ.T = [] ∧ κ "Amounts" = C_Amounts ∧ κ "()Amounts" = T04 := ⟨⟨fun s => if s = "Amounts" then C_Amounts else T04, [], w⟩, by simp⟩
  subst hw
  subst hκ0
  subst hκ1
  have e := hfa.symm.trans (PySem.W.mg_of X G a30)
  cases e
  have T : Txt K κ mg := {
    n_isinstance := PySem.W.mg_none_of X G n_isinstance
    n_bool := PySem.W.mg_none_of X G n_bool
    n_int := PySem.W.mg_none_of X G n_int
    n_len := PySem.W.mg_none_of X G n_len
    n_str := PySem.W.mg_none_of X G n_str
    g_NOTHING := ⟨_, PySem.W.mg_of X G g_NOTHING⟩
    g_MAX_KIND_SIGNS := ⟨_, PySem.W.mg_of X G g_MAX_KIND_SIGNS⟩
    g_MAX_AMOUNT := ⟨_, PySem.W.mg_of X G g_MAX_AMOUNT⟩
    n_tuple := PySem.W.mg_none_of X G n_tuple
    g_MAX_KINDS := ⟨_, PySem.W.mg_of X G g_MAX_KINDS⟩
    n_dict := PySem.W.mg_none_of X G n_dict
    na_Amounts__numbers := na_Amounts__numbers
    na_Amounts__pairs := na_Amounts__pairs
    c_Amounts := PySem.W.mg_of X G aC_Amounts
    n_sorted := PySem.W.mg_none_of X G n_sorted
    n_max := PySem.W.mg_none_of X G n_max
    n_abs := PySem.W.mg_none_of X G n_abs
    g_TOO_LONG := ⟨_, PySem.W.mg_of X G g_TOO_LONG⟩
    n_min := PySem.W.mg_none_of X G n_min
    n_range := PySem.W.mg_none_of X G n_range
    l_Amounts := ⟨pg_Amounts, hd_Amounts, po_Amounts, sa_Amounts⟩
    sf_Amounts := sf_Amounts
    ne_Amounts := ne_Amounts
    ob_Amounts := ob_Amounts
    r1_Amounts := r1_Amounts
    r2_Amounts := r2_Amounts
    r3_Amounts := r3_Amounts
    r4_Amounts := r4_Amounts
    dfl_Amounts := fun ι F => .cons (.tup (.inr ⟨_, _, _, Z4, rfl, rfl, rfl, by decide, .nil⟩) .nil) .nil
    isok_Amounts := fun c hc => by
      cases (List.mem_singleton.mp hc)
      exact ⟨⟨pg_Amounts, hd_Amounts, po_Amounts, sa_Amounts⟩, i1_Amounts, i2, i3, i4_Amounts, i5_Amounts⟩ }
  refine ⟨PySem.W.fnOf "law" "law" (defArgs s_law) (defBody s_law) (defScope s_law) .none kV30 dc30 pm30 an30 cd30 ct30, [], sp_law K κ.T, ?_, ?_, ?_, (fun s v => .of_eq rfl), ?_, fun base _ _ TBs => ?_⟩
  · intro p hp; cases hp
  · intro p hp; cases hp
  · intro p hp; cases hp
  · intro H a ns hl _ hp hs; exact ⟨ns, hl, hs, (by intro p hq; rw [hT] at hq; cases hq), fun _ => rfl⟩
  have N0 := fun_mk (st := s_is_between) l0 c0 k0
  have B0 := N0.binds (ps := ["value", "low", "high"]) fun _ _ _ _ _ _ us hl => match us, hl with | [_, _, _], _ => rfl
  have C_is_between : CallOk l.prog κ.w K mg base "is_between" 1 ["value", "low", "high"] (conc K κ F_is_between) := ⟨⟨_, _, PySem.W.mg_of X G a0, k0, B0, fnD N0 sc_is_between (b_is_between (P := l.prog) (base := base) (κ := κ) T )⟩⟩
  have N1 := fun_mk (st := s_is_short_name) l1 c1 k1
  have B1 := N1.binds (ps := ["value", "most"]) fun _ _ _ _ _ _ us hl => match us, hl with | [_, _], _ => rfl
  have C_is_short_name : CallOk l.prog κ.w K mg base "is_short_name" 1 ["value", "most"] (conc K κ F_is_short_name) := ⟨⟨_, _, PySem.W.mg_of X G a1, k1, B1, fnD N1 sc_is_short_name (b_is_short_name (P := l.prog) (base := base) (κ := κ) T )⟩⟩
  have N2 := fun_mk (st := s_is_kind) l2 c2 k2
  have B2 := N2.binds (ps := ["value"]) fun _ _ _ _ _ _ us hl => match us, hl with | [_], _ => rfl
  have C_is_kind : CallOk l.prog κ.w K mg base "is_kind" 2 ["value"] (conc K κ F_is_kind) := ⟨⟨_, _, PySem.W.mg_of X G a2, k2, B2, fnD N2 sc_is_kind (b_is_kind (P := l.prog) (base := base) (κ := κ) T (C_is_short_name := C_is_short_name))⟩⟩
  have N3 := fun_mk (st := s__are_pairs) l3 c3 k3
  have B3 := N3.binds (ps := ["value"]) fun _ _ _ _ _ _ us hl => match us, hl with | [_], _ => rfl
  have C__are_pairs : CallOk l.prog κ.w K mg base "_are_pairs" 3 ["value"] (conc K κ F__are_pairs) := ⟨⟨_, _, PySem.W.mg_of X G a3, k3, B3, fnD N3 sc__are_pairs (b__are_pairs (P := l.prog) (base := base) (κ := κ) T (C_is_between := C_is_between) (C_is_kind := C_is_kind))⟩⟩
  have N4 : FunD K "__init__" "Amounts.__init__" (defArgs s_Amounts___init__) (defBody s_Amounts___init__) (defScope s_Amounts___init__) [V.ref (κ "()Amounts")] [] f4 _ := ⟨⟨_, _, _, _, _, _, _, _, _, _, rfl, l4, c4, .inr ⟨by simp, _, _, _, _, rfl, L4, G4, .cons rfl .nil⟩, .inl rfl⟩, k4⟩
  obtain ⟨d0_Amounts, v0_Amounts, B0_Amounts⟩ := N4.binds1 (ps := ["self", "pairs"]) 1 0 (by simp) (by rfl) fun T kV doc pm an cdv ct us its hu hi => match us, its, hu, hi with | [_], [_], _, _ => ⟨_, rfl, rfl⟩
  obtain ⟨d1_Amounts, v1_Amounts, B1_Amounts⟩ := N4.binds1 (ps := ["self", "pairs"]) 2 1 (by simp) (by rfl) fun T kV doc pm an cdv ct us its hu hi => match us, its, hu, hi with | [_, _], [_], _, _ => ⟨_, rfl, rfl⟩
  have FI_Amounts : FnOk l.prog κ.w K mg base (L2.CX l.prog κ.w) 4 _ _ ["self", "pairs"] (conc K κ F_Amounts___init__) := fnDK N4 sc_Amounts___init__ (b_Amounts___init__ (P := l.prog) (base := base) (κ := κ) T (C__are_pairs := C__are_pairs))
  have K0_Amounts : MkOk l.prog κ.w K mg base "Amounts" (κ "Amounts") 4 ["self", "pairs"] d0_Amounts [V.ref (κ "()Amounts")] (conc K κ F_Amounts___init__) := ⟨⟨_, _, PySem.W.mg_of X G aC_Amounts, ⟨mk_Amounts, a4, t4, kC_Amounts⟩, B0_Amounts, v0_Amounts, FI_Amounts⟩⟩
  have K1_Amounts : MkOk l.prog κ.w K mg base "Amounts" (κ "Amounts") 4 ["self", "pairs"] d1_Amounts [] (conc K κ F_Amounts___init__) := ⟨⟨_, _, PySem.W.mg_of X G aC_Amounts, ⟨mk_Amounts, a4, t4, kC_Amounts⟩, B1_Amounts, v1_Amounts, FI_Amounts⟩⟩
  have N5 := fun_mk (st := s__lacking) l5 c5 k5
  have B5 := N5.binds (ps := ["one", "other"]) fun _ _ _ _ _ _ us hl => match us, hl with | [_, _], _ => rfl
  have C__lacking : CallOk l.prog κ.w K mg base "_lacking" 1 ["one", "other"] (conc K κ F__lacking) := ⟨⟨_, _, PySem.W.mg_of X G a5, k5, B5, fnD N5 sc__lacking (b__lacking (P := l.prog) (base := base) (κ := κ) T )⟩⟩
  have N6 := fun_mk (st := s_check_amounts) l6 c6 k6
  have B6 := N6.binds (ps := ["value"]) fun _ _ _ _ _ _ us hl => match us, hl with | [_], _ => rfl
  have C_check_amounts : CallOk l.prog κ.w K mg base "check_amounts" 1 ["value"] (conc K κ F_check_amounts) := ⟨⟨_, _, PySem.W.mg_of X G a6, k6, B6, fnD N6 sc_check_amounts (b_check_amounts (P := l.prog) (base := base) (κ := κ) T )⟩⟩
  have N7 := fun_mk (st := s_Amounts_covers) l7 c7 k7
  have B7 := N7.binds (ps := ["self", "other"]) fun _ _ _ _ _ _ us hl => match us, hl with | [_, _], _ => rfl
  have M_Amounts_covers : MetOk l.prog κ.w K mg base (κ "Amounts") "covers" 2 ["self", "other"] (conc K κ F_Amounts_covers) := ⟨⟨_, _, a7, t7, k7, B7, fnD N7 sc_Amounts_covers (b_Amounts_covers (P := l.prog) (base := base) (κ := κ) T (C__lacking := C__lacking) (C_check_amounts := C_check_amounts))⟩⟩
  have N8 := fun_mk (st := s_Amounts___bool__) l8 c8 k8
  have B8 := N8.binds (ps := ["self"]) fun _ _ _ _ _ _ us hl => match us, hl with | [_], _ => rfl
  have M_Amounts___bool__ : MetOk l.prog κ.w K mg base (κ "Amounts") "__bool__" 1 ["self"] (conc K κ F_Amounts___bool__) := ⟨⟨_, _, a8, t8, k8, B8, fnD N8 sc_Amounts___bool__ (b_Amounts___bool__ (P := l.prog) (base := base) (κ := κ) T )⟩⟩
  have N9 := fun_mk (st := s_Amounts___eq__) l9 c9 k9
  have B9 := N9.binds (ps := ["self", "other"]) fun _ _ _ _ _ _ us hl => match us, hl with | [_, _], _ => rfl
  have M_Amounts___eq__ : MetOk l.prog κ.w K mg base (κ "Amounts") "__eq__" 1 ["self", "other"] (conc K κ F_Amounts___eq__) := ⟨⟨_, _, a9, t9, k9, B9, fnD N9 sc_Amounts___eq__ (b_Amounts___eq__ (P := l.prog) (base := base) (κ := κ) T )⟩⟩
  have N10 := fun_mk (st := s__pairs_of) l10 c10 k10
  have B10 := N10.binds (ps := ["numbers"]) fun _ _ _ _ _ _ us hl => match us, hl with | [_], _ => rfl
  have C__pairs_of : CallOk l.prog κ.w K mg base "_pairs_of" 1 ["numbers"] (conc K κ F__pairs_of) := ⟨⟨_, _, PySem.W.mg_of X G a10, k10, B10, fnD N10 sc__pairs_of (b__pairs_of (P := l.prog) (base := base) (κ := κ) T )⟩⟩
  have N11 := fun_mk (st := s_Amounts_pairs) l11 c11 k11
  have B11 := N11.binds (ps := ["self"]) fun _ _ _ _ _ _ us hl => match us, hl with | [_], _ => rfl
  have P_Amounts_pairs : PropOk l.prog κ.w K mg base (κ "Amounts") "pairs" 1 ["self"] (conc K κ F_Amounts_pairs) := ⟨⟨_, _, _, ⟨a11, q11, w11, _, e11⟩, B11, fnD N11 sc_Amounts_pairs (b_Amounts_pairs (P := l.prog) (base := base) (κ := κ) T )⟩⟩
  have N12 := fun_mk (st := s_Amounts_cover_of) l12 c12 k12
  have X_Amounts_cover_of : ClmOk l.prog κ.w K mg base (κ "Amounts") "cover_of" 6 (conc K κ (fStar 1 F_Amounts_cover_of)) := ⟨⟨_, _, _, ⟨x12, z12⟩, ⟨a12, ⟨_, e12⟩, u12⟩, fnStar (ps := ["cls"]) (pv := "some") l12 c12 sc_Amounts_cover_of (fun us rest hl => match us, rest, hl with | [_], [], _ => rfl | [_], _ :: _, _ => rfl) (b_Amounts_cover_of (P := l.prog) (base := base) (κ := κ) T (C__pairs_of := C__pairs_of) (K1_Amounts := K1_Amounts) (P_Amounts_pairs := P_Amounts_pairs) (C_check_amounts := C_check_amounts))⟩⟩
  have N13 := fun_mk (st := s_Amounts_lacks) l13 c13 k13
  have B13 := N13.binds (ps := ["self", "other"]) fun _ _ _ _ _ _ us hl => match us, hl with | [_, _], _ => rfl
  have M_Amounts_lacks : MetOk l.prog κ.w K mg base (κ "Amounts") "lacks" 6 ["self", "other"] (conc K κ F_Amounts_lacks) := ⟨⟨_, _, a13, t13, k13, B13, fnD N13 sc_Amounts_lacks (b_Amounts_lacks (P := l.prog) (base := base) (κ := κ) T (C__lacking := C__lacking) (K1_Amounts := K1_Amounts) (C_check_amounts := C_check_amounts))⟩⟩
  have N14 := fun_mk (st := s_sure_amounts) l14 c14 k14
  have B14 := N14.binds (ps := ["pairs"]) fun _ _ _ _ _ _ us hl => match us, hl with | [_], _ => rfl
  have C_sure_amounts : CallOk l.prog κ.w K mg base "sure_amounts" 6 ["pairs"] (conc K κ F_sure_amounts) := ⟨⟨_, _, PySem.W.mg_of X G a14, k14, B14, fnD N14 sc_sure_amounts (b_sure_amounts (P := l.prog) (base := base) (κ := κ) T (K0_Amounts := K0_Amounts))⟩⟩
  have N15 := fun_mk (st := s_Amounts___add__) l15 c15 k15
  have B15 := N15.binds (ps := ["self", "other"]) fun _ _ _ _ _ _ us hl => match us, hl with | [_, _], _ => rfl
  have M_Amounts___add__ : MetOk l.prog κ.w K mg base (κ "Amounts") "__add__" 7 ["self", "other"] (conc K κ F_Amounts___add__) := ⟨⟨_, _, a15, t15, k15, B15, fnD N15 sc_Amounts___add__ (b_Amounts___add__ (P := l.prog) (base := base) (κ := κ) T (C_sure_amounts := C_sure_amounts) (C__pairs_of := C__pairs_of))⟩⟩
  have N16 := fun_mk (st := s__law_covers_right) l16 c16 k16
  have B16 := N16.binds (ps := ["one", "other", "third"]) fun _ _ _ _ _ _ us hl => match us, hl with | [_, _, _], _ => rfl
  have C__law_covers_right : CallOk l.prog κ.w K mg base "_law_covers_right" 9 ["one", "other", "third"] (conc K κ F__law_covers_right) := ⟨⟨_, _, PySem.W.mg_of X G a16, k16, B16, fnD N16 sc__law_covers_right (b__law_covers_right (P := l.prog) (base := base) (κ := κ) T (M_Amounts_covers := M_Amounts_covers) (K0_Amounts := K0_Amounts) (M_Amounts___eq__ := M_Amounts___eq__) (M_Amounts_lacks := M_Amounts_lacks) (M_Amounts___add__ := M_Amounts___add__) (X_Amounts_cover_of := X_Amounts_cover_of))⟩⟩
  have N17 := fun_mk (st := s_is_whole) l17 c17 k17
  have B17 := N17.binds (ps := ["value"]) fun _ _ _ _ _ _ us hl => match us, hl with | [_], _ => rfl
  have C_is_whole : CallOk l.prog κ.w K mg base "is_whole" 1 ["value"] (conc K κ F_is_whole) := ⟨⟨_, _, PySem.W.mg_of X G a17, k17, B17, fnD N17 sc_is_whole (b_is_whole (P := l.prog) (base := base) (κ := κ) T )⟩⟩
  have N18 := fun_mk (st := s_Amounts___mul__) l18 c18 k18
  have B18 := N18.binds (ps := ["self", "other"]) fun _ _ _ _ _ _ us hl => match us, hl with | [_, _], _ => rfl
  have M_Amounts___mul__ : MetOk l.prog κ.w K mg base (κ "Amounts") "__mul__" 6 ["self", "other"] (conc K κ F_Amounts___mul__) := ⟨⟨_, _, a18, t18, k18, B18, fnD N18 sc_Amounts___mul__ (b_Amounts___mul__ (P := l.prog) (base := base) (κ := κ) T (K1_Amounts := K1_Amounts) (C_is_whole := C_is_whole))⟩⟩
  have N19 := fun_mk (st := s_Amounts___sub__) l19 c19 k19
  have B19 := N19.binds (ps := ["self", "other"]) fun _ _ _ _ _ _ us hl => match us, hl with | [_, _], _ => rfl
  have M_Amounts___sub__ : MetOk l.prog κ.w K mg base (κ "Amounts") "__sub__" 6 ["self", "other"] (conc K κ F_Amounts___sub__) := ⟨⟨_, _, a19, t19, k19, B19, fnD N19 sc_Amounts___sub__ (b_Amounts___sub__ (P := l.prog) (base := base) (κ := κ) T (K1_Amounts := K1_Amounts) (C__lacking := C__lacking))⟩⟩
  have N20 := fun_mk (st := s__law_sums_right) l20 c20 k20
  have B20 := N20.binds (ps := ["one", "other", "third"]) fun _ _ _ _ _ _ us hl => match us, hl with | [_, _, _], _ => rfl
  have C__law_sums_right : CallOk l.prog κ.w K mg base "_law_sums_right" 9 ["one", "other", "third"] (conc K κ F__law_sums_right) := ⟨⟨_, _, PySem.W.mg_of X G a20, k20, B20, fnD N20 sc__law_sums_right (b__law_sums_right (P := l.prog) (base := base) (κ := κ) T (M_Amounts___eq__ := M_Amounts___eq__) (M_Amounts___mul__ := M_Amounts___mul__) (K0_Amounts := K0_Amounts) (M_Amounts___add__ := M_Amounts___add__) (M_Amounts___sub__ := M_Amounts___sub__))⟩⟩
  have N21 := fun_mk (st := s_Amounts_times) l21 c21 k21
  have B21 := N21.binds (ps := ["self", "want"]) fun _ _ _ _ _ _ us hl => match us, hl with | [_, _], _ => rfl
  have M_Amounts_times : MetOk l.prog κ.w K mg base (κ "Amounts") "times" 3 ["self", "want"] (conc K κ F_Amounts_times) := ⟨⟨_, _, a21, t21, k21, B21, fnD N21 sc_Amounts_times (b_Amounts_times (P := l.prog) (base := base) (κ := κ) T (P_Amounts_pairs := P_Amounts_pairs) (C_check_amounts := C_check_amounts))⟩⟩
  have N22 := fun_mk (st := s_Amounts___len__) l22 c22 k22
  have B22 := N22.binds (ps := ["self"]) fun _ _ _ _ _ _ us hl => match us, hl with | [_], _ => rfl
  have M_Amounts___len__ : MetOk l.prog κ.w K mg base (κ "Amounts") "__len__" 1 ["self"] (conc K κ F_Amounts___len__) := ⟨⟨_, _, a22, t22, k22, B22, fnD N22 sc_Amounts___len__ (b_Amounts___len__ (P := l.prog) (base := base) (κ := κ) T )⟩⟩
  have N23 := fun_mk (st := s__law_often_right) l23 c23 k23
  have B23 := N23.binds (ps := ["one", "other"]) fun _ _ _ _ _ _ us hl => match us, hl with | [_, _], _ => rfl
  have C__law_often_right : CallOk l.prog κ.w K mg base "_law_often_right" 9 ["one", "other"] (conc K κ F__law_often_right) := ⟨⟨_, _, PySem.W.mg_of X G a23, k23, B23, fnD N23 sc__law_often_right (b__law_often_right (P := l.prog) (base := base) (κ := κ) T (M_Amounts___mul__ := M_Amounts___mul__) (M_Amounts_times := M_Amounts_times) (M_Amounts___add__ := M_Amounts___add__) (M_Amounts_covers := M_Amounts_covers) (M_Amounts___len__ := M_Amounts___len__))⟩⟩
  have N24 := fun_mk (st := s__law_roll) l24 c24 k24
  have B24 := N24.binds (ps := ["dice", "total"]) fun _ _ _ _ _ _ us hl => match us, hl with | [_, _], _ => rfl
  have C__law_roll : CallOk l.prog κ.w K mg base "_law_roll" 1 ["dice", "total"] (conc K κ F__law_roll) := ⟨⟨_, _, PySem.W.mg_of X G a24, k24, B24, fnD N24 sc__law_roll (b__law_roll (P := l.prog) (base := base) (κ := κ) T )⟩⟩
  have N25 := fun_mk (st := s__law_pick) l25 c25 k25
  have B25 := N25.binds (ps := ["dice", "items"]) fun _ _ _ _ _ _ us hl => match us, hl with | [_, _], _ => rfl
  have C__law_pick : CallOk l.prog κ.w K mg base "_law_pick" 2 ["dice", "items"] (conc K κ F__law_pick) := ⟨⟨_, _, PySem.W.mg_of X G a25, k25, B25, fnD N25 sc__law_pick (b__law_pick (P := l.prog) (base := base) (κ := κ) T (C__law_roll := C__law_roll))⟩⟩
  have N26 := fun_mk (st := s__law_some) l26 c26 k26
  have B26 := N26.binds (ps := ["dice", "items"]) fun _ _ _ _ _ _ us hl => match us, hl with | [_, _], _ => rfl
  have C__law_some : CallOk l.prog κ.w K mg base "_law_some" 2 ["dice", "items"] (conc K κ F__law_some) := ⟨⟨_, _, PySem.W.mg_of X G a26, k26, B26, fnD N26 sc__law_some (b__law_some (P := l.prog) (base := base) (κ := κ) T (C__law_roll := C__law_roll))⟩⟩
  have N27 := fun_mk (st := s__law_drawn) l27 c27 k27
  have B27 := N27.binds (ps := ["dice"]) fun _ _ _ _ _ _ us hl => match us, hl with | [_], _ => rfl
  have C__law_drawn : CallOk l.prog κ.w K mg base "_law_drawn" 6 ["dice"] (conc K κ F__law_drawn) := ⟨⟨_, _, PySem.W.mg_of X G a27, k27, B27, fnD N27 sc__law_drawn (b__law_drawn (P := l.prog) (base := base) (κ := κ) T (C__law_roll := C__law_roll) (K1_Amounts := K1_Amounts) (C__law_pick := C__law_pick) (C__law_some := C__law_some))⟩⟩
  have N28 := fun_mk (st := s__law_right) l28 c28 k28
  have B28 := N28.binds (ps := ["dice"]) fun _ _ _ _ _ _ us hl => match us, hl with | [_], _ => rfl
  have C__law_right : CallOk l.prog κ.w K mg base "_law_right" 10 ["dice"] (conc K κ F__law_right) := ⟨⟨_, _, PySem.W.mg_of X G a28, k28, B28, fnD N28 sc__law_right (b__law_right (P := l.prog) (base := base) (κ := κ) T (M_Amounts_covers := M_Amounts_covers) (C__law_covers_right := C__law_covers_right) (C__law_sums_right := C__law_sums_right) (C__law_often_right := C__law_often_right) (M_Amounts___eq__ := M_Amounts___eq__) (M_Amounts___sub__ := M_Amounts___sub__) (M_Amounts___add__ := M_Amounts___add__) (M_Amounts___len__ := M_Amounts___len__) (M_Amounts_lacks := M_Amounts_lacks) (P_Amounts_pairs := P_Amounts_pairs) (C__law_drawn := C__law_drawn))⟩⟩
  have N29 := fun_mk (st := s__law_dice) l29 c29 k29
  have B29 := N29.binds (ps := ["script", "spot"]) fun _ _ _ _ _ _ us hl => match us, hl with | [_, _], _ => rfl
  have C__law_dice : CallOk l.prog κ.w K mg base "_law_dice" 1 ["script", "spot"] (conc K κ F__law_dice) := ⟨⟨_, _, PySem.W.mg_of X G a29, k29, B29, fnD2 N29 sc__law_dice (b__law_dice (P := l.prog) (base := base) (κ := κ) T )⟩⟩
  have N30 := fun_mk (st := s_law) l30 c30 k30
  have B30 := N30.binds (ps := ["script"]) fun _ _ _ _ _ _ us hl => match us, hl with | [_], _ => rfl
  exact FnOk.imp (fnD N30 sc_law (b_law (P := l.prog) (base := base) (κ := κ) T (K1_Amounts := K1_Amounts) (M_Amounts_covers := M_Amounts_covers) (K0_Amounts := K0_Amounts) (M_Amounts___bool__ := M_Amounts___bool__) (M_Amounts___eq__ := M_Amounts___eq__) (X_Amounts_cover_of := X_Amounts_cover_of) (C__law_right := C__law_right) (C__law_dice := C__law_dice))) fun vs H Q E hq => law_conc vs H Q E hq
end
theorem walk {l : PySem.W.OpenLaw} {q : Program} {loose : List Str} {XP : (Str → Option Value) → Heap → Prop} {YP : World → Heap → Prop} {d : DefRec} {K : Params → PySem.W.Frag} (hn : l.most = some 63) (hdf : d.params.defaults = []) (hrec : ((recsOf q).any fun e => e.name == d.name) = true)
    (hY : ∀ (w : World) (h : Heap), YP w h → (K w.params).In h)
    (F : ∀ (w : World) (mg : Str → Option Value) (fa : Addr) (h : Heap), (K w.params).In h → h.Ns mainGlobals mg → mg d.name = some (.ref fa) → LamX.OwnTab (K w.params) fa h → LamX.LawAtS l w (K w.params) (L2.CX l.prog w) 11 63 "script" mg fa h) :
    PySem.W.WalkO q loose XP YP l.row.toRowW d [] (fun f vs => PySem.call f vs) :=
  LamX.walk_ofOwn (n := 63) (k := 11) (x := "script") (CX := fun w => L2.CX l.prog w) hn (size600 (by decide)) hdf ⟨rfl, by decide, by decide⟩ hrec hY (fun w mg fa h _ KX G hm own => F w mg fa h KX G hm own) fun w H s e s' z => cx_false z
end K01
set_option maxHeartbeats 0 in
open PySem PySem.W PyProof.Rows in
theorem PySem.Challenge.cw_toldstarts_k01_amounts_as_a_lattice_holds : PySem.Challenge.rw_toldstarts_k01_amounts_as_a_lattice.Holds := by
  w_on; o_law; k_head; (case hw => w_witness2)
  k_fill
  refine K01.walk (l := PySem.Challenge.rw_toldstarts_k01_amounts_as_a_lattice) rfl rfl ?R (fun w h Y => by first | exact PySem.W.kIn_of Y | exact PySem.W.km_in_of Y) ?F
  case R => first | rfl | decide +kernel
  case F =>
    intro w mg fa h KX G hmg own
    refine' K01.all_mk KX G hmg own ?aC_Amounts ?pg_Amounts ?hd_Amounts ?po_Amounts ?sa_Amounts ?mk_Amounts ?kC_Amounts ?a0 ?l0 ?c0 ?k0 ?a1 ?l1 ?c1 ?k1 ?a2 ?l2 ?c2 ?k2 ?a3 ?l3 ?c3 ?k3 ?a4 ?t4 ?l4 ?c4 ?k4 ?L4 ?G4 ?Z4 ?a5 ?l5 ?c5 ?k5 ?a6 ?l6 ?c6 ?k6 ?a7 ?t7 ?l7 ?c7 ?k7 ?a8 ?t8 ?l8 ?c8 ?k8 ?a9 ?t9 ?l9 ?c9 ?k9 ?a10 ?l10 ?c10 ?k10 ?a11 ?q11 ?w11 ?e11 ?l11 ?c11 ?k11 ?y12 ?x12 ?z12 ?a12 ?e12 ?l12 ?c12 ?k12 ?u12 ?a13 ?t13 ?l13 ?c13 ?k13 ?a14 ?l14 ?c14 ?k14 ?a15 ?t15 ?l15 ?c15 ?k15 ?a16 ?l16 ?c16 ?k16 ?a17 ?l17 ?c17 ?k17 ?a18 ?t18 ?l18 ?c18 ?k18 ?a19 ?t19 ?l19 ?c19 ?k19 ?a20 ?l20 ?c20 ?k20 ?a21 ?t21 ?l21 ?c21 ?k21 ?a22 ?t22 ?l22 ?c22 ?k22 ?a23 ?l23 ?c23 ?k23 ?a24 ?l24 ?c24 ?k24 ?a25 ?l25 ?c25 ?k25 ?a26 ?l26 ?c26 ?k26 ?a27 ?l27 ?c27 ?k27 ?a28 ?l28 ?c28 ?k28 ?a29 ?l29 ?c29 ?k29 ?a30 ?l30 ?c30 ?k30 ?n_isinstance ?n_bool ?n_int ?n_len ?n_str ?g_NOTHING ?g_MAX_KIND_SIGNS ?g_MAX_AMOUNT ?n_tuple ?g_MAX_KINDS ?n_dict ?na_Amounts__numbers ?na_Amounts__pairs ?n_sorted ?n_max ?n_abs ?g_TOO_LONG ?n_min ?n_range ?sf_Amounts ?ne_Amounts ?ob_Amounts ?r1_Amounts ?r2_Amounts ?r3_Amounts ?r4_Amounts ?i1_Amounts ?i4_Amounts ?i5_Amounts ?i2 ?i3
    (case aC_Amounts => k_is)
    (case pg_Amounts => k_is)
    (case hd_Amounts => first | rfl | k_is)
    (case po_Amounts => k_is)
    (case sa_Amounts => k_is)
    (case mk_Amounts => k_is)
    (case kC_Amounts => k_is)
    (case a0 => k_is)
    (case l0 => k_is)
    (case c0 => k_is)
    (case k0 => k_is)
    (case a1 => k_is)
    (case l1 => k_is)
    (case c1 => k_is)
    (case k1 => k_is)
    (case a2 => k_is)
    (case l2 => k_is)
    (case c2 => k_is)
    (case k2 => k_is)
    (case a3 => k_is)
    (case l3 => k_is)
    (case c3 => k_is)
    (case k3 => k_is)
    (case a4 => k_is)
    (case t4 => k_is)
    (case l4 => k_is)
    (case c4 => k_is)
    (case k4 => k_is)
    (case L4 => k_is)
    (case G4 => first | rfl | k_is)
    (case Z4 => k_is)
    (case a5 => k_is)
    (case l5 => k_is)
    (case c5 => k_is)
    (case k5 => k_is)
    (case a6 => k_is)
    (case l6 => k_is)
    (case c6 => k_is)
    (case k6 => k_is)
    (case a7 => k_is)
    (case t7 => k_is)
    (case l7 => k_is)
    (case c7 => k_is)
    (case k7 => k_is)
    (case a8 => k_is)
    (case t8 => k_is)
    (case l8 => k_is)
    (case c8 => k_is)
    (case k8 => k_is)
    (case a9 => k_is)
    (case t9 => k_is)
    (case l9 => k_is)
    (case c9 => k_is)
    (case k9 => k_is)
    (case a10 => k_is)
    (case l10 => k_is)
    (case c10 => k_is)
    (case k10 => k_is)
    (case a11 => k_is)
    (case q11 => k_is)
    (case w11 => k_is)
    (case e11 => k_is)
    (case l11 => k_is)
    (case c11 => k_is)
    (case k11 => k_is)
    (case y12 => k_is)
    (case x12 => k_is)
    (case z12 => k_is)
    (case a12 => k_is)
    (case e12 => k_is)
    (case l12 => k_is)
    (case c12 => k_is)
    (case k12 => k_is)
    (case u12 => k_is)
    (case a13 => k_is)
    (case t13 => k_is)
    (case l13 => k_is)
    (case c13 => k_is)
    (case k13 => k_is)
    (case a14 => k_is)
    (case l14 => k_is)
    (case c14 => k_is)
    (case k14 => k_is)
    (case a15 => k_is)
    (case t15 => k_is)
    (case l15 => k_is)
    (case c15 => k_is)
    (case k15 => k_is)
    (case a16 => k_is)
    (case l16 => k_is)
    (case c16 => k_is)
    (case k16 => k_is)
    (case a17 => k_is)
    (case l17 => k_is)
    (case c17 => k_is)
    (case k17 => k_is)
    (case a18 => k_is)
    (case t18 => k_is)
    (case l18 => k_is)
    (case c18 => k_is)
    (case k18 => k_is)
    (case a19 => k_is)
    (case t19 => k_is)
    (case l19 => k_is)
    (case c19 => k_is)
    (case k19 => k_is)
    (case a20 => k_is)
    (case l20 => k_is)
    (case c20 => k_is)
    (case k20 => k_is)
    (case a21 => k_is)
    (case t21 => k_is)
    (case l21 => k_is)
    (case c21 => k_is)
    (case k21 => k_is)
    (case a22 => k_is)
    (case t22 => k_is)
    (case l22 => k_is)
    (case c22 => k_is)
    (case k22 => k_is)
    (case a23 => k_is)
    (case l23 => k_is)
    (case c23 => k_is)
    (case k23 => k_is)
    (case a24 => k_is)
    (case l24 => k_is)
    (case c24 => k_is)
    (case k24 => k_is)
    (case a25 => k_is)
    (case l25 => k_is)
    (case c25 => k_is)
    (case k25 => k_is)
    (case a26 => k_is)
    (case l26 => k_is)
    (case c26 => k_is)
    (case k26 => k_is)
    (case a27 => k_is)
    (case l27 => k_is)
    (case c27 => k_is)
    (case k27 => k_is)
    (case a28 => k_is)
    (case l28 => k_is)
    (case c28 => k_is)
    (case k28 => k_is)
    (case a29 => k_is)
    (case l29 => k_is)
    (case c29 => k_is)
    (case k29 => k_is)
    (case a30 => k_is)
    (case l30 => k_is)
    (case c30 => k_is)
    (case k30 => k_is)
    (case n_isinstance => k_is)
    (case n_bool => k_is)
    (case n_int => k_is)
    (case n_len => k_is)
    (case n_str => k_is)
    (case g_NOTHING => k_is)
    (case g_MAX_KIND_SIGNS => k_is)
    (case g_MAX_AMOUNT => k_is)
    (case n_tuple => k_is)
    (case g_MAX_KINDS => k_is)
    (case n_dict => k_is)
    (case na_Amounts__numbers => k_is)
    (case na_Amounts__pairs => k_is)
    (case n_sorted => k_is)
    (case n_max => k_is)
    (case n_abs => k_is)
    (case g_TOO_LONG => k_is)
    (case n_min => k_is)
    (case n_range => k_is)
    (case sf_Amounts => k_is)
    (case ne_Amounts => k_is)
    (case ob_Amounts => first | rfl | k_is)
    (case r1_Amounts => k_is)
    (case r2_Amounts => k_is)
    (case r3_Amounts => k_is)
    (case r4_Amounts => k_is)
    (case i1_Amounts => k_is)
    (case i4_Amounts => k_is)
    (case i5_Amounts => first | rfl | k_is)
    (case i2 => k_is)
    (case i3 => k_is)
